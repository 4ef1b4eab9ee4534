/- AutoPairs: Outside, Shared and Unlike answer the least texts of one and not of the other, of both, of one alone; none where there is none. Conditions: the table of math/bits holds what its initialiser lays (the card ties that to the program's text). -/
/- Texts of this claim put together: LawAutoPairs, ProofAutoPairs. -/
import Derived.Test.YtjcfnmjjkadaeaaGreatDoorJoinHead7
import Derived.Test.YtjcfnmjjkadaeaaGreatDoorJoinTsC
import Derived.Test.YtjcfnmjjkadaeaaGreatDoorJoinAuE
import Derived.Test.YtjcfnmjjkadaeaaGreatDoorJoinOpenS
import Derived.Test.YtjcfnmjjkadaeaaGreatDoorCards
import Derived.Test.YtjcfnmjjkadaeaaGreatDoorTie
/- AutoPairs: texts of one and not of the other, of both, of one alone: the least; none where there is none. -/
namespace Go.Proofs.YtjcfnmjjkadaeaaGreatDoor
set_option maxRecDepth 100000
set_option linter.unusedSimpArgs false
set_option linter.unusedVariables false
open Go.RowKit Go.Shelf

/-- What a question answers: a text, whether there is one, whether there were states enough. -/
structure WitQ (r : RE) (w : List Nat) (ok : Bool) (c : Nat) : Prop where
  code : c = 0 ∨ c = 5
  b : By w
  yes : c = 0 → ok = true → r.lang w ∧ ∀ u, By u → r.lang u → leW w u
  no : c = 0 → ok = false → w = [] ∧ ∀ u, By u → ¬ r.lang u
theorem WitP.q {g : Int} {r : RE} {e : Ending} (h : WitP g r e) : ∃ w ok c, WitQ r w ok c ∧ e = .returned (.tuple #[.string (strB w), .bool ok, .int .i64 c]) := by
  rcases h with ⟨-, rfl⟩ | ⟨w, hb, hi, hl, rfl⟩ | ⟨hn, rfl⟩
  · exact ⟨[], false, 5, ⟨.inr rfl, fun x hx => absurd hx (by simp), fun h => absurd h (by decide), fun h => absurd h (by decide)⟩, rfl⟩
  · exact ⟨w, true, 0, ⟨.inl rfl, hb, fun _ _ => ⟨hi, hl⟩, fun _ h => absurd h (by decide)⟩, rfl⟩
  · exact ⟨[], false, 0, ⟨.inl rfl, fun x hx => absurd hx (by simp), fun _ h => absurd h (by decide), fun _ _ => ⟨rfl, hn⟩⟩, rfl⟩
theorem WitQ.least {r : RE} {w : List Nat} {ok : Bool} {c : Nat} (h : WitQ r w ok c) (hc : c = 0) {p : List Nat → Bool} (hp : ∀ u, By u → (p u = true ↔ r.lang u)) (hl : ∀ u, r.lang u → By u → LetT u) : leastB w ok p = true := by
  cases ok with
  | true =>
    obtain ⟨h1, h2⟩ := h.yes hc rfl
    exact least_some ((hp w h.b).2 h1) (hl w h1 h.b) fun u hu hpu => h2 u hu ((hp u hu).1 hpu)
  | false =>
    obtain ⟨rfl, h2⟩ := h.no hc rfl
    exact least_none fun u hu => by
      rw [Bool.eq_false_iff]
      exact fun h => h2 u hu ((hp u hu).1 h)
theorem hB_strQ {s : SHP} {t : List Nat} (ht : By t) : hB s.lang (strB t) = true ↔ s.re.lang t := by rw [hB_strB ht, shape_lang s t ht]
theorem cnt_flat (o : Nat) {l : List RE} {n : Nat} (h : cntL l ≤ n) (hn : n ≤ 1099511627776) : (flatL o l).length ≤ 1099511627776 := by
  have h1 := cntL_len (flatL o l)
  have h2 := cntL_flatL o l
  omega
theorem i3_cells (c1 c2 c3 : Nat) (h1 : c1 = 0 ∨ c1 = 5) (h2 : c2 = 0 ∨ c2 = 5) (h3 : c3 = 0 ∨ c3 = 5) {k : Nat} (hk : k < 3) : ∃ c : Nat, (c = 0 ∨ c = 5) ∧ (#[Value.int .i64 (c1 : Int), .int .i64 (c2 : Int), .int .i64 (c3 : Int)] : Array Value)[k]? = some (.int .i64 (c : Int)) := by
  obtain rfl | rfl | rfl : k = 0 ∨ k = 1 ∨ k = 2 := by omega
  · exact ⟨c1, h1, rfl⟩
  · exact ⟨c2, h2, rfl⟩
  · exact ⟨c3, h3, rfl⟩
set_option maxHeartbeats 8000000 in
theorem autoPairs_any (cs ct : List Value) (s t : SHP) (w : World) (hs : ShC w cs s) (ht : ShC w ct t) (hT : TabAt w) :
    Calls Tryz.prog 5 #[ShVal cs, ShVal ct] w fun e w' => e = .returned (.bool true) ∧ Below w.heap.size w w' := by
  have HC := hide hs
  have HCt := hide ht
  have HT := hide hT
  obtain ⟨kv, hcs, hrow, -⟩ := hs.open
  obtain ⟨-, a, cap, rfl, -⟩ := hrow.at
  obtain ⟨kt, hct, hrowt, -⟩ := ht.open
  obtain ⟨-, at0, capt, rfl, -⟩ := hrowt.at
  have HCS := hide hcs
  have HCT := hide hct
  have hv0 : ShVal cs = .agg #[.int .i64 s.op, .int .u8 s.lo, .int .u8 s.hi, .string s.text, .slice a s.kids.length cap] := by rw [hcs]; rfl
  have hv1 : ShVal ct = .agg #[.int .i64 t.op, .int .u8 t.lo, .int .u8 t.hi, .string t.text, .slice at0 t.kids.length capt] := by rw [hct]; rfl
  rw [hv0, hv1]
  have HV0 := hide hv0
  have HV1 := hide hv1
  clear hs ht hT hrow hrowt hcs hct hv0 hv1
  obtain ⟨B, hB⟩ : ∃ B, B = w.heap.size := ⟨_, rfl⟩
  obtain ⟨wa, hwa⟩ : ∃ wa, (w.alloc (.cells #[.int .i64 s.op, .int .u8 s.lo, .int .u8 s.hi, .string s.text, .slice a s.kids.length cap] 24)).alloc (.cells #[.int .i64 t.op, .int .u8 t.lo, .int .u8 t.hi, .string t.text, .slice at0 t.kids.length capt] 24) = wa := ⟨_, rfl⟩
  have hb0 : Below B w (w.alloc (.cells #[.int .i64 s.op, .int .u8 s.lo, .int .u8 s.hi, .string s.text, .slice a s.kids.length cap] 24)) := (Below.refl _ _).alloc (Nat.le_of_eq hB) _
  have hba : Below B w wa := by rw [← hwa]; exact hb0.alloc (by simp; omega) _
  have hbs : Blk wa B #[.int .i64 s.op, .int .u8 s.lo, .int .u8 s.hi, .string s.text, .slice a s.kids.length cap] 24 := by
    rw [← hwa]
    exact (Blk.newAt hB _ _).below ((Below.refl _ _).alloc (Nat.le_refl _) _) (by simp; omega)
  have hbt : Blk wa (B + 1) #[.int .i64 t.op, .int .u8 t.lo, .int .u8 t.hi, .string t.text, .slice at0 t.kids.length capt] 24 := by rw [← hwa]; exact Blk.newAt (by simp; omega) _ _
  have HPB : Hid (PairB wa cs ct s t B (B + 1)) := ⟨HC.out.keep (hB ▸ hba), HCt.out.keep (hB ▸ hba), by rw [HCS.out]; exact hbs, by rw [HCT.out]; exact hbt⟩
  have hza : B + 2 = wa.heap.size := by rw [← hwa]; simp; omega
  have HBA := hide hba
  have HTA := hide (HT.out.agree (Agree.of_all (K := fun _ => True) (hB ▸ hba)) trivial)
  have HZA := hide hza
  have HSZ : Hid (B ≤ wa.heap.size) := by show _ ≤ _; omega
  have HB := hide hB
  have HSB := hide hbs
  have HTB := hide hbt
  clear hb0 hba hbs hbt hza
  have hB1 : w.heap.size + 1 = B + 1 := by rw [hB]
  go_enter Tryz.func5, Tryz.ntmps5
  go_wp2_with fail
  clear hwa hB1
  refine (head7_any wa HTA.out).mono ?_
  rintro e w1 ⟨rfl, hb1⟩
  rw [← hB]
  clear hB
  have HB1 := hide hb1
  clear hb1
  have xB := HSB.out.below HB1.out HSB.out.lt
  have x0 := xB.cell 0; have x1 := xB.cell 1; have x2 := xB.cell 2; have x3 := xB.cell 3; have x4 := xB.cell 4
  simp only [List.getElem?_toArray, List.getElem?_cons_zero, List.getElem?_cons_succ] at x0 x1 x2 x3 x4
  clear xB
  have hcnt := count_any s _ 0 w1 (HPB.out.keep HB1.out).s (by omega)
  rw [HV0.out] at hcnt
  have HCNT := hide hcnt
  clear hcnt
  go_wp2_with fail
  refine HCNT.out.mono ?_
  rintro e w2 ⟨c, rfl, -, hcc, hb2⟩
  have HB2 := hide (HB1.out.trans (hb2.mono HB1.out.size))
  have HCW := hide hcc
  clear hb2 hcc HCNT x0 x1 x2 x3 x4 HB1
  by_cases h10 : 10 < c
  · have d10 : decide ((10 : Int) < (c : Int)) = true := decide_eq_true (by omega)
    go_wp2
    go_ret
    exact ⟨rfl, HB.out ▸ HBA.out.trans (HB2.out.mono HSZ.out)⟩
  have d10 : decide ((10 : Int) < (c : Int)) = false := decide_eq_false (by omega)
  obtain ⟨htx, hnd⟩ := HCW.out (by omega)
  have hnd30 : s.nodes ≤ 30 := by omega
  clear HCW
  have xB := HTB.out.below HB2.out HTB.out.lt
  have y0 := xB.cell 0; have y1 := xB.cell 1; have y2 := xB.cell 2; have y3 := xB.cell 3; have y4 := xB.cell 4
  simp only [List.getElem?_toArray, List.getElem?_cons_zero, List.getElem?_cons_succ] at y0 y1 y2 y3 y4
  clear xB
  have hcnt := count_any t _ 0 w2 (HPB.out.keep HB2.out).t (by omega)
  rw [HV1.out] at hcnt
  have HCNT := hide hcnt
  clear hcnt
  go_wp2_with fail
  refine HCNT.out.mono ?_
  rintro e w3 ⟨c', rfl, -, hcc, hb3⟩
  have HB3 := hide (HB2.out.trans (hb3.mono HB2.out.size))
  have HCW := hide hcc
  clear hb3 hcc HCNT y0 y1 y2 y3 y4 HB2 d10
  by_cases h10' : 10 < c'
  · have d10 : decide ((10 : Int) < (c' : Int)) = true := decide_eq_true (by omega)
    go_wp2
    go_ret
    exact ⟨rfl, HB.out ▸ HBA.out.trans (HB3.out.mono HSZ.out)⟩
  have d10' : decide ((10 : Int) < (c' : Int)) = false := decide_eq_false (by omega)
  obtain ⟨htx', hnd'⟩ := HCW.out (by omega)
  have hnd30' : t.nodes ≤ 30 := by omega
  clear HCW
  have xB := HSB.out.below HB3.out HSB.out.lt
  have x0 := xB.cell 0; have x1 := xB.cell 1; have x2 := xB.cell 2; have x3 := xB.cell 3; have x4 := xB.cell 4
  simp only [List.getElem?_toArray, List.getElem?_cons_zero, List.getElem?_cons_succ] at x0 x1 x2 x3 x4
  clear xB
  have hpu := pure_any s _ w3 (HPB.out.keep HB3.out).s
  rw [HV0.out] at hpu
  have HPU := hide hpu
  clear hpu
  obtain ⟨pu, hpu⟩ : ∃ pu, s.pure = pu := ⟨_, rfl⟩
  rw [hpu] at HPU
  have HPP := hide hpu
  clear hpu
  go_wp2_with fail
  refine HPU.out.mono ?_
  rintro e w4 ⟨rfl, hb4⟩
  have HB4 := hide (HB3.out.trans (hb4.mono HB3.out.size))
  clear hb4 HPU x0 x1 x2 x3 x4 HB3 d10'
  cases pu with
  | false =>
    go_wp2
    go_ret
    exact ⟨rfl, HB.out ▸ HBA.out.trans (HB4.out.mono HSZ.out)⟩
  | true =>
  have xB := HTB.out.below HB4.out HTB.out.lt
  have y0 := xB.cell 0; have y1 := xB.cell 1; have y2 := xB.cell 2; have y3 := xB.cell 3; have y4 := xB.cell 4
  simp only [List.getElem?_toArray, List.getElem?_cons_zero, List.getElem?_cons_succ] at y0 y1 y2 y3 y4
  clear xB
  have hpu := pure_any t _ w4 (HPB.out.keep HB4.out).t
  rw [HV1.out] at hpu
  have HPU := hide hpu
  clear hpu
  obtain ⟨pu, hpu⟩ : ∃ pu, t.pure = pu := ⟨_, rfl⟩
  rw [hpu] at HPU
  have HPQ := hide hpu
  clear hpu
  go_wp2_with fail
  refine HPU.out.mono ?_
  rintro e w5 ⟨rfl, hb5⟩
  have HB5 := hide (HB4.out.trans (hb5.mono HB4.out.size))
  clear hb5 HPU y0 y1 y2 y3 y4 HB4
  cases pu with
  | false =>
    go_wp2
    go_ret
    exact ⟨rfl, HB.out ▸ HBA.out.trans (HB5.out.mono HSZ.out)⟩
  | true =>
  have xB := HSB.out.below HB5.out HSB.out.lt
  have x0 := xB.cell 0; have x1 := xB.cell 1; have x2 := xB.cell 2; have x3 := xB.cell 3; have x4 := xB.cell 4
  simp only [List.getElem?_toArray, List.getElem?_cons_zero, List.getElem?_cons_succ] at x0 x1 x2 x3 x4
  clear xB
  have hmk := make_any s _ w5 (HPB.out.keep HB5.out).s htx hnd30 (HTA.out.agree (Agree.of_all (K := fun _ => True) HB5.out) trivial)
  rw [HV0.out] at hmk
  have HMK := hide hmk
  clear hmk
  go_wp2_with fail
  refine HMK.out.mono ?_
  rintro e w6 ⟨rx, rfl, hr6, hb6⟩
  have HB6 := hide (HB5.out.trans (hb6.mono HB5.out.size))
  have HR6 := hide hr6
  clear x0 x1 x2 x3 x4 HMK hb6 hr6 HB5
  have xB := HTB.out.below HB6.out HTB.out.lt
  have y0 := xB.cell 0; have y1 := xB.cell 1; have y2 := xB.cell 2; have y3 := xB.cell 3; have y4 := xB.cell 4
  simp only [List.getElem?_toArray, List.getElem?_cons_zero, List.getElem?_cons_succ] at y0 y1 y2 y3 y4
  clear xB
  have hmk := make_any t _ w6 (HPB.out.keep HB6.out).t htx' hnd30' (HTA.out.agree (Agree.of_all (K := fun _ => True) HB6.out) trivial)
  rw [HV1.out] at hmk
  have HMK := hide hmk
  clear hmk
  try unfold PT
  go_wp2_with fail
  refine HMK.out.mono ?_
  rintro e v0 ⟨ry, rfl, hr7, hb7⟩
  have HA0 := hide (HB6.out.trans (hb7.mono HB6.out.size))
  have HRX := hide (HR6.out.keep hb7)
  have HRY := hide hr7
  have hcx := s.cnt htx
  have hcy := t.cnt htx'
  have HL6 : Hid ((flatL 6 [s.re, t.re]).length ≤ 1099511627776) := cnt_flat 6 (l := [s.re, t.re]) (n := 2000) (by rw [cntL_cons, cntL_cons]; simp [cntL]; omega) (by omega)
  have HL4 : Hid ((flatL 4 [rBut s.re t.re, rBut t.re s.re]).length ≤ 1099511627776) := cnt_flat 4 (l := [rBut s.re t.re, rBut t.re s.re]) (n := 4000) (by
    have h1 := cnt_but s.re t.re
    have h2 := cnt_but t.re s.re
    rw [cntL_cons, cntL_cons]; simp [cntL]; omega) (by omega)
  have HTV : Hid (∀ W, Below v0.heap.size v0 W → TabAt W) := fun W hW => HTA.out.agree (Agree.of_all (K := fun _ => True) (HA0.out.trans (hW.mono HA0.out.size))) trivial
  have HLX := hide (pure_let s HPP.out)
  have HLY := hide (pure_let t HPQ.out)
  clear y0 y1 y2 y3 y4 HMK hb7 hr7 HR6 HB6 hcx hcy
  have HV := hide (Below.refl v0.heap.size v0)
  try unfold PT
  go_wp2_with fail
  refine (grant_any 400 v0 (by omega)).mono ?_
  rintro e z1 ⟨bud, rfl, hbd, hbl, hbz⟩
  rw [show max (400 : Int) 0 = 400 from by omega] at hbd
  have HZ1 := hide (HV.out.trans (hbz.mono HV.out.size))
  have hvb : v0.heap.size ≤ bud := Nat.le_trans HV.out.size hbl
  have HWI := hide (outside_new s.re t.re rx ry z1 (HRX.out.keep HZ1.out) (HRY.out.keep HZ1.out) s.wf t.wf bud 400 hbd (by omega) (by omega) (HTV.out z1 HZ1.out))
  clear hbd hbl hbz
  unfold PT at HWI
  try unfold PT
  go_wp2_with fail
  refine HWI.out.mono ?_
  rintro e u1 ⟨hwit, hfr⟩
  obtain ⟨t1, ok1, c1, hq1, rfl⟩ := hwit.q
  have HV1 := hide (HZ1.out.trans (hfr v0.heap.size HZ1.out.size hvb))
  have HQ1 := hide hq1
  have hc1 := hq1.code
  have HC1 := hide hc1
  obtain ⟨s1, hs1⟩ : ∃ s', strB t1 = s' := ⟨_, rfl⟩
  have HS1 := hide hs1
  rw [hs1]
  clear HWI hfr hwit hq1 hvb HZ1 hc1 hs1
  try unfold PT
  go_wp2_with fail
  refine (grant_any 400 u1 (by omega)).mono ?_
  rintro e z2 ⟨bud, rfl, hbd, hbl, hbz⟩
  rw [show max (400 : Int) 0 = 400 from by omega] at hbd
  have HZ2 := hide (HV1.out.trans (hbz.mono HV1.out.size))
  have hvb : v0.heap.size ≤ bud := Nat.le_trans HV1.out.size hbl
  have HWI := hide (shared_new s.re t.re rx ry z2 (HRX.out.keep HZ2.out) (HRY.out.keep HZ2.out) s.wf t.wf HL6.out bud 400 hbd (by omega) (by omega) (HTV.out z2 HZ2.out))
  clear hbd hbl hbz
  unfold PT at HWI
  try unfold PT
  go_wp2_with fail
  refine HWI.out.mono ?_
  rintro e u2 ⟨hwit, hfr⟩
  obtain ⟨t2, ok2, c2, hq2, rfl⟩ := hwit.q
  have HV2 := hide (HZ2.out.trans (hfr v0.heap.size HZ2.out.size hvb))
  have HQ2 := hide hq2
  have hc2 := hq2.code
  have HC2 := hide hc2
  obtain ⟨s2, hs2⟩ : ∃ s', strB t2 = s' := ⟨_, rfl⟩
  have HS2 := hide hs2
  rw [hs2]
  clear HWI hfr hwit hq2 hvb HZ2 hc2 hs2
  try unfold PT
  go_wp2_with fail
  refine (grant_any 400 u2 (by omega)).mono ?_
  rintro e z3 ⟨bud, rfl, hbd, hbl, hbz⟩
  rw [show max (400 : Int) 0 = 400 from by omega] at hbd
  have HZ3 := hide (HV2.out.trans (hbz.mono HV2.out.size))
  have hvb : v0.heap.size ≤ bud := Nat.le_trans HV2.out.size hbl
  have HWI := hide (unlike_new s.re t.re rx ry z3 (HRX.out.keep HZ3.out) (HRY.out.keep HZ3.out) s.wf t.wf HL4.out bud 400 hbd (by omega) (by omega) (HTV.out z3 HZ3.out))
  clear hbd hbl hbz
  unfold PT at HWI
  try unfold PT
  go_wp2_with fail
  refine HWI.out.mono ?_
  rintro e u3 ⟨hwit, hfr⟩
  obtain ⟨t3, ok3, c3, hq3, rfl⟩ := hwit.q
  have HV3 := hide (HZ3.out.trans (hfr v0.heap.size HZ3.out.size hvb))
  have HQ3 := hide hq3
  have hc3 := hq3.code
  have HC3 := hide hc3
  obtain ⟨s3, hs3⟩ : ∃ s', strB t3 = s' := ⟨_, rfl⟩
  have HS3 := hide hs3
  rw [hs3]
  clear HWI hfr hwit hq3 hvb HZ3 hc3 hs3
  have HBW : Hid (∀ W, Below v0.heap.size v0 W → Below B w W) := fun W hW => HBA.out.trans (((HA0.out.trans (hW.mono HA0.out.size))).mono HSZ.out)
  have HZ : Hid (wa.heap.size ≤ v0.heap.size) := HA0.out.size
  by_cases h81 : 8 < s1.size
  · have d8 : decide ((8 : Int) < (s1.size : Int)) = true := decide_eq_true (by omega)
    have d9 : decide (8 < s1.size) = true := decide_eq_true h81
    go_wp2
    go_ret
    exact ⟨rfl, HB.out ▸ HBW.out _ HV3.out⟩
  have d81 : decide ((8 : Int) < (s1.size : Int)) = false := decide_eq_false (by omega)
  have HN1 : Hid (t1.length ≤ 8) := by
    show _ ≤ _
    rw [← strB_len, HS1.out]; omega
  by_cases h82 : 8 < s2.size
  · have d8 : decide ((8 : Int) < (s2.size : Int)) = true := decide_eq_true (by omega)
    have d9 : decide (8 < s2.size) = true := decide_eq_true h82
    go_wp2
    go_ret
    exact ⟨rfl, HB.out ▸ HBW.out _ HV3.out⟩
  have d82 : decide ((8 : Int) < (s2.size : Int)) = false := decide_eq_false (by omega)
  have HN2 : Hid (t2.length ≤ 8) := by
    show _ ≤ _
    rw [← strB_len, HS2.out]; omega
  by_cases h83 : 8 < s3.size
  · have d8 : decide ((8 : Int) < (s3.size : Int)) = true := decide_eq_true (by omega)
    have d9 : decide (8 < s3.size) = true := decide_eq_true h83
    go_wp2
    go_ret
    exact ⟨rfl, HB.out ▸ HBW.out _ HV3.out⟩
  have d83 : decide ((8 : Int) < (s3.size : Int)) = false := decide_eq_false (by omega)
  have HN3 : Hid (t3.length ≤ 8) := by
    show _ ≤ _
    rw [← strB_len, HS3.out]; omega
  have HPV : Hid (∀ W, Below v0.heap.size v0 W → PairB W cs ct s t B (B + 1)) := fun W hW => HPB.out.keep (HA0.out.trans (hW.mono HA0.out.size))
  have HP1 : Hid (∀ W, Below v0.heap.size v0 W → c1 = 0 → Calls Tryz.prog 23 #[.string s1, .bool ok1, .func (.func 28) #[] #[PT B, PT (B + 1)]] W fun e w' => e = .returned (.bool true) ∧ Below W.heap.size W w') := fun W hW hc => by
    have h := leastL_any 28 #[] #[PT B, PT (B + 1)] _ t1 ok1 W HQ1.out.b HN1.out (pair1_holds (HPV.out W hW))
    rw [HQ1.out.least hc (fun u hu => by
      rw [Bool.and_eq_true, Bool.not_eq_true', hB_strQ hu, lang_but s.wf t.wf, ← Bool.not_eq_true, hB_strQ hu]) (fun u hu hb => HLX.out u ((shape_lang s u hb).1 ((lang_but s.wf t.wf u).1 hu).1)), HS1.out] at h
    exact h
  have HP2 : Hid (∀ W, Below v0.heap.size v0 W → c2 = 0 → Calls Tryz.prog 23 #[.string s2, .bool ok2, .func (.func 29) #[] #[PT B, PT (B + 1)]] W fun e w' => e = .returned (.bool true) ∧ Below W.heap.size W w') := fun W hW hc => by
    have hw2 : ∀ r ∈ [s.re, t.re], Wf r := fun r hr => by
      rcases List.mem_cons.1 hr with rfl | hr
      · exact s.wf
      · rcases List.mem_singleton.1 hr with rfl; exact t.wf
    have hbo : ∀ u, By u → ((rBoth [s.re, t.re]).lang u ↔ s.re.lang u ∧ t.re.lang u) := fun u hu => by
      rw [lang_both hw2 u hu]; simp
    have h := leastL_any 29 #[] #[PT B, PT (B + 1)] _ t2 ok2 W HQ2.out.b HN2.out (pair2_holds (HPV.out W hW))
    rw [HQ2.out.least hc (fun u hu => by
      rw [Bool.and_eq_true, hB_strQ hu, hB_strQ hu, hbo u hu]) (fun u hu hb => HLX.out u ((shape_lang s u hb).1 ((hbo u hb).1 hu).1)), HS2.out] at h
    exact h
  have HUN : Hid (∀ u, (rAny [rBut s.re t.re, rBut t.re s.re]).lang u ↔ (s.re.lang u ∧ ¬ t.re.lang u) ∨ (t.re.lang u ∧ ¬ s.re.lang u)) := fun u => by
    have hw2 : ∀ r ∈ [rBut s.re t.re, rBut t.re s.re], Wf r := fun r hr => by
      rcases List.mem_cons.1 hr with rfl | hr
      · exact wf_but s.wf t.wf
      · rcases List.mem_singleton.1 hr with rfl; exact wf_but t.wf s.wf
    rw [lang_any hw2]
    simp [lang_but s.wf t.wf, lang_but t.wf s.wf]
  have HP3 : Hid (∀ W, Below v0.heap.size v0 W → c3 = 0 → Calls Tryz.prog 23 #[.string s3, .bool ok3, .func (.func 30) #[] #[PT B, PT (B + 1)]] W fun e w' => e = .returned (.bool true) ∧ Below W.heap.size W w') := fun W hW hc => by
    have h := leastL_any 30 #[] #[PT B, PT (B + 1)] _ t3 ok3 W HQ3.out.b HN3.out (pair3_holds (HPV.out W hW))
    rw [HQ3.out.least hc (fun u hu => by
      rw [HUN.out u, ← hB_strQ hu, ← hB_strQ hu]
      cases hB s.lang (strB u) <;> cases hB t.lang (strB u) <;> simp) (fun u hu hb => by
      rcases (HUN.out u).1 hu with h | h
      · exact HLX.out u ((shape_lang s u hb).1 h.1)
      · exact HLY.out u ((shape_lang t u hb).1 h.1)), HS3.out] at h
    exact h
  have HSO : Hid (c1 = 0 → c3 = 0 → ok1 = true → ok3 = true) := fun h1 h3 ho => by
    cases h : ok3 with
    | true => rfl
    | false =>
      exfalso
      have hin := (HQ1.out.yes h1 ho).1
      exact (HQ3.out.no h3 h).2 t1 HQ1.out.b ((HUN.out t1).2 (.inl ((lang_but s.wf t.wf t1).1 hin)))
  have HI3 := hide (fun (k : Nat) (hk : k < 3) => i3_cells c1 c2 c3 HC1.out HC2.out HC3.out hk)
  unfold PT at HP1 HP2 HP3
  have hc1 := HC1.out
  have hc2 := HC2.out
  have hc3 := HC3.out
  clear HRX HRY HL6 HL4 HLX HLY
  rcases hc1 with rfl | rfl <;> rcases hc2 with rfl | rfl <;> rcases hc3 with rfl | rfl
  · have HPC := hide (HP1.out u3 HV3.out (by simp))
    try unfold PT
    go_wp2_with fail
    refine HPC.out.mono ?_
    rintro e k1 ⟨rfl, hbk⟩
    have HK1 := hide (HV3.out.trans (hbk.mono HV3.out.size))
    clear HPC hbk
    have HPC := hide (HP2.out k1 HK1.out (by simp))
    try unfold PT
    go_wp2_with fail
    refine HPC.out.mono ?_
    rintro e k2 ⟨rfl, hbk⟩
    have HK2 := hide (HK1.out.trans (hbk.mono HK1.out.size))
    clear HPC hbk
    have HPC := hide (HP3.out k2 HK2.out (by simp))
    try unfold PT
    go_wp2_with fail
    refine HPC.out.mono ?_
    rintro e k3 ⟨rfl, hbk⟩
    have HK3 := hide (HK2.out.trans (hbk.mono HK2.out.size))
    clear HPC hbk
    obtain ⟨wn, hwn⟩ : ∃ wn, k3.alloc (.cells #[.int .i64 0, .int .i64 0, .int .i64 0] 27) = wn := ⟨_, rfl⟩
    have HKN : Hid (Blk wn k3.heap.size #[.int .i64 0, .int .i64 0, .int .i64 0] 27) := by rw [← hwn]; exact Blk.newAt rfl _ _
    have HWN : Hid (Below v0.heap.size v0 wn) := by rw [← hwn]; exact HK3.out.alloc HK3.out.size _
    go_wp2
    go_loopw [111] (fun iv wr => ∃ k : Nat, iv = .int .i64 k ∧ k ≤ 3 ∧ wr = wn) (fun iv _ => 3 - (intOf iv).toNat)
    case atStart => exact ⟨0, rfl, Nat.zero_le _, rfl⟩
    case round =>
      obtain ⟨k, rfl, hk3, rfl⟩ := hrel
      by_cases hlt : k < 3
      · have hd3 : decide ((k : Int) < 3) = true := by simp; omega
        obtain ⟨cc, hcc, hce⟩ := HI3.out k hlt
        have hcell := (HKN.out.cell k).trans hce
        clear hce
        rcases hcc with rfl | rfl
        · go_wp2
          exact ⟨⟨k + 1, by go_num, hlt, by first | rfl | trivial⟩, by simp [intOf]; omega⟩
        · go_wp2
          exact ⟨⟨k + 1, by go_num, hlt, by first | rfl | trivial⟩, by simp [intOf]; omega⟩
      · have hd3 : decide ((k : Int) < 3) = false := by simp; omega
        have hso := HSO.out (by simp) (by simp)
        cases ok3 with
        | true =>
          go_wp2
          go_ret
          exact ⟨rfl, HB.out ▸ HBW.out _ HWN.out⟩
        | false =>
          cases ok1 with
          | true => exact absurd (hso rfl) (by decide)
          | false =>
            go_wp2
            go_ret
            exact ⟨rfl, HB.out ▸ HBW.out _ HWN.out⟩
  · have HPC := hide (HP1.out u3 HV3.out (by simp))
    try unfold PT
    go_wp2_with fail
    refine HPC.out.mono ?_
    rintro e k1 ⟨rfl, hbk⟩
    have HK1 := hide (HV3.out.trans (hbk.mono HV3.out.size))
    clear HPC hbk
    have HPC := hide (HP2.out k1 HK1.out (by simp))
    try unfold PT
    go_wp2_with fail
    refine HPC.out.mono ?_
    rintro e k2 ⟨rfl, hbk⟩
    have HK2 := hide (HK1.out.trans (hbk.mono HK1.out.size))
    clear HPC hbk
    obtain ⟨wn, hwn⟩ : ∃ wn, k2.alloc (.cells #[.int .i64 0, .int .i64 0, .int .i64 5] 27) = wn := ⟨_, rfl⟩
    have HKN : Hid (Blk wn k2.heap.size #[.int .i64 0, .int .i64 0, .int .i64 5] 27) := by rw [← hwn]; exact Blk.newAt rfl _ _
    have HWN : Hid (Below v0.heap.size v0 wn) := by rw [← hwn]; exact HK2.out.alloc HK2.out.size _
    go_wp2
    go_loopw [111] (fun iv wr => ∃ k : Nat, iv = .int .i64 k ∧ k ≤ 3 ∧ wr = wn) (fun iv _ => 3 - (intOf iv).toNat)
    case atStart => exact ⟨0, rfl, Nat.zero_le _, rfl⟩
    case round =>
      obtain ⟨k, rfl, hk3, rfl⟩ := hrel
      by_cases hlt : k < 3
      · have hd3 : decide ((k : Int) < 3) = true := by simp; omega
        obtain ⟨cc, hcc, hce⟩ := HI3.out k hlt
        have hcell := (HKN.out.cell k).trans hce
        clear hce
        rcases hcc with rfl | rfl
        · go_wp2
          exact ⟨⟨k + 1, by go_num, hlt, by first | rfl | trivial⟩, by simp [intOf]; omega⟩
        · go_wp2
          exact ⟨⟨k + 1, by go_num, hlt, by first | rfl | trivial⟩, by simp [intOf]; omega⟩
      · have hd3 : decide ((k : Int) < 3) = false := by simp; omega
        go_wp2
        go_ret
        exact ⟨rfl, HB.out ▸ HBW.out _ HWN.out⟩
  · have HPC := hide (HP1.out u3 HV3.out (by simp))
    try unfold PT
    go_wp2_with fail
    refine HPC.out.mono ?_
    rintro e k1 ⟨rfl, hbk⟩
    have HK1 := hide (HV3.out.trans (hbk.mono HV3.out.size))
    clear HPC hbk
    have HPC := hide (HP3.out k1 HK1.out (by simp))
    try unfold PT
    go_wp2_with fail
    refine HPC.out.mono ?_
    rintro e k3 ⟨rfl, hbk⟩
    have HK3 := hide (HK1.out.trans (hbk.mono HK1.out.size))
    clear HPC hbk
    obtain ⟨wn, hwn⟩ : ∃ wn, k3.alloc (.cells #[.int .i64 0, .int .i64 5, .int .i64 0] 27) = wn := ⟨_, rfl⟩
    have HKN : Hid (Blk wn k3.heap.size #[.int .i64 0, .int .i64 5, .int .i64 0] 27) := by rw [← hwn]; exact Blk.newAt rfl _ _
    have HWN : Hid (Below v0.heap.size v0 wn) := by rw [← hwn]; exact HK3.out.alloc HK3.out.size _
    go_wp2
    go_loopw [111] (fun iv wr => ∃ k : Nat, iv = .int .i64 k ∧ k ≤ 3 ∧ wr = wn) (fun iv _ => 3 - (intOf iv).toNat)
    case atStart => exact ⟨0, rfl, Nat.zero_le _, rfl⟩
    case round =>
      obtain ⟨k, rfl, hk3, rfl⟩ := hrel
      by_cases hlt : k < 3
      · have hd3 : decide ((k : Int) < 3) = true := by simp; omega
        obtain ⟨cc, hcc, hce⟩ := HI3.out k hlt
        have hcell := (HKN.out.cell k).trans hce
        clear hce
        rcases hcc with rfl | rfl
        · go_wp2
          exact ⟨⟨k + 1, by go_num, hlt, by first | rfl | trivial⟩, by simp [intOf]; omega⟩
        · go_wp2
          exact ⟨⟨k + 1, by go_num, hlt, by first | rfl | trivial⟩, by simp [intOf]; omega⟩
      · have hd3 : decide ((k : Int) < 3) = false := by simp; omega
        go_wp2
        go_ret
        exact ⟨rfl, HB.out ▸ HBW.out _ HWN.out⟩
  · have HPC := hide (HP1.out u3 HV3.out (by simp))
    try unfold PT
    go_wp2_with fail
    refine HPC.out.mono ?_
    rintro e k1 ⟨rfl, hbk⟩
    have HK1 := hide (HV3.out.trans (hbk.mono HV3.out.size))
    clear HPC hbk
    obtain ⟨wn, hwn⟩ : ∃ wn, k1.alloc (.cells #[.int .i64 0, .int .i64 5, .int .i64 5] 27) = wn := ⟨_, rfl⟩
    have HKN : Hid (Blk wn k1.heap.size #[.int .i64 0, .int .i64 5, .int .i64 5] 27) := by rw [← hwn]; exact Blk.newAt rfl _ _
    have HWN : Hid (Below v0.heap.size v0 wn) := by rw [← hwn]; exact HK1.out.alloc HK1.out.size _
    go_wp2
    go_loopw [111] (fun iv wr => ∃ k : Nat, iv = .int .i64 k ∧ k ≤ 3 ∧ wr = wn) (fun iv _ => 3 - (intOf iv).toNat)
    case atStart => exact ⟨0, rfl, Nat.zero_le _, rfl⟩
    case round =>
      obtain ⟨k, rfl, hk3, rfl⟩ := hrel
      by_cases hlt : k < 3
      · have hd3 : decide ((k : Int) < 3) = true := by simp; omega
        obtain ⟨cc, hcc, hce⟩ := HI3.out k hlt
        have hcell := (HKN.out.cell k).trans hce
        clear hce
        rcases hcc with rfl | rfl
        · go_wp2
          exact ⟨⟨k + 1, by go_num, hlt, by first | rfl | trivial⟩, by simp [intOf]; omega⟩
        · go_wp2
          exact ⟨⟨k + 1, by go_num, hlt, by first | rfl | trivial⟩, by simp [intOf]; omega⟩
      · have hd3 : decide ((k : Int) < 3) = false := by simp; omega
        go_wp2
        go_ret
        exact ⟨rfl, HB.out ▸ HBW.out _ HWN.out⟩
  · have HPC := hide (HP2.out u3 HV3.out (by simp))
    try unfold PT
    go_wp2_with fail
    refine HPC.out.mono ?_
    rintro e k2 ⟨rfl, hbk⟩
    have HK2 := hide (HV3.out.trans (hbk.mono HV3.out.size))
    clear HPC hbk
    have HPC := hide (HP3.out k2 HK2.out (by simp))
    try unfold PT
    go_wp2_with fail
    refine HPC.out.mono ?_
    rintro e k3 ⟨rfl, hbk⟩
    have HK3 := hide (HK2.out.trans (hbk.mono HK2.out.size))
    clear HPC hbk
    obtain ⟨wn, hwn⟩ : ∃ wn, k3.alloc (.cells #[.int .i64 5, .int .i64 0, .int .i64 0] 27) = wn := ⟨_, rfl⟩
    have HKN : Hid (Blk wn k3.heap.size #[.int .i64 5, .int .i64 0, .int .i64 0] 27) := by rw [← hwn]; exact Blk.newAt rfl _ _
    have HWN : Hid (Below v0.heap.size v0 wn) := by rw [← hwn]; exact HK3.out.alloc HK3.out.size _
    go_wp2
    go_loopw [111] (fun iv wr => ∃ k : Nat, iv = .int .i64 k ∧ k ≤ 3 ∧ wr = wn) (fun iv _ => 3 - (intOf iv).toNat)
    case atStart => exact ⟨0, rfl, Nat.zero_le _, rfl⟩
    case round =>
      obtain ⟨k, rfl, hk3, rfl⟩ := hrel
      by_cases hlt : k < 3
      · have hd3 : decide ((k : Int) < 3) = true := by simp; omega
        obtain ⟨cc, hcc, hce⟩ := HI3.out k hlt
        have hcell := (HKN.out.cell k).trans hce
        clear hce
        rcases hcc with rfl | rfl
        · go_wp2
          exact ⟨⟨k + 1, by go_num, hlt, by first | rfl | trivial⟩, by simp [intOf]; omega⟩
        · go_wp2
          exact ⟨⟨k + 1, by go_num, hlt, by first | rfl | trivial⟩, by simp [intOf]; omega⟩
      · have hd3 : decide ((k : Int) < 3) = false := by simp; omega
        go_wp2
        go_ret
        exact ⟨rfl, HB.out ▸ HBW.out _ HWN.out⟩
  · have HPC := hide (HP2.out u3 HV3.out (by simp))
    try unfold PT
    go_wp2_with fail
    refine HPC.out.mono ?_
    rintro e k2 ⟨rfl, hbk⟩
    have HK2 := hide (HV3.out.trans (hbk.mono HV3.out.size))
    clear HPC hbk
    obtain ⟨wn, hwn⟩ : ∃ wn, k2.alloc (.cells #[.int .i64 5, .int .i64 0, .int .i64 5] 27) = wn := ⟨_, rfl⟩
    have HKN : Hid (Blk wn k2.heap.size #[.int .i64 5, .int .i64 0, .int .i64 5] 27) := by rw [← hwn]; exact Blk.newAt rfl _ _
    have HWN : Hid (Below v0.heap.size v0 wn) := by rw [← hwn]; exact HK2.out.alloc HK2.out.size _
    go_wp2
    go_loopw [111] (fun iv wr => ∃ k : Nat, iv = .int .i64 k ∧ k ≤ 3 ∧ wr = wn) (fun iv _ => 3 - (intOf iv).toNat)
    case atStart => exact ⟨0, rfl, Nat.zero_le _, rfl⟩
    case round =>
      obtain ⟨k, rfl, hk3, rfl⟩ := hrel
      by_cases hlt : k < 3
      · have hd3 : decide ((k : Int) < 3) = true := by simp; omega
        obtain ⟨cc, hcc, hce⟩ := HI3.out k hlt
        have hcell := (HKN.out.cell k).trans hce
        clear hce
        rcases hcc with rfl | rfl
        · go_wp2
          exact ⟨⟨k + 1, by go_num, hlt, by first | rfl | trivial⟩, by simp [intOf]; omega⟩
        · go_wp2
          exact ⟨⟨k + 1, by go_num, hlt, by first | rfl | trivial⟩, by simp [intOf]; omega⟩
      · have hd3 : decide ((k : Int) < 3) = false := by simp; omega
        go_wp2
        go_ret
        exact ⟨rfl, HB.out ▸ HBW.out _ HWN.out⟩
  · have HPC := hide (HP3.out u3 HV3.out (by simp))
    try unfold PT
    go_wp2_with fail
    refine HPC.out.mono ?_
    rintro e k3 ⟨rfl, hbk⟩
    have HK3 := hide (HV3.out.trans (hbk.mono HV3.out.size))
    clear HPC hbk
    obtain ⟨wn, hwn⟩ : ∃ wn, k3.alloc (.cells #[.int .i64 5, .int .i64 5, .int .i64 0] 27) = wn := ⟨_, rfl⟩
    have HKN : Hid (Blk wn k3.heap.size #[.int .i64 5, .int .i64 5, .int .i64 0] 27) := by rw [← hwn]; exact Blk.newAt rfl _ _
    have HWN : Hid (Below v0.heap.size v0 wn) := by rw [← hwn]; exact HK3.out.alloc HK3.out.size _
    go_wp2
    go_loopw [111] (fun iv wr => ∃ k : Nat, iv = .int .i64 k ∧ k ≤ 3 ∧ wr = wn) (fun iv _ => 3 - (intOf iv).toNat)
    case atStart => exact ⟨0, rfl, Nat.zero_le _, rfl⟩
    case round =>
      obtain ⟨k, rfl, hk3, rfl⟩ := hrel
      by_cases hlt : k < 3
      · have hd3 : decide ((k : Int) < 3) = true := by simp; omega
        obtain ⟨cc, hcc, hce⟩ := HI3.out k hlt
        have hcell := (HKN.out.cell k).trans hce
        clear hce
        rcases hcc with rfl | rfl
        · go_wp2
          exact ⟨⟨k + 1, by go_num, hlt, by first | rfl | trivial⟩, by simp [intOf]; omega⟩
        · go_wp2
          exact ⟨⟨k + 1, by go_num, hlt, by first | rfl | trivial⟩, by simp [intOf]; omega⟩
      · have hd3 : decide ((k : Int) < 3) = false := by simp; omega
        go_wp2
        go_ret
        exact ⟨rfl, HB.out ▸ HBW.out _ HWN.out⟩
  · obtain ⟨wn, hwn⟩ : ∃ wn, u3.alloc (.cells #[.int .i64 5, .int .i64 5, .int .i64 5] 27) = wn := ⟨_, rfl⟩
    have HKN : Hid (Blk wn u3.heap.size #[.int .i64 5, .int .i64 5, .int .i64 5] 27) := by rw [← hwn]; exact Blk.newAt rfl _ _
    have HWN : Hid (Below v0.heap.size v0 wn) := by rw [← hwn]; exact HV3.out.alloc HV3.out.size _
    go_wp2
    go_loopw [111] (fun iv wr => ∃ k : Nat, iv = .int .i64 k ∧ k ≤ 3 ∧ wr = wn) (fun iv _ => 3 - (intOf iv).toNat)
    case atStart => exact ⟨0, rfl, Nat.zero_le _, rfl⟩
    case round =>
      obtain ⟨k, rfl, hk3, rfl⟩ := hrel
      by_cases hlt : k < 3
      · have hd3 : decide ((k : Int) < 3) = true := by simp; omega
        obtain ⟨cc, hcc, hce⟩ := HI3.out k hlt
        have hcell := (HKN.out.cell k).trans hce
        clear hce
        rcases hcc with rfl | rfl
        · go_wp2
          exact ⟨⟨k + 1, by go_num, hlt, by first | rfl | trivial⟩, by simp [intOf]; omega⟩
        · go_wp2
          exact ⟨⟨k + 1, by go_num, hlt, by first | rfl | trivial⟩, by simp [intOf]; omega⟩
      · have hd3 : decide ((k : Int) < 3) = false := by simp; omega
        go_wp2
        go_ret
        exact ⟨rfl, HB.out ▸ HBW.out _ HWN.out⟩
theorem autoPairs_all (v u : Value) (s t : SHP) (w : World) (hv : ∃ cs, v = ShVal cs ∧ ShC w cs s) (hu : ∃ cs, u = ShVal cs ∧ ShC w cs t) (hT : TabAt w) :
    Calls Tryz.prog 5 #[v, u] w fun e w' => e = .returned (.bool true) ∧ Below w.heap.size w w' := by
  obtain ⟨cs, rfl, hs⟩ := hv
  obtain ⟨ct, rfl, ht⟩ := hu
  exact autoPairs_any cs ct s t w hs ht hT
end Go.Proofs.YtjcfnmjjkadaeaaGreatDoor
/- AutoPairs: Outside, Shared and Unlike answer the least texts of one and not of the other, of both, of one alone; none where there is none. Conditions: the table of math/bits holds what its initialiser lays (the card ties that to the program's text). -/
namespace Go.Proofs.YtjcfnmjjkadaeaaGreatDoor
set_option maxRecDepth 100000
open Go.ChangeShapes Go.WideShapes Go.ChangeAt Go.WideMaps Go.WideElems Go.RowKit

set_option maxRecDepth 100000 in
theorem autoPairs_lifted (os : Os) (started : os.Started) (H : Type) (enc : TypeId × Value → H) :
    ReturnsInHanded {} Tryz.checked os 5 .any (fun w args => (Rows.autoPairsSpec.pre enc Tryz.prog Tryz.f5 [] false w args ∧ laidMetH Tryz.prog [("math/bits.deBruijn64tab", Rows.laid_math_bits_deBruijn64tab)] w) ∧ sizedMet enc Tryz.prog Tryz.f5 (OpenSpec.ofChange Rows.autoPairsSpec) false w args)
      (Rows.autoPairsSpec.post enc Tryz.prog Tryz.f5 false true false false) := by
  refine returnsInHanded_of_change_and (C := Tryz.checked) (X := fun w _ => laidMetH Tryz.prog [("math/bits.deBruijn64tab", Rows.laid_math_bits_deBruijn64tab)] w) (fun _ _ _ hh h => h.of_heap hh) own started (by kernel_rfl) Tryz.func5
    (ChangeSpec.witness_shaped (enc := enc) (C := Tryz.checked) (os := os) (X := fun w _ => laidMetH Tryz.prog [("math/bits.deBruijn64tab", Rows.laid_math_bits_deBruijn64tab)] w) false (World.doorLaid Tryz.prog 400 os)
      #[.agg #[.int .i64 0, .int .u8 0, .int .u8 0, .string ⟨#[]⟩, .slice none 0 0], .agg #[.int .i64 0, .int .u8 0, .int .u8 0, .string ⟨#[]⟩, .slice none 0 0]] 8 rfl (World.shaped_of_RefB (by kernel_rfl) (by kernel_rfl)) (by kernel_rfl) (by kernel_rfl) (by kernel_rfl) (door_met os _)) ?_
  intro W base args ds gs before hval0 hW _ _ hL _
  have hval : ∀ (j : Nat) t v, Tryz.f5.params[j]? = some t → args[j]? = some v → Value.okWide Tryz.prog W .any base t v := hval0
  have hW' := hW
  obtain ⟨p, q, hA0, hV, rfl, hfz, hnd⟩ := hW
  have hA : DataW.TrodAll enc Tryz.prog W 0 (fun _ => true) true Tryz.f5.params.toList args.toList ds p := hA0
  rw [Tryz.params5] at hA hval
  obtain ⟨v0, v1, d0, d1, p0, p1, rfl, rfl, rfl, h0, h1⟩ := trodAll_two hA
  obtain ⟨rfl, rfl⟩ := trodVars_none hV
  have k0 := h0
  have lt0 : ∀ x ∈ p0, x.block < W.heap.size := by obtain ⟨m, hm⟩ := k0; exact DataW.trod_lt m _ _ _ hm
  obtain ⟨z0, hz0⟩ := open_shape (hval 0 24 v0 rfl rfl) h0
  have k1 := h1
  have lt1 : ∀ x ∈ p1, x.block < W.heap.size := by obtain ⟨m, hm⟩ := k1; exact DataW.trod_lt m _ _ _ hm
  obtain ⟨z1, hz1⟩ := open_shape (hval 1 24 v1 rfl rfl) h1
  have hT := tab_of_laid hL
  clear hA0 hval0
  refine (autoPairs_all v0 v1 z0 z1 W hz0 hz1 hT).mono fun e W' ⟨he, hb⟩ => ?_
  subst he
  exact ⟨_, rfl, _, _, _, [], _, [], hW', trodAll_mk1 (shut_bool Tryz.underlying4 _), trodAll_mk2 (Below.trod laidOut (by kernel_rfl) (of_decide_eq_true (by kernel_rfl)) k0 hb lt0) (Below.trod laidOut (by kernel_rfl) (of_decide_eq_true (by kernel_rfl)) k1 hb lt1), rfl, hb.frame _, fun h => by cases h⟩

theorem autoPairs_said : Rows.AutoPairsSaid :=
  OpenClaim.holds_of_wide 5 Tryz.f5 rfl rfl rfl rfl rfl rfl rfl ⟨rfl, rfl, rfl, rfl, rfl⟩ rfl rfl rfl rfl rfl (by kernel_rfl) Tryz.func5 (by kernel_rfl)
    (of_decide_eq_true (by kernel_rfl)) (by unfold Func.isWrapper; first | (rw [if_pos (by decide +kernel)]; kernel_rfl) | (rw [if_neg (by decide +kernel)]; exact ⟨rfl, rfl⟩))
    (fun os started H enc _ => autoPairs_lifted os started H enc)

theorem autoPairs_card : Rows.AutoPairsCardSaid :=
  Claim7.holds_tied_plain_at .later [] [.data] true Rows.autoPairsCard.stood.harness false
    autoPairs_said (fun _ h => by cases h) (by kernel_rfl) (fun _ h => by cases h) autoPairs_row_tie rfl ⟨rfl, rfl⟩ (by kernel_rfl) rfl
    (fun f fn hf hfn => by
      obtain rfl : f = 5 := Option.some.inj ((show Tryz.prog.funcNamed "periscope/periscopelaw07.AutoPairs" = some 5 by kernel_rfl).symm.trans hf) |>.symm
      obtain rfl : fn = Tryz.f5 := (Option.some.inj (Tryz.func5.symm.trans hfn)).symm
      exact ⟨by kernel_rfl, fun j t ht => by
        rw [Tryz.params5] at ht
        have hm : t ∈ [24, 24] := by simpa using Array.mem_of_getElem? ht
        have hall : ([24, 24].all fun u => !Tryz.prog.wantsStandIn u) = true := by kernel_rfl
        exact (show Tryz.prog.wantsStandIn t = false by simpa using List.all_eq_true.1 hall t hm)⟩)
    (by kernel_rfl)
#print axioms autoPairs_card
end Go.Proofs.YtjcfnmjjkadaeaaGreatDoor
