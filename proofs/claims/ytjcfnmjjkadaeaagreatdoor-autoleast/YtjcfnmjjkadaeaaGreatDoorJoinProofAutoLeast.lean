/- AutoLeast: expressions that have the same texts need as many states, whatever they are. Conditions: the table of math/bits holds what its initialiser lays (the card ties that to the program's text). -/
/- Texts of this claim put together: LawAutoPairs, LawAutoLeast, ProofAutoLeast. -/
import Derived.Test.YtjcfnmjjkadaeaaGreatDoorJoinHead7
import Derived.Test.YtjcfnmjjkadaeaaGreatDoorJoinTsC
import Derived.Test.YtjcfnmjjkadaeaaGreatDoorJoinAuE
import Derived.Test.YtjcfnmjjkadaeaaGreatDoorJoinOpenS
import Derived.Test.YtjcfnmjjkadaeaaGreatDoorJoinAkZ
import Derived.Test.YtjcfnmjjkadaeaaGreatDoorCards
import Derived.Test.YtjcfnmjjkadaeaaGreatDoorTie
/- AutoPairs: texts of one and not of the other, of both, of one alone: the least; none where there is none. -/
namespace Go.Proofs.YtjcfnmjjkadaeaaGreatDoor
set_option maxRecDepth 100000
set_option linter.unusedSimpArgs false
set_option linter.unusedVariables false
open Go.RowKit Go.Shelf

/-- What a question answers: a text, whether there is one, whether there were states enough. -/
structure WitQ (r : RE) (w : List Nat) (ok : Bool) (c : Nat) : Prop where
  code : c = 0 ∨ c = 5
  b : By w
  yes : c = 0 → ok = true → r.lang w ∧ ∀ u, By u → r.lang u → leW w u
  no : c = 0 → ok = false → w = [] ∧ ∀ u, By u → ¬ r.lang u
theorem WitP.q {g : Int} {r : RE} {e : Ending} (h : WitP g r e) : ∃ w ok c, WitQ r w ok c ∧ e = .returned (.tuple #[.string (strB w), .bool ok, .int .i64 c]) := by
  rcases h with ⟨-, rfl⟩ | ⟨w, hb, hi, hl, rfl⟩ | ⟨hn, rfl⟩
  · exact ⟨[], false, 5, ⟨.inr rfl, fun x hx => absurd hx (by simp), fun h => absurd h (by decide), fun h => absurd h (by decide)⟩, rfl⟩
  · exact ⟨w, true, 0, ⟨.inl rfl, hb, fun _ _ => ⟨hi, hl⟩, fun _ h => absurd h (by decide)⟩, rfl⟩
  · exact ⟨[], false, 0, ⟨.inl rfl, fun x hx => absurd hx (by simp), fun _ h => absurd h (by decide), fun _ _ => ⟨rfl, hn⟩⟩, rfl⟩
theorem WitQ.least {r : RE} {w : List Nat} {ok : Bool} {c : Nat} (h : WitQ r w ok c) (hc : c = 0) {p : List Nat → Bool} (hp : ∀ u, By u → (p u = true ↔ r.lang u)) (hl : ∀ u, r.lang u → By u → LetT u) : leastB w ok p = true := by
  cases ok with
  | true =>
    obtain ⟨h1, h2⟩ := h.yes hc rfl
    exact least_some ((hp w h.b).2 h1) (hl w h1 h.b) fun u hu hpu => h2 u hu ((hp u hu).1 hpu)
  | false =>
    obtain ⟨rfl, h2⟩ := h.no hc rfl
    exact least_none fun u hu => by
      rw [Bool.eq_false_iff]
      exact fun h => h2 u hu ((hp u hu).1 h)
theorem cnt_flat (o : Nat) {l : List RE} {n : Nat} (h : cntL l ≤ n) (hn : n ≤ 1099511627776) : (flatL o l).length ≤ 1099511627776 := by
  have h1 := cntL_len (flatL o l)
  have h2 := cntL_flatL o l
  omega
end Go.Proofs.YtjcfnmjjkadaeaaGreatDoor
/- AutoLeast: expressions that have the same texts need as many states. -/
namespace Go.Proofs.YtjcfnmjjkadaeaaGreatDoor
set_option maxRecDepth 100000
set_option linter.unusedSimpArgs false
set_option linter.unusedVariables false
open Go.RowKit Go.Shelf

theorem resRow_three [Forb] {w : World} {a b c : Nat} {r o z : RE} {g : Nat} (hg : Blk w g #[PT a, PT b, PT c] 30) (h : ReAt w a r) (h' : ReAt w b o) (h'' : ReAt w c z) (hno : ¬ Forb.no g) : ResRow w (.slice (some ⟨g, 0, none⟩) 3 3) [r, o, z] :=
  ⟨fun i => if i = 0 then a else if i = 1 then b else c, ⟨⟨by simp, .of (Nat.le_refl _) h.fl (fun ad e _ => by injection e with e; subst e; exact hno)⟩, _, 3, rfl, fun k hk => ⟨g, 0, rfl, hg.lt, by
    have hk2 : k = 0 ∨ k = 1 ∨ k = 2 := by simp at hk; omega
    rcases hk2 with rfl | rfl | rfl
    · exact hg.cell 0
    · exact hg.cell 1
    · exact hg.cell 2⟩⟩, fun i k hk => by
    have hi : i = 0 ∨ i = 1 ∨ i = 2 := by have := (List.getElem?_eq_some_iff.1 hk).1; simp at this; omega
    rcases hi with rfl | rfl | rfl
    · simp at hk; subst hk; exact h
    · simp at hk; subst hk; exact h'
    · simp at hk; subst hk; exact h''⟩
theorem shortest_nil (w : World) : Calls Tryz.prog 35 #[.pointer none] w fun e w' => e = .returned (.tuple #[.string ⟨#[]⟩, .bool false]) ∧ Below w.heap.size w w' := by
  go_enter Tryz.func35, Tryz.ntmps35
  go_wp2_with fail
  refine (heads_nil w).mono ?_
  rintro e w1 ⟨rfl, rfl⟩
  go_wp2
  go_loopw [15] (fun iv wr => iv = .int .i64 0 ∧ Hid (Below w1.heap.size w1 wr)) (fun _ _ => 0)
  case atStart =>
    refine ⟨rfl, ?_⟩
    show Below w1.heap.size w1 _
    first | exact Below.refl _ _ | exact (Below.refl _ _).alloc (Nat.le_refl _) _
  case round =>
    rename World => wr
    obtain ⟨rfl, HB⟩ := hrel
    go_wp2
    refine bodyPost_ret (v := .tuple #[.string ⟨#[]⟩, .bool false]) (by simp [results, Tryz.results35, go_sem]) rfl ⟨rfl, HB.out⟩
/-- Expressions of which no text is in one alone have the same texts. -/
theorem same_texts {x y : RE} (wx : Wf x) (wy : Wf y) (h : ∀ u, By u → ¬ (rAny [rBut x y, rBut y x]).lang u) (t : List Nat) (ht : By t) : x.lang t ↔ y.lang t := by
  have hw : ∀ r ∈ [rBut x y, rBut y x], Wf r := fun r hr => by
    rcases List.mem_cons.1 hr with rfl | hr
    · exact wf_but wx wy
    · rcases List.mem_singleton.1 hr with rfl; exact wf_but wy wx
  have := h t ht
  rw [lang_any hw] at this
  constructor
  · intro hx
    rcases Classical.em (y.lang t) with hy | hy
    · exact hy
    · exact absurd ⟨_, by simp, (lang_but wx wy t).2 ⟨hx, hy⟩⟩ this
  · intro hy
    rcases Classical.em (x.lang t) with hx | hx
    · exact hx
    · exact absurd ⟨_, List.mem_cons_of_mem _ (List.mem_singleton.2 rfl), (lang_but wy wx t).2 ⟨hy, hx⟩⟩ this
theorem any_same3 {x : RE} (wx : Wf x) (t : List Nat) : (rAny [x, x, rNothing]).lang t ↔ x.lang t := by
  have hw : ∀ r ∈ [x, x, rNothing], Wf r := fun r hr => by
    simp at hr
    rcases hr with rfl | rfl
    · exact wx
    · exact wf_nothing
  rw [lang_any hw]
  constructor
  · rintro ⟨r, hr, h⟩
    simp at hr
    rcases hr with rfl | rfl
    · exact h
    · exact absurd h (lang_nothing t)
  · intro h; exact ⟨x, by simp, h⟩
set_option maxHeartbeats 8000000 in
theorem autoLeast_any (cs ct : List Value) (s t : SHP) (w : World) (hs : ShC w cs s) (ht : ShC w ct t) (hT : TabAt w) :
    Calls Tryz.prog 7 #[ShVal cs, ShVal ct] w fun e w' => e = .returned (.bool true) ∧ Below w.heap.size w w' := by
  have HC := hide hs
  have HCt := hide ht
  have HT := hide hT
  obtain ⟨kv, hcs, hrow, -⟩ := hs.open
  obtain ⟨-, a, cap, rfl, -⟩ := hrow.at
  obtain ⟨kt, hct, hrowt, -⟩ := ht.open
  obtain ⟨-, at0, capt, rfl, -⟩ := hrowt.at
  have HCS := hide hcs
  have HCT := hide hct
  have hv0 : ShVal cs = .agg #[.int .i64 s.op, .int .u8 s.lo, .int .u8 s.hi, .string s.text, .slice a s.kids.length cap] := by rw [hcs]; rfl
  have hv1 : ShVal ct = .agg #[.int .i64 t.op, .int .u8 t.lo, .int .u8 t.hi, .string t.text, .slice at0 t.kids.length capt] := by rw [hct]; rfl
  rw [hv0, hv1]
  have HV0 := hide hv0
  have HV1 := hide hv1
  clear hs ht hT hrow hrowt hcs hct hv0 hv1
  obtain ⟨B, hB⟩ : ∃ B, B = w.heap.size := ⟨_, rfl⟩
  obtain ⟨wa, hwa⟩ : ∃ wa, (w.alloc (.cells #[.int .i64 s.op, .int .u8 s.lo, .int .u8 s.hi, .string s.text, .slice a s.kids.length cap] 24)).alloc (.cells #[.int .i64 t.op, .int .u8 t.lo, .int .u8 t.hi, .string t.text, .slice at0 t.kids.length capt] 24) = wa := ⟨_, rfl⟩
  have hb0 : Below B w (w.alloc (.cells #[.int .i64 s.op, .int .u8 s.lo, .int .u8 s.hi, .string s.text, .slice a s.kids.length cap] 24)) := (Below.refl _ _).alloc (Nat.le_of_eq hB) _
  have hba : Below B w wa := by rw [← hwa]; exact hb0.alloc (by simp; omega) _
  have hbs : Blk wa B #[.int .i64 s.op, .int .u8 s.lo, .int .u8 s.hi, .string s.text, .slice a s.kids.length cap] 24 := by
    rw [← hwa]
    exact (Blk.newAt hB _ _).below ((Below.refl _ _).alloc (Nat.le_refl _) _) (by simp; omega)
  have hbt : Blk wa (B + 1) #[.int .i64 t.op, .int .u8 t.lo, .int .u8 t.hi, .string t.text, .slice at0 t.kids.length capt] 24 := by rw [← hwa]; exact Blk.newAt (by simp; omega) _ _
  have HPB : Hid (PairB wa cs ct s t B (B + 1)) := ⟨HC.out.keep (hB ▸ hba), HCt.out.keep (hB ▸ hba), by rw [HCS.out]; exact hbs, by rw [HCT.out]; exact hbt⟩
  have hza : B + 2 = wa.heap.size := by rw [← hwa]; simp; omega
  have HBA := hide hba
  have HTA := hide (HT.out.agree (Agree.of_all (K := fun _ => True) (hB ▸ hba)) trivial)
  have HZA := hide hza
  have HSZ : Hid (B ≤ wa.heap.size) := by show _ ≤ _; omega
  have HB := hide hB
  have HSB := hide hbs
  have HTB := hide hbt
  clear hb0 hba hbs hbt hza
  have hB1 : w.heap.size + 1 = B + 1 := by rw [hB]
  go_enter Tryz.func7, Tryz.ntmps7
  go_wp2_with fail
  clear hwa hB1
  refine (head7_any wa HTA.out).mono ?_
  rintro e w1 ⟨rfl, hb1⟩
  rw [← hB]
  clear hB
  have HB1 := hide hb1
  clear hb1
  have xB := HSB.out.below HB1.out HSB.out.lt
  have x0 := xB.cell 0; have x1 := xB.cell 1; have x2 := xB.cell 2; have x3 := xB.cell 3; have x4 := xB.cell 4
  simp only [List.getElem?_toArray, List.getElem?_cons_zero, List.getElem?_cons_succ] at x0 x1 x2 x3 x4
  clear xB
  have hcnt := count_any s _ 0 w1 (HPB.out.keep HB1.out).s (by omega)
  rw [HV0.out] at hcnt
  have HCNT := hide hcnt
  clear hcnt
  go_wp2_with fail
  refine HCNT.out.mono ?_
  rintro e w2 ⟨c, rfl, -, hcc, hb2⟩
  have HB2 := hide (HB1.out.trans (hb2.mono HB1.out.size))
  have HCW := hide hcc
  clear hb2 hcc HCNT x0 x1 x2 x3 x4 HB1
  by_cases h10 : 10 < c
  · have d10 : decide ((10 : Int) < (c : Int)) = true := decide_eq_true (by omega)
    go_wp2
    go_ret
    exact ⟨rfl, HB.out ▸ HBA.out.trans (HB2.out.mono HSZ.out)⟩
  have d10 : decide ((10 : Int) < (c : Int)) = false := decide_eq_false (by omega)
  obtain ⟨htx, hnd⟩ := HCW.out (by omega)
  have hnd30 : s.nodes ≤ 30 := by omega
  clear HCW
  have xB := HTB.out.below HB2.out HTB.out.lt
  have y0 := xB.cell 0; have y1 := xB.cell 1; have y2 := xB.cell 2; have y3 := xB.cell 3; have y4 := xB.cell 4
  simp only [List.getElem?_toArray, List.getElem?_cons_zero, List.getElem?_cons_succ] at y0 y1 y2 y3 y4
  clear xB
  have hcnt := count_any t _ 0 w2 (HPB.out.keep HB2.out).t (by omega)
  rw [HV1.out] at hcnt
  have HCNT := hide hcnt
  clear hcnt
  go_wp2_with fail
  refine HCNT.out.mono ?_
  rintro e w3 ⟨c', rfl, -, hcc, hb3⟩
  have HB3 := hide (HB2.out.trans (hb3.mono HB2.out.size))
  have HCW := hide hcc
  clear hb3 hcc HCNT y0 y1 y2 y3 y4 HB2 d10
  by_cases h10' : 10 < c'
  · have d10 : decide ((10 : Int) < (c' : Int)) = true := decide_eq_true (by omega)
    go_wp2
    go_ret
    exact ⟨rfl, HB.out ▸ HBA.out.trans (HB3.out.mono HSZ.out)⟩
  have d10' : decide ((10 : Int) < (c' : Int)) = false := decide_eq_false (by omega)
  obtain ⟨htx', hnd'⟩ := HCW.out (by omega)
  have hnd30' : t.nodes ≤ 30 := by omega
  clear HCW
  have xB := HSB.out.below HB3.out HSB.out.lt
  have x0 := xB.cell 0; have x1 := xB.cell 1; have x2 := xB.cell 2; have x3 := xB.cell 3; have x4 := xB.cell 4
  simp only [List.getElem?_toArray, List.getElem?_cons_zero, List.getElem?_cons_succ] at x0 x1 x2 x3 x4
  clear xB
  have hmk := make_any s _ w3 (HPB.out.keep HB3.out).s htx hnd30 (HTA.out.agree (Agree.of_all (K := fun _ => True) HB3.out) trivial)
  rw [HV0.out] at hmk
  have HMK := hide hmk
  clear hmk
  go_wp2_with fail
  refine HMK.out.mono ?_
  rintro e w6 ⟨rx, rfl, hr6, hb6⟩
  have HB6 := hide (HB3.out.trans (hb6.mono HB3.out.size))
  have HR6 := hide hr6
  clear x0 x1 x2 x3 x4 HMK hb6 hr6 HB3
  have xB := HTB.out.below HB6.out HTB.out.lt
  have y0 := xB.cell 0; have y1 := xB.cell 1; have y2 := xB.cell 2; have y3 := xB.cell 3; have y4 := xB.cell 4
  simp only [List.getElem?_toArray, List.getElem?_cons_zero, List.getElem?_cons_succ] at y0 y1 y2 y3 y4
  clear xB
  have hmk := make_any t _ w6 (HPB.out.keep HB6.out).t htx' hnd30' (HTA.out.agree (Agree.of_all (K := fun _ => True) HB6.out) trivial)
  rw [HV1.out] at hmk
  have HMK := hide hmk
  clear hmk
  try unfold PT
  go_wp2_with fail
  refine HMK.out.mono ?_
  rintro e v0 ⟨ry, rfl, hr7, hb7⟩
  have HA0 := hide (HB6.out.trans (hb7.mono HB6.out.size))
  have HRX := hide (HR6.out.keep hb7)
  have HRY := hide hr7
  have hcx := s.cnt htx
  have hcy := t.cnt htx'
  have HL4 : Hid ((flatL 4 [rBut s.re t.re, rBut t.re s.re]).length ≤ 1099511627776) := cnt_flat 4 (l := [rBut s.re t.re, rBut t.re s.re]) (n := 4000) (by
    have h1 := cnt_but s.re t.re
    have h2 := cnt_but t.re s.re
    rw [cntL_cons, cntL_cons]; simp [cntL]; omega) (by omega)
  have HL5 : Hid ((flatL 4 [s.re, s.re, rNothing]).length ≤ 1099511627776) := cnt_flat 4 (l := [s.re, s.re, rNothing]) (n := 4000) (by
    have h1 : rNothing.cnt = 1 := cnt_nothing
    rw [cntL_cons, cntL_cons, cntL_cons]; simp [cntL]; omega) (by omega)
  have HTV : Hid (∀ W, Below v0.heap.size v0 W → TabAt W) := fun W hW => HTA.out.agree (Agree.of_all (K := fun _ => True) (HA0.out.trans (hW.mono HA0.out.size))) trivial
  clear y0 y1 y2 y3 y4 HMK hb7 hr7 HR6 HB6 hcx hcy
  have HV := hide (Below.refl v0.heap.size v0)
  try unfold PT
  go_wp2_with fail
  refine (grant_any 300 v0 (by omega)).mono ?_
  rintro e z1 ⟨bud, rfl, hbd, hbl, hbz⟩
  rw [show max (300 : Int) 0 = 300 from by omega] at hbd
  have HZ1 := hide (HV.out.trans (hbz.mono HV.out.size))
  have hvb : v0.heap.size ≤ bud := Nat.le_trans HV.out.size hbl
  have HWI := hide (unlike_new s.re t.re rx ry z1 (HRX.out.keep HZ1.out) (HRY.out.keep HZ1.out) s.wf t.wf HL4.out bud 300 hbd (by omega) (by omega) (HTV.out z1 HZ1.out))
  clear hbd hbl hbz
  unfold PT at HWI
  try unfold PT
  go_wp2_with fail
  refine HWI.out.mono ?_
  rintro e u1 ⟨hwit, hfr⟩
  obtain ⟨t1, ok1, c1, hq1, rfl⟩ := hwit.q
  have HV1 := hide (HZ1.out.trans (hfr v0.heap.size HZ1.out.size hvb))
  have HQ1 := hide hq1
  have hc1 := hq1.code
  have HC1 := hide hc1
  obtain ⟨s1, hs1⟩ : ∃ s', strB t1 = s' := ⟨_, rfl⟩
  rw [hs1]
  clear HWI hfr hwit hq1 hvb HZ1 hc1 hs1
  try unfold PT
  go_wp2_with fail
  refine (grant_any 100 u1 (by omega)).mono ?_
  rintro e z2 ⟨bud, rfl, hbd, hbl, hbz⟩
  rw [show max (100 : Int) 0 = 100 from by omega] at hbd
  have HZ2 := hide (HV1.out.trans (hbz.mono HV1.out.size))
  have hvb : v0.heap.size ≤ bud := Nat.le_trans HV1.out.size hbl
  have HWI := hide (least_new s.re rx z2 (HRX.out.keep HZ2.out) s.wf bud 100 hbd (by omega) (by omega) (HTV.out z2 HZ2.out))
  clear hbd hbl hbz
  unfold PT at HWI
  try unfold PT
  go_wp2_with fail
  refine HWI.out.mono ?_
  rintro e u2 ⟨hwit, hfr⟩
  obtain ⟨m2, c2, hc2, rfl, hq2⟩ := hwit.q
  have HV2 := hide (HZ2.out.trans (hfr v0.heap.size HZ2.out.size hvb))
  have HQ2 := hide hq2
  have HC2 := hide hc2
  clear HWI hfr hwit hq2 hvb HZ2 hc2
  try unfold PT
  go_wp2_with fail
  refine (grant_any 100 u2 (by omega)).mono ?_
  rintro e z3 ⟨bud, rfl, hbd, hbl, hbz⟩
  rw [show max (100 : Int) 0 = 100 from by omega] at hbd
  have HZ3 := hide (HV2.out.trans (hbz.mono HV2.out.size))
  have hvb : v0.heap.size ≤ bud := Nat.le_trans HV2.out.size hbl
  have HWI := hide (least_new t.re ry z3 (HRY.out.keep HZ3.out) t.wf bud 100 hbd (by omega) (by omega) (HTV.out z3 HZ3.out))
  clear hbd hbl hbz
  unfold PT at HWI
  try unfold PT
  go_wp2_with fail
  refine HWI.out.mono ?_
  rintro e u3 ⟨hwit, hfr⟩
  obtain ⟨m3, c3, hc3, rfl, hq3⟩ := hwit.q
  have HV3 := hide (HZ3.out.trans (hfr v0.heap.size HZ3.out.size hvb))
  have HQ3 := hide hq3
  have HC3 := hide hc3
  clear HWI hfr hwit hq3 hvb HZ3 hc3
  try unfold PT
  go_wp2_with fail
  refine (nothing_any u3 (FL.none _)).mono ?_
  rintro e a1 ⟨bn, rfl, hbn, hba1⟩
  obtain ⟨a2, ha2⟩ : ∃ a2, a1.alloc (.cells #[PT rx, PT rx, PT bn] 30) = a2 := ⟨_, rfl⟩
  have hb2 : Below a1.heap.size a1 a2 := by rw [← ha2]; exact (Below.refl _ _).alloc (Nat.le_refl _) _
  have HVA1 := hide (HV3.out.trans (hba1.mono HV3.out.size))
  have HVA2 := hide (HVA1.out.trans (hb2.mono HVA1.out.size))
  have hrow : ResRow a2 (.slice (some ⟨a1.heap.size, 0, none⟩) 3 3) [s.re, s.re, rNothing] := resRow_three (by rw [← ha2]; exact Blk.newAt rfl _ _) (HRX.out.keep HVA2.out) (HRX.out.keep HVA2.out) (hbn.keep hb2) (fun h => h)
  have hwf3 : ∀ r ∈ [s.re, s.re, rNothing], Wf r := fun r hr => by
    simp at hr
    rcases hr with rfl | rfl
    · exact s.wf
    · exact wf_nothing
  have HWF3 := hide hwf3
  have HAN := hide (any_re [s.re, s.re, rNothing] _ a2 hrow hwf3 (by simp) HL5.out (HTV.out a2 HVA2.out))
  unfold PT at ha2 HAN
  clear hbn hba1 hb2 hrow hwf3
  try unfold PT
  go_wp2_with fail
  refine HAN.out.mono ?_
  rintro e a3 ⟨ra, rfl, hra, hb3⟩
  have HV33 := hide (HVA2.out.trans (hb3.mono HVA2.out.size))
  have HRA := hide hra
  clear HAN hra hb3 ha2 HVA1 HVA2
  have HV3 := HV33
  try unfold PT
  go_wp2_with fail
  refine (grant_any 100 a3 (by omega)).mono ?_
  rintro e z4 ⟨bud, rfl, hbd, hbl, hbz⟩
  rw [show max (100 : Int) 0 = 100 from by omega] at hbd
  have hbz4 := hbz
  have HZ4 := hide (HV3.out.trans (hbz.mono HV3.out.size))
  have hvb : v0.heap.size ≤ bud := Nat.le_trans HV3.out.size hbl
  have HWI := hide (least_new (rAny [s.re, s.re, rNothing]) ra z4 (HRA.out.keep hbz4) (wf_any HWF3.out) bud 100 hbd (by omega) (by omega) (HTV.out z4 HZ4.out))
  clear hbd hbl hbz hbz4
  unfold PT at HWI
  try unfold PT
  go_wp2_with fail
  refine HWI.out.mono ?_
  rintro e u4 ⟨hwit, hfr⟩
  obtain ⟨m4, c4, hc4, rfl, hq4⟩ := hwit.q
  have HV4 := hide (HZ4.out.trans (hfr v0.heap.size HZ4.out.size hvb))
  have HQ4 := hide hq4
  have HC4 := hide hc4
  clear HWI hfr hwit hq4 hvb HZ4 hc4
  have HFIN := hide (HA0.out.trans (HV4.out.mono HA0.out.size))
  rcases HC1.out with rfl | rfl
  rotate_left
  · have HQ1 := 0
    go_wp2
    go_ret
    exact ⟨rfl, HB.out ▸ HBA.out.trans (HFIN.out.mono HSZ.out)⟩
  rcases HC2.out with rfl | rfl
  rotate_left
  · have HQ1 := 0
    go_wp2
    go_ret
    exact ⟨rfl, HB.out ▸ HBA.out.trans (HFIN.out.mono HSZ.out)⟩
  rcases HC3.out with rfl | rfl
  rotate_left
  · have HQ1 := 0
    go_wp2
    go_ret
    exact ⟨rfl, HB.out ▸ HBA.out.trans (HFIN.out.mono HSZ.out)⟩
  rcases HC4.out with rfl | rfl
  rotate_left
  · have HQ1 := 0
    go_wp2
    go_ret
    exact ⟨rfl, HB.out ▸ HBA.out.trans (HFIN.out.mono HSZ.out)⟩
  obtain ⟨k2, e2, hk2⟩ := HQ2.out rfl
  obtain ⟨k3, e3, hk3⟩ := HQ3.out rfl
  obtain ⟨k4, e4, hk4⟩ := HQ4.out rfl
  have e42 : m4 = m2 := by rw [e4, e2, hk4.same hk2 fun t _ => any_same3 s.wf t]
  have e32 : ok1 = false → m3 = m2 := fun h => by
    rw [e3, e2, hk3.same hk2 fun u hu => (same_texts s.wf t.wf (HQ1.out.no rfl h).2 u hu).symm]
  have HE32 := hide e32
  clear e32 e2 e3 e4 hk2 hk3 hk4 HQ2 HQ3 HQ4
  subst e42
  try unfold PT
  go_wp2_with fail
  refine (shortest_nil u4).mono ?_
  rintro e g1 ⟨rfl, hg1⟩
  have HG1 := hide (HFIN.out.trans (hg1.mono HFIN.out.size))
  clear hg1
  cases ok1 with
  | true =>
    go_wp2_with fail
    refine (agroups_nil g1).mono ?_
    rintro e g2 ⟨bo, rfl, hg2⟩
    have HG2 := hide (HG1.out.trans (hg2.mono HG1.out.size))
    clear hg2
    go_wp2
    go_ret
    exact ⟨rfl, HB.out ▸ HBA.out.trans (HG2.out.mono HSZ.out)⟩
  | false =>
    have e32 := HE32.out rfl
    subst e32
    go_wp2_with fail
    refine (agroups_nil g1).mono ?_
    rintro e g2 ⟨bo, rfl, hg2⟩
    have HG2 := hide (HG1.out.trans (hg2.mono HG1.out.size))
    clear hg2
    go_wp2
    go_ret
    exact ⟨rfl, HB.out ▸ HBA.out.trans (HG2.out.mono HSZ.out)⟩
theorem autoLeast_all (v u : Value) (s t : SHP) (w : World) (hv : ∃ cs, v = ShVal cs ∧ ShC w cs s) (hu : ∃ cs, u = ShVal cs ∧ ShC w cs t) (hT : TabAt w) :
    Calls Tryz.prog 7 #[v, u] w fun e w' => e = .returned (.bool true) ∧ Below w.heap.size w w' := by
  obtain ⟨cs, rfl, hs⟩ := hv
  obtain ⟨ct, rfl, ht⟩ := hu
  exact autoLeast_any cs ct s t w hs ht hT
end Go.Proofs.YtjcfnmjjkadaeaaGreatDoor
/- AutoLeast: expressions that have the same texts need as many states, whatever they are. Conditions: the table of math/bits holds what its initialiser lays (the card ties that to the program's text). -/
namespace Go.Proofs.YtjcfnmjjkadaeaaGreatDoor
set_option maxRecDepth 100000
open Go.ChangeShapes Go.WideShapes Go.ChangeAt Go.WideMaps Go.WideElems Go.RowKit

set_option maxRecDepth 100000 in
theorem autoLeast_lifted (os : Os) (started : os.Started) (H : Type) (enc : TypeId × Value → H) :
    ReturnsInHanded {} Tryz.checked os 7 .any (fun w args => (Rows.autoLeastSpec.pre enc Tryz.prog Tryz.f7 [] false w args ∧ laidMetH Tryz.prog [("math/bits.deBruijn64tab", Rows.laid_math_bits_deBruijn64tab)] w) ∧ sizedMet enc Tryz.prog Tryz.f7 (OpenSpec.ofChange Rows.autoLeastSpec) false w args)
      (Rows.autoLeastSpec.post enc Tryz.prog Tryz.f7 false true false false) := by
  refine returnsInHanded_of_change_and (C := Tryz.checked) (X := fun w _ => laidMetH Tryz.prog [("math/bits.deBruijn64tab", Rows.laid_math_bits_deBruijn64tab)] w) (fun _ _ _ hh h => h.of_heap hh) own started (by kernel_rfl) Tryz.func7
    (ChangeSpec.witness_shaped (enc := enc) (C := Tryz.checked) (os := os) (X := fun w _ => laidMetH Tryz.prog [("math/bits.deBruijn64tab", Rows.laid_math_bits_deBruijn64tab)] w) false (World.doorLaid Tryz.prog 400 os)
      #[.agg #[.int .i64 0, .int .u8 0, .int .u8 0, .string ⟨#[]⟩, .slice none 0 0], .agg #[.int .i64 0, .int .u8 0, .int .u8 0, .string ⟨#[]⟩, .slice none 0 0]] 8 rfl (World.shaped_of_RefB (by kernel_rfl) (by kernel_rfl)) (by kernel_rfl) (by kernel_rfl) (by kernel_rfl) (door_met os _)) ?_
  intro W base args ds gs before hval0 hW _ _ hL _
  have hval : ∀ (j : Nat) t v, Tryz.f7.params[j]? = some t → args[j]? = some v → Value.okWide Tryz.prog W .any base t v := hval0
  have hW' := hW
  obtain ⟨p, q, hA0, hV, rfl, hfz, hnd⟩ := hW
  have hA : DataW.TrodAll enc Tryz.prog W 0 (fun _ => true) true Tryz.f7.params.toList args.toList ds p := hA0
  rw [Tryz.params7] at hA hval
  obtain ⟨v0, v1, d0, d1, p0, p1, rfl, rfl, rfl, h0, h1⟩ := trodAll_two hA
  obtain ⟨rfl, rfl⟩ := trodVars_none hV
  have k0 := h0
  have lt0 : ∀ x ∈ p0, x.block < W.heap.size := by obtain ⟨m, hm⟩ := k0; exact DataW.trod_lt m _ _ _ hm
  obtain ⟨z0, hz0⟩ := open_shape (hval 0 24 v0 rfl rfl) h0
  have k1 := h1
  have lt1 : ∀ x ∈ p1, x.block < W.heap.size := by obtain ⟨m, hm⟩ := k1; exact DataW.trod_lt m _ _ _ hm
  obtain ⟨z1, hz1⟩ := open_shape (hval 1 24 v1 rfl rfl) h1
  have hT := tab_of_laid hL
  clear hA0 hval0
  refine (autoLeast_all v0 v1 z0 z1 W hz0 hz1 hT).mono fun e W' ⟨he, hb⟩ => ?_
  subst he
  exact ⟨_, rfl, _, _, _, [], _, [], hW', trodAll_mk1 (shut_bool Tryz.underlying4 _), trodAll_mk2 (Below.trod laidOut (by kernel_rfl) (of_decide_eq_true (by kernel_rfl)) k0 hb lt0) (Below.trod laidOut (by kernel_rfl) (of_decide_eq_true (by kernel_rfl)) k1 hb lt1), rfl, hb.frame _, fun h => by cases h⟩

theorem autoLeast_said : Rows.AutoLeastSaid :=
  OpenClaim.holds_of_wide 7 Tryz.f7 rfl rfl rfl rfl rfl rfl rfl ⟨rfl, rfl, rfl, rfl, rfl⟩ rfl rfl rfl rfl rfl (by kernel_rfl) Tryz.func7 (by kernel_rfl)
    (of_decide_eq_true (by kernel_rfl)) (by unfold Func.isWrapper; first | (rw [if_pos (by decide +kernel)]; kernel_rfl) | (rw [if_neg (by decide +kernel)]; exact ⟨rfl, rfl⟩))
    (fun os started H enc _ => autoLeast_lifted os started H enc)

theorem autoLeast_card : Rows.AutoLeastCardSaid :=
  Claim7.holds_tied_plain_at .later [] [.data] true Rows.autoLeastCard.stood.harness false
    autoLeast_said (fun _ h => by cases h) (by kernel_rfl) (fun _ h => by cases h) autoLeast_row_tie rfl ⟨rfl, rfl⟩ (by kernel_rfl) rfl
    (fun f fn hf hfn => by
      obtain rfl : f = 7 := Option.some.inj ((show Tryz.prog.funcNamed "periscope/periscopelaw07.AutoLeast" = some 7 by kernel_rfl).symm.trans hf) |>.symm
      obtain rfl : fn = Tryz.f7 := (Option.some.inj (Tryz.func7.symm.trans hfn)).symm
      exact ⟨by kernel_rfl, fun j t ht => by
        rw [Tryz.params7] at ht
        have hm : t ∈ [24, 24] := by simpa using Array.mem_of_getElem? ht
        have hall : ([24, 24].all fun u => !Tryz.prog.wantsStandIn u) = true := by kernel_rfl
        exact (show Tryz.prog.wantsStandIn t = false by simpa using List.all_eq_true.1 hall t hm)⟩)
    (by kernel_rfl)
#print axioms autoLeast_card
end Go.Proofs.YtjcfnmjjkadaeaaGreatDoor
