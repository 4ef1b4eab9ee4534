/- SplitPlaces: Places tells all places at which a text can be split and no others, Cat the two parts where there is one place alone, by as many steps as the page says. Conditions: the table of math/bits holds what its initialiser lays (the card ties that to the program's text). -/
/- Texts of this claim put together: LawSplitPlaces, ProofSplitPlaces. -/
import Derived.Test.YthlannjipbohkaaGreatDoorJoinHead9
import Derived.Test.YthlannjipbohkaaGreatDoorJoinSomeInts
import Derived.Carry
import Derived.Test.YthlannjipbohkaaGreatDoorCards
import Derived.Test.YthlannjipbohkaaGreatDoorTie
/- SplitPlaces: all places at which a text can be split, and no others; the two parts; steps as the page says. -/
namespace Go.Proofs.YthlannjipbohkaaGreatDoor
set_option maxRecDepth 100000
set_option linter.unusedSimpArgs false
set_option linter.unusedVariables false
open Go.RowKit

theorem i64_and31P (n : Int) : bits .and .i64 n 31 = n % 32 := by
  have h15 : (BitVec.ofInt 64 31).toNat = 2 ^ 5 - 1 := by decide
  have key : (BitVec.ofInt 64 n &&& BitVec.ofInt 64 31).toNat = (n % ((2 ^ 64 : Nat) : Int)).toNat % 2 ^ 5 := by
    rw [BitVec.toNat_and, BitVec.toNat_ofInt, h15, Nat.and_two_pow_sub_one_eq_mod]
  show IntKind.i64.wrap ((BitVec.ofInt 64 n &&& BitVec.ofInt 64 31).toNat : Nat) = n % 32
  rw [key, IntKind.wrap_i64]
  omega
/-- Two shapes in boxes. -/
structure PairS (W0 : World) (cs ct : List Value) (s t : SHP) (bx bt : Nat) : Prop where
  s : ShC W0 cs s
  t : ShC W0 ct t
  bs : Blk W0 bx cs.toArray 24
  bt : Blk W0 bt ct.toArray 24
theorem PairS.keep {W0 W : World} {cs ct : List Value} {s t : SHP} {bx bt : Nat} (h : PairS W0 cs ct s t bx bt) (hb : Below W0.heap.size W0 W) : PairS W cs ct s t bx bt :=
  ⟨h.s.keep hb, h.t.keep hb, h.bs.below hb h.bs.lt, h.bt.below hb h.bt.lt⟩
theorem plcs_same {P Q : Nat → Bool} : ∀ n, (∀ i, i < n → P i = Q i) → plcs n P = plcs n Q := by
  intro n
  induction n with
  | zero => intro _; rfl
  | succ n ih =>
    intro h
    rw [plcs_succ, plcs_succ, ih fun i hi => h i (by omega), h n (by omega)]
theorem PlOk.same {rx ry : RE} {l : List Nat} {P Q : Nat → Bool} (hp : PlOk rx ry l P) (hq : PlOk rx ry l Q) : plcs (l.length + 1) P = plcs (l.length + 1) Q :=
  plcs_same _ fun i hi => by rw [Bool.eq_iff_iff, hp i (by omega), hq i (by omega)]
theorem plcs_at {P : Nat → Bool} {i : Nat} (hp : P i = true) : ∀ n, i < n → (plcs n P)[(plcs i P).length]? = some i := by
  intro n
  induction n with
  | zero => intro h; omega
  | succ n ih =>
    intro h
    rw [plcs_succ]
    by_cases e : i = n
    · subst e
      rw [if_pos hp]
      simp
    · have h1 := ih (by omega)
      split
      · rw [List.getElem?_append_left (List.getElem?_eq_some_iff.1 h1).1]; exact h1
      · exact h1
theorem str_same (s : ByteArray) : (s.toList == s.toList) = true := by simp
set_option maxHeartbeats 8000000 in
theorem splitPlaces_any (cs ct : List Value) (s t : SHP) (nv : Value) (ln : Nat) (fuel : Int) (w : World) (hs : ShC w cs s) (ht : ShC w ct t) (hv : IntRow w nv ln) (hT : TabAt w) :
    Calls Tryz.prog 3 #[ShVal cs, ShVal ct, nv, .int .i64 fuel] w fun e w' => e = .returned (.bool true) ∧ Below w.heap.size w w' := by
  have HC := hide hs
  have HCt := hide ht
  have HT := hide hT
  have HLs := hide hs.len
  have HLt := hide ht.len
  obtain ⟨kv, hcs, hrow, -⟩ := hs.open
  obtain ⟨-, a, cap, rfl, -⟩ := hrow.at
  obtain ⟨kt, hct, hrowt, -⟩ := ht.open
  obtain ⟨-, at0, capt, rfl, -⟩ := hrowt.at
  have HV := hide hv
  obtain ⟨hln, la, lcap, rfl, -⟩ := hv
  have HCS := hide hcs
  have HCT := hide hct
  have hv0 : ShVal cs = .agg #[.int .i64 s.op, .int .u8 s.lo, .int .u8 s.hi, .string s.text, .slice a s.kids.length cap] := by rw [hcs]; rfl
  have hv1 : ShVal ct = .agg #[.int .i64 t.op, .int .u8 t.lo, .int .u8 t.hi, .string t.text, .slice at0 t.kids.length capt] := by rw [hct]; rfl
  rw [hv0, hv1]
  have HV0 := hide hv0
  have HV1 := hide hv1
  clear hs ht hT hrow hrowt hcs hct hv0 hv1
  obtain ⟨B, hB⟩ : ∃ B, B = w.heap.size := ⟨_, rfl⟩
  obtain ⟨wa, hwa⟩ : ∃ wa, (w.alloc (.cells #[.int .i64 s.op, .int .u8 s.lo, .int .u8 s.hi, .string s.text, .slice a s.kids.length cap] 24)).alloc (.cells #[.int .i64 t.op, .int .u8 t.lo, .int .u8 t.hi, .string t.text, .slice at0 t.kids.length capt] 24) = wa := ⟨_, rfl⟩
  have hb0 : Below B w (w.alloc (.cells #[.int .i64 s.op, .int .u8 s.lo, .int .u8 s.hi, .string s.text, .slice a s.kids.length cap] 24)) := (Below.refl _ _).alloc (Nat.le_of_eq hB) _
  have hba : Below B w wa := by rw [← hwa]; exact hb0.alloc (by simp; omega) _
  have hbs : Blk wa B #[.int .i64 s.op, .int .u8 s.lo, .int .u8 s.hi, .string s.text, .slice a s.kids.length cap] 24 := by
    rw [← hwa]
    exact (Blk.newAt hB _ _).below ((Below.refl _ _).alloc (Nat.le_refl _) _) (by simp; omega)
  have hbt : Blk wa (B + 1) #[.int .i64 t.op, .int .u8 t.lo, .int .u8 t.hi, .string t.text, .slice at0 t.kids.length capt] 24 := by rw [← hwa]; exact Blk.newAt (by simp; omega) _ _
  have HPB : Hid (PairS wa cs ct s t B (B + 1)) := ⟨HC.out.keep (hB ▸ hba), HCt.out.keep (hB ▸ hba), by rw [HCS.out]; exact hbs, by rw [HCT.out]; exact hbt⟩
  have hza : B + 2 = wa.heap.size := by rw [← hwa]; simp; omega
  have HBA := hide hba
  have HTA := hide (HT.out.agree (Agree.of_all (K := fun _ => True) (hB ▸ hba)) trivial)
  have HZA := hide hza
  have HSZ : Hid (B ≤ wa.heap.size) := by show _ ≤ _; omega
  have HB := hide hB
  have HSB := hide hbs
  have HTB := hide hbt
  clear hb0 hba hbs hbt hza
  have hB1 : w.heap.size + 1 = B + 1 := by rw [hB]
  go_enter Tryz.func3, Tryz.ntmps3
  go_wp2_with fail
  clear hwa hB1
  refine (head9_any wa HTA.out).mono ?_
  rintro e w1 ⟨rfl, hb1⟩
  rw [← hB]
  clear hB
  have HB1 := hide hb1
  clear hb1
  have xB := HSB.out.below HB1.out HSB.out.lt
  have x0 := xB.cell 0; have x1 := xB.cell 1; have x2 := xB.cell 2; have x3 := xB.cell 3; have x4 := xB.cell 4
  simp only [List.getElem?_toArray, List.getElem?_cons_zero, List.getElem?_cons_succ] at x0 x1 x2 x3 x4
  clear xB
  have hcnt := count_any s _ 0 w1 (HPB.out.keep HB1.out).s (by omega)
  rw [HV0.out] at hcnt
  have HCNT := hide hcnt
  clear hcnt
  go_wp2_with fail
  refine HCNT.out.mono ?_
  rintro e w2 ⟨c, rfl, -, hcc, hb2⟩
  have HB2 := hide (HB1.out.trans (hb2.mono HB1.out.size))
  have HCW := hide hcc
  clear hb2 hcc HCNT x0 x1 x2 x3 x4 HB1
  by_cases h15 : 15 < c
  · have d15 : decide ((15 : Int) < (c : Int)) = true := decide_eq_true (by omega)
    go_wp2
    go_ret
    exact ⟨rfl, HB.out ▸ HBA.out.trans (HB2.out.mono HSZ.out)⟩
  have d15 : decide ((15 : Int) < (c : Int)) = false := decide_eq_false (by omega)
  obtain ⟨htx, hnd⟩ := HCW.out (by omega)
  have hnd30 : s.nodes ≤ 30 := by omega
  clear HCW
  have xB := HTB.out.below HB2.out HTB.out.lt
  have y0 := xB.cell 0; have y1 := xB.cell 1; have y2 := xB.cell 2; have y3 := xB.cell 3; have y4 := xB.cell 4
  simp only [List.getElem?_toArray, List.getElem?_cons_zero, List.getElem?_cons_succ] at y0 y1 y2 y3 y4
  clear xB
  have hcnt := count_any t _ 0 w2 (HPB.out.keep HB2.out).t (by omega)
  rw [HV1.out] at hcnt
  have HCNT := hide hcnt
  clear hcnt
  go_wp2_with fail
  refine HCNT.out.mono ?_
  rintro e w3 ⟨c', rfl, -, hcc, hb2⟩
  have HB3 := hide (HB2.out.trans (hb2.mono HB2.out.size))
  have HCW := hide hcc
  clear hb2 hcc HCNT y0 y1 y2 y3 y4 HB2
  by_cases h15' : 15 < c'
  · have d15 : decide ((15 : Int) < (c' : Int)) = true := decide_eq_true (by omega)
    go_wp2
    go_ret
    exact ⟨rfl, HB.out ▸ HBA.out.trans (HB3.out.mono HSZ.out)⟩
  have d15' : decide ((15 : Int) < (c' : Int)) = false := decide_eq_false (by omega)
  obtain ⟨htx', hnd'⟩ := HCW.out (by omega)
  have hnd30' : t.nodes ≤ 30 := by omega
  clear HCW
  by_cases h6 : 6 < ln
  · have d6 : decide ((ln : Int) > 6) = true := decide_eq_true (by omega)
    have d6' : decide (6 < ln) = true := decide_eq_true h6
    go_wp2
    go_ret
    exact ⟨rfl, HB.out ▸ HBA.out.trans (HB3.out.mono HSZ.out)⟩
  have d6 : decide ((ln : Int) > 6) = false := decide_eq_false (by omega)
  have d6' : decide (6 < ln) = false := decide_eq_false h6
  have xB := HSB.out.below HB3.out HSB.out.lt
  have x0 := xB.cell 0; have x1 := xB.cell 1; have x2 := xB.cell 2; have x3 := xB.cell 3; have x4 := xB.cell 4
  simp only [List.getElem?_toArray, List.getElem?_cons_zero, List.getElem?_cons_succ] at x0 x1 x2 x3 x4
  clear xB
  have hmk := make_any s _ w3 (HPB.out.keep HB3.out).s htx hnd30 (HTA.out.agree (Agree.of_all (K := fun _ => True) HB3.out) trivial)
  rw [HV0.out] at hmk
  have HMK := hide hmk
  clear hmk
  try unfold PT
  go_wp2_with fail
  refine HMK.out.mono ?_
  rintro e w4 ⟨rs, rfl, hr, hb⟩
  have HB4 := hide (HB3.out.trans (hb.mono HB3.out.size))
  have HR := hide hr
  clear x0 x1 x2 x3 x4 HMK hr
  clear hb
  try unfold PT
  go_wp2_with fail
  refine (grant_any 400 w4 (by omega)).mono ?_
  rintro e w5 ⟨bud, rfl, hbd, hbl, hb⟩
  rw [show max (400 : Int) 0 = 400 from by omega] at hbd
  have HB5 := hide (HB4.out.trans (hb.mono HB4.out.size))
  have hwb : wa.heap.size ≤ bud := Nat.le_trans HB4.out.size hbl
  have hcx := s.cnt htx
  have HO := hide (sbuild_any s.re rs w5 (HR.out.keep hb) s.wf (by omega) bud 400 hbd hbd.blk.lt (by omega) (by omega) (HTA.out.agree (Agree.of_all (K := fun _ => True) HB5.out) trivial))
  clear hbd hb hbl HR hcx
  unfold PT at HO
  try unfold PT
  go_wp2_with fail
  refine HO.out.mono ?_
  rintro e w6 ⟨hfr, hh⟩
  have HB6 := hide (HB5.out.trans (hfr wa.heap.size HB5.out.size hwb))
  clear hfr HO hwb
  have HH1 : Hid (∃ (v : Value) (e1 : Nat), e = .returned (.tuple #[v, .int .i64 e1]) ∧ ((e1 = 5 ∧ v = .pointer none) ∨ (e1 = 0 ∧ ∃ pa, v = PT pa ∧ SideAt w6 pa s.re))) := by
    rcases hh with ⟨-, h⟩ | ⟨pa, h, hsa, -⟩
    · exact ⟨_, 5, h, .inl ⟨rfl, rfl⟩⟩
    · exact ⟨_, 0, h, .inr ⟨rfl, pa, rfl, hsa⟩⟩
  clear hh
  obtain ⟨va, e1, rfl, hva⟩ := HH1.out
  have HVA := hide hva
  clear hva HH1
  have xB := HTB.out.below HB6.out HTB.out.lt
  have y0 := xB.cell 0; have y1 := xB.cell 1; have y2 := xB.cell 2; have y3 := xB.cell 3; have y4 := xB.cell 4
  simp only [List.getElem?_toArray, List.getElem?_cons_zero, List.getElem?_cons_succ] at y0 y1 y2 y3 y4
  clear xB
  have hmk := make_any t _ w6 (HPB.out.keep HB6.out).t htx' hnd30' (HTA.out.agree (Agree.of_all (K := fun _ => True) HB6.out) trivial)
  rw [HV1.out] at hmk
  have HMK := hide hmk
  clear hmk
  try unfold PT
  go_wp2_with fail
  refine HMK.out.mono ?_
  rintro e w7 ⟨rt, rfl, hr, hb⟩
  have HB7 := hide (HB6.out.trans (hb.mono HB6.out.size))
  have HR := hide hr
  clear y0 y1 y2 y3 y4 HMK hr
  have HV7 := hide hb
  clear hb
  try unfold PT
  go_wp2_with fail
  refine (grant_any 400 w7 (by omega)).mono ?_
  rintro e w8 ⟨bud, rfl, hbd, hbl, hb⟩
  rw [show max (400 : Int) 0 = 400 from by omega] at hbd
  have HB8 := hide (HB7.out.trans (hb.mono HB7.out.size))
  have HV8 := hide (HV7.out.trans (hb.mono HV7.out.size))
  have hbv : w6.heap.size ≤ bud := Nat.le_trans HV7.out.size hbl
  have hwb : wa.heap.size ≤ bud := Nat.le_trans HB7.out.size hbl
  have hcx := t.cnt htx'
  have HO := hide (sbuild_any t.re rt w8 (HR.out.keep hb) t.wf (by omega) bud 400 hbd hbd.blk.lt (by omega) (by omega) (HTA.out.agree (Agree.of_all (K := fun _ => True) HB8.out) trivial))
  clear hbd hb hbl HR hcx
  unfold PT at HO
  try unfold PT
  go_wp2_with fail
  refine HO.out.mono ?_
  rintro e w9 ⟨hfr, hh⟩
  have HB9 := hide (HB8.out.trans (hfr wa.heap.size HB8.out.size hwb))
  have HV9 := hide (HV8.out.trans (hfr w6.heap.size HV8.out.size hbv))
  clear hfr HO hwb
  rcases hh with ⟨-, rfl⟩ | ⟨pb, rfl, hsb, -⟩
  · -- the second one's states were too few
    rcases HVA.out with ⟨rfl, rfl⟩ | ⟨rfl, pa, rfl, -⟩
    all_goals go_wp2
    all_goals go_ret
    all_goals exact ⟨rfl, HB.out ▸ HBA.out.trans (HB9.out.mono HSZ.out)⟩
  rcases HVA.out with ⟨rfl, rfl⟩ | ⟨rfl, pa, rfl, hsa⟩
  · go_wp2
    go_ret
    exact ⟨rfl, HB.out ▸ HBA.out.trans (HB9.out.mono HSZ.out)⟩
  have HSA := hide (hsa.keep HV9.out)
  have HSBd := hide hsb
  have HPV : Hid (∀ W, Below w9.heap.size w9 W → PairS W cs ct s t B (B + 1)) := fun W hW => HPB.out.keep (HB9.out.trans (hW.mono HB9.out.size))
  have HBW : Hid (∀ W, Below w9.heap.size w9 W → Below B w W) := fun W hW => HBA.out.trans ((HB9.out.trans (hW.mono HB9.out.size)).mono HSZ.out)
  have HTV : Hid (∀ W, Below w9.heap.size w9 W → TabAt W) := fun W hW => HTA.out.agree (Agree.of_all (K := fun _ => True) (HB9.out.trans (hW.mono HB9.out.size))) trivial
  have hz9 : B + 2 ≤ w9.heap.size := by have h1 := HB9.out.size; have h2 := HZA.out; omega
  clear hsa hsb HVA HV7 HV8 HV9 HB7 HB8 HB6 HB4 HB5 HB3
  have HSO := hide (some_any ln (.slice la ln lcap) w9 (by omega) (HV.out.keep (HB.out ▸ HBW.out w9 (Below.refl _ _))))
  try unfold PT
  go_wp2_with fail
  refine HSO.out.mono ?_
  rintro e wb ⟨tx, rfl, htz, hbb⟩
  have HVb := hide hbb
  obtain ⟨N, hN⟩ : ∃ N, tx.size = N := ⟨_, rfl⟩
  have hN6 : N ≤ 6 := by omega
  have HNN := hide hN
  have htz' : tx.size = N := hN
  clear hbb HSO htz hN
  have hm2 : ((2 * (N + 1) : Nat) : Int) = 2 * ((N : Int) + 1) := by omega
  have HFI := hide (fill_any (2 * (N + 1)) wb (by omega))
  rw [hm2] at HFI
  have HTZ := hide htz'
  try unfold PT
  go_wp2_with fail
  refine HFI.out.mono ?_
  rintro e wc ⟨pf, rfl, hfc, hpf, hbc⟩
  have HVc := hide (HVb.out.trans (hbc.mono HVb.out.size))
  have hpf9 : w9.heap.size ≤ pf := by have := HVb.out.size; omega
  have HPL := hide (places_any pa pb pf s.re t.re tx (2 * (N + 1)) 0 w9.heap.size wc hpf9 HVc.out.size (fun W hW => HSA.out.keep (HVc.out.trans hW)) (fun W hW => HSBd.out.keep (HVc.out.trans hW)) t.wf hfc (by omega))
  rw [htz'] at HPL
  clear hfc hbc HFI hpf htz'
  unfold PT at HPL
  try unfold PT
  go_wp2_with fail
  refine HPL.out.mono ?_
  rintro e wd ⟨hbd, hh⟩
  have HVd := hide (HVc.out.trans (hbd w9.heap.size HVc.out.size hpf9))
  rcases hh with ⟨hl, -, -⟩ | ⟨-, gv, Q, rfl, hpl, ho, hfd⟩
  · exact absurd hl (by omega)
  have HPLO := hide hpl
  have HO := hide ho
  obtain ⟨L, hL⟩ : ∃ L, plcs (N + 1) Q = L := ⟨_, rfl⟩
  have HLL := hide hL
  rw [hL] at HO
  obtain ⟨ga, gc, rfl, -⟩ := OwnG.slice HO.out
  rw [intV_length] at HO ⊢
  have hLn : L.length ≤ N + 1 := by rw [← hL]; exact plcs_len _ _
  have HUS := hide (fuelUsed_any pf _ _ wd hfd)
  have hu2 : ((0 + 2 * (N + 1) : Nat) : Int) = 2 * ((N : Int) + 1) := by omega
  rw [hu2] at HUS
  obtain ⟨M, hM⟩ : ∃ M, L.length = M := ⟨_, rfl⟩
  have HMM := hide hM
  rw [hM] at hLn HO ⊢
  clear hbd hpl ho hfd HPL hL hu2 hM
  unfold PT at HUS
  try unfold PT
  go_wp2_with fail
  refine HUS.out.mono ?_
  rintro e we ⟨rfl, rfl⟩
  clear HUS
  go_wp2
  go_loopw [18, 19] (fun nv iv wr => ∃ i : Nat, iv = .int .i64 i ∧ i ≤ N + 1 ∧ nv = .int .i64 ((plcs i Q).length : Nat) ∧ Hid (Below we.heap.size we wr)) (fun _ iv _ => N + 1 - (intOf iv).toNat)
  case atStart => exact ⟨0, rfl, Nat.zero_le _, rfl, Below.refl _ _⟩
  case round =>
    obtain ⟨i, rfl, hi, rfl, HBE⟩ := hrel
    have HVr : Hid (Below w9.heap.size w9 wr) := HVd.out.trans (HBE.out.mono HVd.out.size)
    have hlen := plcs_len i Q
    by_cases hlt : i ≤ N
    · have di : decide ((i : Int) ≤ (N : Int)) = true := by simp; omega
      have hiz : i ≤ tx.size := by rw [HTZ.out]; exact hlt
      have HIZ := hide hiz
      have hsuc := plcs_succ i Q
      have HPR := hide (HPV.out wr HVr.out)
      obtain ⟨q1, hq1⟩ : ∃ q, hB s.lang (tx.extract 0 i) = q := ⟨_, rfl⟩
      obtain ⟨q2, hq2⟩ : ∃ q, hB t.lang (tx.extract i tx.size) = q := ⟨_, rfl⟩
      have HQI : Hid (Q i = (q1 && q2)) := by
        show _ = _
        have h1 := HPLO.out i (by rw [bytesN_length]; exact hiz)
        have hby : By (bytesN tx) := by_bytes tx
        rw [← hq1, ← hq2, Bool.eq_iff_iff, h1, Bool.and_eq_true, hB_iff, hB_iff, bytesN_take, bytesN_drop,
          shape_lang s _ (fun x hx => hby x (List.mem_of_mem_take hx)), shape_lang t _ (fun x hx => hby x (List.mem_of_mem_drop hx))]
      obtain ⟨C, hC⟩ : ∃ C : World → Prop, C = fun X => Below wr.heap.size wr X := ⟨_, rfl⟩
      have hcb : ∀ X, C X → Below wr.heap.size wr X := fun X h => by rw [hC] at h; exact h
      have HG : Hid (Grows C) := fun X X' h hb => by rw [hC] at h ⊢; exact h.trans (hb.mono h.size)
      have HQS : Hid (∀ X, C X → ∀ j u, cs[j]? = some u → X.cell? ⟨B, 0 + j, none⟩ = some u) := fun X hX j u hu => by
        have hx := HPR.out.bs.below (hcb X hX) HPR.out.bs.lt
        rw [Nat.zero_add, hx.cell j]
        simpa using hu
      have HQT : Hid (∀ X, C X → ∀ j u, ct[j]? = some u → X.cell? ⟨B + 1, 0 + j, none⟩ = some u) := fun X hX j u hu => by
        have hx := HPR.out.bt.below (hcb X hX) HPR.out.bt.lt
        rw [Nat.zero_add, hx.cell j]
        simpa using hu
      have HI1 : Hid (∀ X, C X → Calls Tryz.prog 14 #[ShVal cs, .string (tx.extract 0 i)] X fun e w' => e = .returned (.bool q1) ∧ Below X.heap.size X w') := fun X hX => by rw [← hq1]; exact shIn_any s _ (by have h9 := HTZ.out; rw [ByteArray.size_extract]; omega) cs X (HPR.out.s.keep (hcb X hX))
      have HI2 : Hid (∀ X, C X → Calls Tryz.prog 14 #[ShVal ct, .string (tx.extract i tx.size)] X fun e w' => e = .returned (.bool q2) ∧ Below X.heap.size X w') := fun X hX => by rw [← hq2]; exact shIn_any t _ (by have h9 := HTZ.out; rw [ByteArray.size_extract]; omega) ct X (HPR.out.t.keep (hcb X hX))
      have HC6 : Hid (C { wr with drawn := wr.drawn + 1 }) := by
        rw [hC]
        exact ⟨rfl, rfl, rfl, Nat.le_refl _, fun _ _ => rfl⟩
      have HCB := hide hcb
      clear hq1 hq2 hC hcb hiz
      try unfold PT
      go_wp2
      have hG := HG.out
      have hqs := HQS.out
      have hqt := HQT.out
      have hi1 := HI1.out
      have hi2 := HI2.out
      have hiz := HIZ.out
      refine w_lit (C := C) (by kernel_rfl) (by kernel_rfl) HC6.out ?_
      cases q1 with
      | false =>
        refine w_value (ShVal cs) (by kernel_rfl) (fun w hw => x_loadSh _ _ _ _ _ _ _ B 0 cs rfl w HLs.out (hqs w hw)) ?_
        simp only [Act.put, List.setIfInBounds_toArray, List.set_cons_succ, List.set_cons_zero]
        refine w_value (.string tx) (by kernel_rfl) (fun w hw => x_move _ _ _ _ _ _ _ _ rfl w) ?_
        simp only [Act.put, List.setIfInBounds_toArray, List.set_cons_succ, List.set_cons_zero]
        refine w_value (.int .i64 i) (by kernel_rfl) (fun w hw => x_move _ _ _ _ _ _ _ _ rfl w) ?_
        simp only [Act.put, List.setIfInBounds_toArray, List.set_cons_succ, List.set_cons_zero]
        refine w_value (.string (tx.extract 0 i)) (by kernel_rfl) (fun w hw => x_strTo _ _ _ _ _ _ _ _ tx i rfl rfl hiz w) ?_
        simp only [Act.put, List.setIfInBounds_toArray, List.set_cons_succ, List.set_cons_zero]
        refine w_call hG 14 #[ShVal cs, .string (tx.extract 0 i)] (.bool false) (by kernel_rfl) (fun w => x_call2 _ _ _ _ _ _ _ _ _ _ _ _ _ rfl rfl rfl (enters_of Tryz.func14 (by kernel_rfl) rfl) w) (fun w hw => hi1 w hw) ?_
        simp only [Act.put, List.setIfInBounds_toArray, List.set_cons_succ, List.set_cons_zero]
        refine w_value (.bool true) (by kernel_rfl) (fun w hw => x_notBool _ _ _ _ _ _ _ false rfl w) ?_
        simp only [Act.put, List.setIfInBounds_toArray, List.set_cons_succ, List.set_cons_zero]
        refine w_value (.bool true) (by kernel_rfl) (fun w hw => x_move _ _ _ _ _ _ _ _ rfl w) ?_
        simp only [Act.put, List.setIfInBounds_toArray, List.set_cons_succ, List.set_cons_zero]
        refine w_skip (by kernel_rfl) ?_
        simp only [Act.put, List.setIfInBounds_toArray, List.set_cons_succ, List.set_cons_zero]
        refine w_skip (by kernel_rfl) ?_
        simp only [Act.put, List.setIfInBounds_toArray, List.set_cons_succ, List.set_cons_zero]
        refine w_skip (by kernel_rfl) ?_
        simp only [Act.put, List.setIfInBounds_toArray, List.set_cons_succ, List.set_cons_zero]
        refine w_skip (by kernel_rfl) ?_
        simp only [Act.put, List.setIfInBounds_toArray, List.set_cons_succ, List.set_cons_zero]
        refine w_skip (by kernel_rfl) ?_
        simp only [Act.put, List.setIfInBounds_toArray, List.set_cons_succ, List.set_cons_zero]
        refine w_skip (by kernel_rfl) ?_
        simp only [Act.put, List.setIfInBounds_toArray, List.set_cons_succ, List.set_cons_zero]
        refine w_value (.bool true) (by kernel_rfl) (fun w hw => x_pick _ _ _ _ _ _ _ _ _ true (.bool true) undef rfl rfl rfl w) ?_
        simp only [Act.put, List.setIfInBounds_toArray, List.set_cons_succ, List.set_cons_zero]
        refine w_nil ?_
        intro X hX
        have HX := hide (HBE.out.trans ((HCB.out X hX).mono HBE.out.size))
        rw [HQI.out, Bool.false_and, if_neg (by decide)] at hsuc
        have HSU := hide (congrArg List.length hsuc)
        clear hG hqs hqt hi1 hi2 hiz hX HG HQS HQT HI1 HI2 HC6 HCB hsuc
        generalize (plcs i Q).length = pn at *
        go_wp2
        exact ⟨⟨i + 1, by go_num, by omega, by rw [HSU.out], HX.out⟩, by simp [intOf]; omega⟩
      | true =>
        cases q2 with
        | false =>
          refine w_value (ShVal cs) (by kernel_rfl) (fun w hw => x_loadSh _ _ _ _ _ _ _ B 0 cs rfl w HLs.out (hqs w hw)) ?_
          simp only [Act.put, List.setIfInBounds_toArray, List.set_cons_succ, List.set_cons_zero]
          refine w_value (.string tx) (by kernel_rfl) (fun w hw => x_move _ _ _ _ _ _ _ _ rfl w) ?_
          simp only [Act.put, List.setIfInBounds_toArray, List.set_cons_succ, List.set_cons_zero]
          refine w_value (.int .i64 i) (by kernel_rfl) (fun w hw => x_move _ _ _ _ _ _ _ _ rfl w) ?_
          simp only [Act.put, List.setIfInBounds_toArray, List.set_cons_succ, List.set_cons_zero]
          refine w_value (.string (tx.extract 0 i)) (by kernel_rfl) (fun w hw => x_strTo _ _ _ _ _ _ _ _ tx i rfl rfl hiz w) ?_
          simp only [Act.put, List.setIfInBounds_toArray, List.set_cons_succ, List.set_cons_zero]
          refine w_call hG 14 #[ShVal cs, .string (tx.extract 0 i)] (.bool true) (by kernel_rfl) (fun w => x_call2 _ _ _ _ _ _ _ _ _ _ _ _ _ rfl rfl rfl (enters_of Tryz.func14 (by kernel_rfl) rfl) w) (fun w hw => hi1 w hw) ?_
          simp only [Act.put, List.setIfInBounds_toArray, List.set_cons_succ, List.set_cons_zero]
          refine w_value (.bool false) (by kernel_rfl) (fun w hw => x_notBool _ _ _ _ _ _ _ true rfl w) ?_
          simp only [Act.put, List.setIfInBounds_toArray, List.set_cons_succ, List.set_cons_zero]
          refine w_value (.bool false) (by kernel_rfl) (fun w hw => x_move _ _ _ _ _ _ _ _ rfl w) ?_
          simp only [Act.put, List.setIfInBounds_toArray, List.set_cons_succ, List.set_cons_zero]
          refine w_value (ShVal ct) (by kernel_rfl) (fun w hw => x_loadSh _ _ _ _ _ _ _ (B + 1) 0 ct rfl w HLt.out (hqt w hw)) ?_
          simp only [Act.put, List.setIfInBounds_toArray, List.set_cons_succ, List.set_cons_zero]
          refine w_value (.string tx) (by kernel_rfl) (fun w hw => x_move _ _ _ _ _ _ _ _ rfl w) ?_
          simp only [Act.put, List.setIfInBounds_toArray, List.set_cons_succ, List.set_cons_zero]
          refine w_value (.int .i64 i) (by kernel_rfl) (fun w hw => x_move _ _ _ _ _ _ _ _ rfl w) ?_
          simp only [Act.put, List.setIfInBounds_toArray, List.set_cons_succ, List.set_cons_zero]
          refine w_value (.string (tx.extract i tx.size)) (by kernel_rfl) (fun w hw => x_strFrom _ _ _ _ _ _ _ _ tx i rfl rfl hiz w) ?_
          simp only [Act.put, List.setIfInBounds_toArray, List.set_cons_succ, List.set_cons_zero]
          refine w_call hG 14 #[ShVal ct, .string (tx.extract i tx.size)] (.bool false) (by kernel_rfl) (fun w => x_call2 _ _ _ _ _ _ _ _ _ _ _ _ _ rfl rfl rfl (enters_of Tryz.func14 (by kernel_rfl) rfl) w) (fun w hw => hi2 w hw) ?_
          simp only [Act.put, List.setIfInBounds_toArray, List.set_cons_succ, List.set_cons_zero]
          refine w_value (.bool true) (by kernel_rfl) (fun w hw => x_notBool _ _ _ _ _ _ _ false rfl w) ?_
          simp only [Act.put, List.setIfInBounds_toArray, List.set_cons_succ, List.set_cons_zero]
          refine w_value (.bool true) (by kernel_rfl) (fun w hw => x_pick _ _ _ _ _ _ _ _ _ false (.bool true) (.bool true) rfl rfl rfl w) ?_
          simp only [Act.put, List.setIfInBounds_toArray, List.set_cons_succ, List.set_cons_zero]
          refine w_nil ?_
          intro X hX
          have HX := hide (HBE.out.trans ((HCB.out X hX).mono HBE.out.size))
          rw [HQI.out, if_neg (by decide)] at hsuc
          have HSU := hide (congrArg List.length hsuc)
          clear hG hqs hqt hi1 hi2 hiz hX HG HQS HQT HI1 HI2 HC6 HCB hsuc
          generalize (plcs i Q).length = pn at *
          go_wp2
          exact ⟨⟨i + 1, by go_num, by omega, by rw [HSU.out], HX.out⟩, by simp [intOf]; omega⟩
        | true =>
          refine w_value (ShVal cs) (by kernel_rfl) (fun w hw => x_loadSh _ _ _ _ _ _ _ B 0 cs rfl w HLs.out (hqs w hw)) ?_
          simp only [Act.put, List.setIfInBounds_toArray, List.set_cons_succ, List.set_cons_zero]
          refine w_value (.string tx) (by kernel_rfl) (fun w hw => x_move _ _ _ _ _ _ _ _ rfl w) ?_
          simp only [Act.put, List.setIfInBounds_toArray, List.set_cons_succ, List.set_cons_zero]
          refine w_value (.int .i64 i) (by kernel_rfl) (fun w hw => x_move _ _ _ _ _ _ _ _ rfl w) ?_
          simp only [Act.put, List.setIfInBounds_toArray, List.set_cons_succ, List.set_cons_zero]
          refine w_value (.string (tx.extract 0 i)) (by kernel_rfl) (fun w hw => x_strTo _ _ _ _ _ _ _ _ tx i rfl rfl hiz w) ?_
          simp only [Act.put, List.setIfInBounds_toArray, List.set_cons_succ, List.set_cons_zero]
          refine w_call hG 14 #[ShVal cs, .string (tx.extract 0 i)] (.bool true) (by kernel_rfl) (fun w => x_call2 _ _ _ _ _ _ _ _ _ _ _ _ _ rfl rfl rfl (enters_of Tryz.func14 (by kernel_rfl) rfl) w) (fun w hw => hi1 w hw) ?_
          simp only [Act.put, List.setIfInBounds_toArray, List.set_cons_succ, List.set_cons_zero]
          refine w_value (.bool false) (by kernel_rfl) (fun w hw => x_notBool _ _ _ _ _ _ _ true rfl w) ?_
          simp only [Act.put, List.setIfInBounds_toArray, List.set_cons_succ, List.set_cons_zero]
          refine w_value (.bool false) (by kernel_rfl) (fun w hw => x_move _ _ _ _ _ _ _ _ rfl w) ?_
          simp only [Act.put, List.setIfInBounds_toArray, List.set_cons_succ, List.set_cons_zero]
          refine w_value (ShVal ct) (by kernel_rfl) (fun w hw => x_loadSh _ _ _ _ _ _ _ (B + 1) 0 ct rfl w HLt.out (hqt w hw)) ?_
          simp only [Act.put, List.setIfInBounds_toArray, List.set_cons_succ, List.set_cons_zero]
          refine w_value (.string tx) (by kernel_rfl) (fun w hw => x_move _ _ _ _ _ _ _ _ rfl w) ?_
          simp only [Act.put, List.setIfInBounds_toArray, List.set_cons_succ, List.set_cons_zero]
          refine w_value (.int .i64 i) (by kernel_rfl) (fun w hw => x_move _ _ _ _ _ _ _ _ rfl w) ?_
          simp only [Act.put, List.setIfInBounds_toArray, List.set_cons_succ, List.set_cons_zero]
          refine w_value (.string (tx.extract i tx.size)) (by kernel_rfl) (fun w hw => x_strFrom _ _ _ _ _ _ _ _ tx i rfl rfl hiz w) ?_
          simp only [Act.put, List.setIfInBounds_toArray, List.set_cons_succ, List.set_cons_zero]
          refine w_call hG 14 #[ShVal ct, .string (tx.extract i tx.size)] (.bool true) (by kernel_rfl) (fun w => x_call2 _ _ _ _ _ _ _ _ _ _ _ _ _ rfl rfl rfl (enters_of Tryz.func14 (by kernel_rfl) rfl) w) (fun w hw => hi2 w hw) ?_
          simp only [Act.put, List.setIfInBounds_toArray, List.set_cons_succ, List.set_cons_zero]
          refine w_value (.bool false) (by kernel_rfl) (fun w hw => x_notBool _ _ _ _ _ _ _ true rfl w) ?_
          simp only [Act.put, List.setIfInBounds_toArray, List.set_cons_succ, List.set_cons_zero]
          refine w_value (.bool false) (by kernel_rfl) (fun w hw => x_pick _ _ _ _ _ _ _ _ _ false (.bool true) (.bool false) rfl rfl rfl w) ?_
          simp only [Act.put, List.setIfInBounds_toArray, List.set_cons_succ, List.set_cons_zero]
          refine w_nil ?_
          intro X hX
          have HX := hide (HBE.out.trans ((HCB.out X hX).mono HBE.out.size))
          have hat := plcs_at (P := Q) (i := i) (by rw [HQI.out]; rfl) (N + 1) (by omega)
          rw [HLL.out] at hat
          obtain ⟨g, gcap, e, -, hg, hcell⟩ := OwnG.cell (OwnG.keep HO.out HX.out) (j := (plcs i Q).length) (x := .int .i64 i) (by simp [intV, hat])
          obtain ⟨rfl, rfl⟩ : ga = some ⟨g, 0, none⟩ ∧ gc = gcap := by cases e; exact ⟨rfl, rfl⟩
          have hpm : (plcs i Q).length < M := by rw [← HMM.out]; exact (List.getElem?_eq_some_iff.1 hat).1
          rw [HQI.out, if_pos (by decide)] at hsuc
          have hsl := congrArg List.length hsuc
          rw [List.length_append] at hsl
          have HSU := hide hsl
          clear hG hqs hqt hi1 hi2 hiz hX HG HQS HQT HI1 HI2 HC6 HCB hsuc hat e hsl hg
          generalize (plcs i Q).length = pn at *
          have dpm : decide ((M : Int) ≤ (pn : Int)) = false := decide_eq_false (by omega)
          have dpm2 : decide (M ≤ pn) = false := decide_eq_false (by omega)
          have dpm3 : decide (pn < M) = true := decide_eq_true hpm
          go_wp2
          exact ⟨⟨i + 1, by go_num, by omega, by rw [HSU.out]; go_num, HX.out⟩, by simp [intOf]; omega⟩
    · have di : decide ((i : Int) ≤ (N : Int)) = false := by simp; omega
      obtain rfl : i = N + 1 := by omega
      have di2 : decide ((N : Int) + 1 ≤ (N : Int)) = false := decide_eq_false (by omega)
      rw [HLL.out, HMM.out]
      obtain ⟨c2, hc2, hca⟩ : ∃ m : Nat, m < 32 ∧ bits .and .i64 fuel 31 = (m : Int) := ⟨(fuel % 32).toNat, by omega, by rw [i64_and31P]; omega⟩
      have dM : ((M : Int) != (M : Int)) = false := by simp
      have htzE := HTZ.out
      try unfold PT
      go_wp2_with fail
      clear htzE
      refine (fill_any c2 wr (by omega)).mono ?_
      rintro e wf ⟨pf2, rfl, hff, hpf2, hbf⟩
      have HVf := hide (HVr.out.trans (hbf.mono HVr.out.size))
      have hp9 : w9.heap.size ≤ pf2 := by have := HVr.out.size; omega
      have HCA := hide (cat_any pa pb pf2 s.re t.re tx c2 0 w9.heap.size wf hp9 HVf.out.size (fun W hW => HSA.out.keep (HVf.out.trans hW)) (fun W hW => HSBd.out.keep (HVf.out.trans hW)) t.wf hff (by have h9 := HTZ.out; omega))
      have HEf := hide (HBE.out.trans (hbf.mono HBE.out.size))
      have hpe : we.heap.size ≤ pf2 := by have := HBE.out.size; omega
      clear hff hbf hpf2
      unfold PT at HCA
      try unfold PT
      go_wp2_with fail
      refine HCA.out.mono ?_
      rintro e wg ⟨hbg, hcp⟩
      have HVg := hide (HVf.out.trans (hbg w9.heap.size HVf.out.size hp9))
      have HEg := hide (HEf.out.trans (hbg we.heap.size HEf.out.size hpe))
      clear hbg HCA
      have htz := HTZ.out
      rcases hcp with ⟨hl, rfl⟩ | ⟨hl, P2, hp2, hcp⟩
      · rw [htz] at hl
        have dl : decide ((c2 : Int) < 2 * ((N : Int) + 1)) = true := decide_eq_true (by omega)
        clear htz
        go_wp2
        go_ret
        exact ⟨rfl, HB.out ▸ HBW.out _ HVg.out⟩
      · rw [htz] at hl
        have dl : decide ((c2 : Int) < 2 * ((N : Int) + 1)) = false := decide_eq_false (by omega)
        have hsame : plcs (tx.size + 1) P2 = L := by
          have h := hp2.same HPLO.out
          rw [bytesN_length] at h
          rw [h, htz]
          exact HLL.out
        rw [hsame] at hcp
        clear hp2 hsame
        rcases hcp with ⟨h1, rfl⟩ | ⟨i, hLi, rfl⟩
        · rw [HMM.out] at h1
          have d1 : ((M : Int) != 1) = true := by simp; omega
          clear htz
          go_wp2
          go_ret
          exact ⟨rfl, HB.out ▸ HBW.out _ HVg.out⟩
        · have hM1 : M = 1 := by rw [← HMM.out, hLi]; rfl
          subst hM1
          have HLI := hide hLi
          obtain ⟨g, gcap, e, -, hg, hcell⟩ := OwnG.cell HO.out (j := 0) (x := .int .i64 i) (by rw [hLi]; rfl)
          obtain ⟨rfl, rfl⟩ : ga = some ⟨g, 0, none⟩ ∧ gc = gcap := by injection e with e1 e2 e3; exact ⟨e1, e3⟩
          have HGC : Hid (∀ W, Below we.heap.size we W → W.cell? ⟨g, 0, none⟩ = some (.int .i64 i)) := fun W hW => (World.cell?_of_block (w := we) (hW.block g hg)).trans hcell
          have hiN : i ≤ tx.size := by
            have h1 : i ∈ plcs (N + 1) Q := by rw [HLL.out, hLi]; simp
            unfold plcs at h1
            have := List.mem_range.1 (List.mem_filter.1 h1).1
            omega
          have HIN := hide hiN
          have d1 : (((1 : Nat) : Int) != 1) = false := by decide
          clear hcell hg e hLi hiN htz
          have hN1 : ((N + 1 : Nat) : Int) = (N : Int) + 1 := by omega
          have HF3 := hide (fill_any (N + 1) wg (by omega))
          rw [hN1] at HF3
          have HTZ2 := hide HTZ.out
          have htz := HTZ.out
          try unfold PT
          go_wp2_with fail
          refine HF3.out.mono ?_
          rintro e wh ⟨pf3, rfl, hf3, hp3, hb3⟩
          have HVh := hide (HVg.out.trans (hb3.mono HVg.out.size))
          have HEh := hide (HEg.out.trans (hb3.mono HEg.out.size))
          have hp39 : w9.heap.size ≤ pf3 := by have := HVg.out.size; omega
          have hp3e : we.heap.size ≤ pf3 := by have := HEg.out.size; omega
          have HM3 := hide (smatch_any pa pf3 s.re tx (N + 1) 0 w9.heap.size wh hp39 HVh.out.size (fun W hW => HSA.out.keep (HVh.out.trans hW)) hf3 (by omega))
          clear hf3 hb3 hp3 HF3
          unfold PT at HM3
          try unfold PT
          go_wp2_with fail
          refine HM3.out.mono ?_
          rintro e wi ⟨hbi, hmi⟩
          have HVi := hide (HVh.out.trans (hbi w9.heap.size HVh.out.size hp39))
          have HEi := hide (HEh.out.trans (hbi we.heap.size HEh.out.size hp3e))
          rcases hmi with ⟨hl3, -⟩ | ⟨-, bm, rfl, hbm⟩
          · exact absurd hl3 (by omega)
          obtain ⟨qm, hqm⟩ : ∃ q, hB s.lang tx = q := ⟨_, rfl⟩
          have hbq : bm = qm := by
            rw [← hqm, Bool.eq_iff_iff, hbm, hB_iff]
            exact shape_lang s _ (by_bytes tx)
          subst hbq
          have HQM := hide hqm
          clear hbi hbm HM3 hqm
          have HF4 := hide (fill_any N wi (by omega))
          try unfold PT
          go_wp2_with fail
          refine HF4.out.mono ?_
          rintro e wj ⟨pf4, rfl, hf4, hp4, hb4⟩
          have HVj := hide (HVi.out.trans (hb4.mono HVi.out.size))
          have HEj := hide (HEi.out.trans (hb4.mono HEi.out.size))
          have hp49 : w9.heap.size ≤ pf4 := by have := HVi.out.size; omega
          have hp4e : we.heap.size ≤ pf4 := by have := HEi.out.size; omega
          have HM4 := hide (smatch_any pa pf4 s.re tx N 0 w9.heap.size wj hp49 HVj.out.size (fun W hW => HSA.out.keep (HVj.out.trans hW)) hf4 (by omega))
          clear hf4 hb4 hp4 HF4
          unfold PT at HM4
          try unfold PT
          go_wp2_with fail
          refine HM4.out.mono ?_
          rintro e wk ⟨hbk, hmk⟩
          have HVk := hide (HVj.out.trans (hbk w9.heap.size HVj.out.size hp49))
          have HEk := hide (HEj.out.trans (hbk we.heap.size HEj.out.size hp4e))
          rcases hmk with ⟨-, rfl⟩ | ⟨hl4, -⟩
          case inr => exact absurd hl4 (by omega)
          have hgc := HGC.out wk HEk.out
          have hpk := HPV.out wk HVk.out
          have HIK := hide (shIn_any s tx (by omega) cs wk hpk.s)
          rw [HQM.out, HV0.out] at HIK
          have xB := hpk.bs
          rw [HCS.out] at xB
          have x0 := xB.cell 0; have x1 := xB.cell 1; have x2 := xB.cell 2; have x3 := xB.cell 3; have x4 := xB.cell 4
          simp only [List.getElem?_toArray, List.getElem?_cons_zero, List.getElem?_cons_succ] at x0 x1 x2 x3 x4
          have hi1 : (i : Int) ≤ (N : Int) := by have := HIN.out; omega
          have hiz := HIN.out
          clear hbk HM4 hpk xB
          go_wp2_with fail
          refine HIK.out.mono ?_
          rintro e wl ⟨rfl, hbl⟩
          have HVl := hide (HVk.out.trans (hbl.mono HVk.out.size))
          clear hbl HIK x0 x1 x2 x3 x4 hgc
          go_wp2
          go_ret
          exact ⟨rfl, HB.out ▸ HBW.out _ HVl.out⟩
theorem splitPlaces_all (v u nv : Value) (s t : SHP) (ln : Nat) (fuel : Int) (w : World) (hv : ∃ cs, v = ShVal cs ∧ ShC w cs s) (hu : ∃ cs, u = ShVal cs ∧ ShC w cs t) (hn : IntRow w nv ln) (hT : TabAt w) :
    Calls Tryz.prog 3 #[v, u, nv, .int .i64 fuel] w fun e w' => e = .returned (.bool true) ∧ Below w.heap.size w w' := by
  obtain ⟨cs, rfl, hs⟩ := hv
  obtain ⟨ct, rfl, ht⟩ := hu
  exact splitPlaces_any cs ct s t nv ln fuel w hs ht hn hT
end Go.Proofs.YthlannjipbohkaaGreatDoor
/- SplitPlaces: Places tells all places at which a text can be split and no others, Cat the two parts where there is one place alone, by as many steps as the page says. Conditions: the table of math/bits holds what its initialiser lays (the card ties that to the program's text). -/
namespace Go.Proofs.YthlannjipbohkaaGreatDoor
set_option maxRecDepth 100000
open Go.ChangeShapes Go.WideShapes Go.ChangeAt Go.WideMaps Go.WideElems Go.RowKit

set_option maxRecDepth 100000 in
theorem splitPlaces_lifted (os : Os) (started : os.Started) (H : Type) (enc : TypeId × Value → H) :
    ReturnsInHanded {} Tryz.checked os 3 .any (fun w args => (Rows.splitPlacesSpec.pre enc Tryz.prog Tryz.f3 [] false w args ∧ laidMetH Tryz.prog [("math/bits.deBruijn64tab", Rows.laid_math_bits_deBruijn64tab)] w) ∧ sizedMet enc Tryz.prog Tryz.f3 (OpenSpec.ofChange Rows.splitPlacesSpec) false w args)
      (Rows.splitPlacesSpec.post enc Tryz.prog Tryz.f3 false true false false) := by
  refine returnsInHanded_of_change_and (C := Tryz.checked) (X := fun w _ => laidMetH Tryz.prog [("math/bits.deBruijn64tab", Rows.laid_math_bits_deBruijn64tab)] w) (fun _ _ _ hh h => h.of_heap hh) own started (by kernel_rfl) Tryz.func3
    (ChangeSpec.witness_shaped (enc := enc) (C := Tryz.checked) (os := os) (X := fun w _ => laidMetH Tryz.prog [("math/bits.deBruijn64tab", Rows.laid_math_bits_deBruijn64tab)] w) false (World.doorLaid Tryz.prog 400 os)
      #[.agg #[.int .i64 0, .int .u8 0, .int .u8 0, .string ⟨#[]⟩, .slice none 0 0], .agg #[.int .i64 0, .int .u8 0, .int .u8 0, .string ⟨#[]⟩, .slice none 0 0], .slice none 0 0, .int .i64 0] 8 rfl (World.shaped_of_RefB (by kernel_rfl) (by kernel_rfl)) (by kernel_rfl) (by kernel_rfl) (by kernel_rfl) (door_met os _)) ?_
  intro W base args ds gs before hval0 hW _ _ hL _
  have hval : ∀ (j : Nat) t v, Tryz.f3.params[j]? = some t → args[j]? = some v → Value.okWide Tryz.prog W .any base t v := hval0
  have hW' := hW
  obtain ⟨p, q, hA0, hV, rfl, hfz, hnd⟩ := hW
  have hA : DataW.TrodAll enc Tryz.prog W 0 (fun _ => true) true Tryz.f3.params.toList args.toList ds p := hA0
  rw [Tryz.params3] at hA hval
  obtain ⟨v0, v1, v2, v3, d0, d1, d2, d3, p0, p1, p2, p3, rfl, rfl, rfl, h0, h1, h2, h3⟩ := trodAll_four hA
  obtain ⟨rfl, rfl⟩ := trodVars_none hV
  have k0 := h0
  have lt0 : ∀ x ∈ p0, x.block < W.heap.size := by obtain ⟨m, hm⟩ := k0; exact DataW.trod_lt m _ _ _ hm
  obtain ⟨z0, hz0⟩ := open_shape (hval 0 24 v0 rfl rfl) h0
  have k1 := h1
  have lt1 : ∀ x ∈ p1, x.block < W.heap.size := by obtain ⟨m, hm⟩ := k1; exact DataW.trod_lt m _ _ _ hm
  obtain ⟨z1, hz1⟩ := open_shape (hval 1 24 v1 rfl rfl) h1
  have k2 := h2
  have lt2 : ∀ x ∈ p2, x.block < W.heap.size := by obtain ⟨m, hm⟩ := k2; exact DataW.trod_lt m _ _ _ hm
  obtain ⟨z2, hz2⟩ := open_introw (hval 2 25 v2 rfl rfl) h2
  have k3 := h3
  obtain ⟨i3, rfl, rfl, rfl, w3⟩ := open_int Tryz.underlying3 (hval 3 3 v3 rfl rfl) h3
  have b3 := bounds_i64 w3
  have hT := tab_of_laid hL
  clear hA0 hval0
  refine (splitPlaces_all v0 v1 v2 z0 z1 z2 i3 W hz0 hz1 hz2 hT).mono fun e W' ⟨he, hb⟩ => ?_
  subst he
  exact ⟨_, rfl, _, _, _, [], _, [], hW', trodAll_mk1 (shut_bool Tryz.underlying4 _), trodAll_mk4 (Below.trod laidOut (by kernel_rfl) (of_decide_eq_true (by kernel_rfl)) k0 hb lt0) (Below.trod laidOut (by kernel_rfl) (of_decide_eq_true (by kernel_rfl)) k1 hb lt1) (Below.trod laidOut (by kernel_rfl) (of_decide_eq_true (by kernel_rfl)) k2 hb lt2) (shut_int Tryz.underlying3 w3), rfl, hb.frame _, fun h => by cases h⟩

theorem splitPlaces_said : Rows.SplitPlacesSaid :=
  OpenClaim.holds_of_wide 3 Tryz.f3 rfl rfl rfl rfl rfl rfl rfl ⟨rfl, rfl, rfl, rfl, rfl⟩ rfl rfl rfl rfl rfl (by kernel_rfl) Tryz.func3 (by kernel_rfl)
    (of_decide_eq_true (by kernel_rfl)) (by unfold Func.isWrapper; first | (rw [if_pos (by decide +kernel)]; kernel_rfl) | (rw [if_neg (by decide +kernel)]; exact ⟨rfl, rfl⟩))
    (fun os started H enc _ => splitPlaces_lifted os started H enc)

theorem splitPlaces_card : Rows.SplitPlacesCardSaid :=
  Claim7.holds_tied_plain_at .later [] [.data] true Rows.splitPlacesCard.stood.harness false
    splitPlaces_said (fun _ h => by cases h) (by kernel_rfl) (fun _ h => by cases h) splitPlaces_row_tie rfl ⟨rfl, rfl⟩ (by kernel_rfl) rfl
    (fun f fn hf hfn => by
      obtain rfl : f = 3 := Option.some.inj ((show Tryz.prog.funcNamed "periscope/periscopelaw09.SplitPlaces" = some 3 by kernel_rfl).symm.trans hf) |>.symm
      obtain rfl : fn = Tryz.f3 := (Option.some.inj (Tryz.func3.symm.trans hfn)).symm
      exact ⟨by kernel_rfl, fun j t ht => by
        rw [Tryz.params3] at ht
        have hm : t ∈ [24, 24, 25, 3] := by simpa using Array.mem_of_getElem? ht
        have hall : ([24, 24, 25, 3].all fun u => !Tryz.prog.wantsStandIn u) = true := by kernel_rfl
        exact (show Tryz.prog.wantsStandIn t = false by simpa using List.all_eq_true.1 hall t hm)⟩)
    (by kernel_rfl)
#print axioms splitPlaces_card
end Go.Proofs.YthlannjipbohkaaGreatDoor
