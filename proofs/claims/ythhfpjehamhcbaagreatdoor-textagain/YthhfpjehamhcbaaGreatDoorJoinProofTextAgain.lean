/- TextAgain answers true for every shape: what it makes, written as text, is read as that expression, and written again is the same text. Conditions: the table of math/bits holds what its initialiser lays (the card ties that to the program's text). -/
/- Texts of this claim put together: LawTextAgain, ProofTextAgain. -/
import Derived.Test.YthhfpjehamhcbaaGreatDoorJoinMathSame
import Derived.Test.YthhfpjehamhcbaaGreatDoorJoinOpenS
import Derived.Test.YthhfpjehamhcbaaGreatDoorJoinTrG
import Derived.Test.YthhfpjehamhcbaaGreatDoorCards
import Derived.Test.YthhfpjehamhcbaaGreatDoorTie
/- TextAgain: what a shape makes, written and read. -/
namespace Go.Proofs.YthhfpjehamhcbaaGreatDoor
set_option maxRecDepth 100000
set_option linter.unusedSimpArgs false
set_option linter.unusedVariables false
open Go.RowKit Go.Shelf

theorem TabAt.past {w w' : World} (hT : TabAt w) (hb : Below w.heap.size w w') : TabAt w' := hT.agree (Agree.of_all (K := fun _ => True) hb) trivial
theorem same_selfT (r : RE) (p q : Nat) (w : World) (hr : Wf r) (hp : ReAt w p r) (hq : ReAt w q r) (hT : TabAt w) :
    Calls Tryz.prog 16 #[PT p, PT q] w fun e w' => e = .returned (.bool true) ∧ Below w.heap.size w w' := by
  refine (same_re r r p q w hr.k hr.k hp hq hT).mono ?_
  rintro e w' ⟨rfl, hm⟩
  exact ⟨by rw [lexN_self]; rfl, hm.below⟩
/-- A shape in its box. -/
def shC1 (s : SHP) (a : Option Addr) (c : Nat) : Array Value := #[.int .i64 s.op, .int .u8 s.lo, .int .u8 s.hi, .string s.text, .slice a s.kids.length c]
structure OneS (w : World) (B : Nat) (s : SHP) (a : Option Addr) (c : Nat) (W : World) : Prop where
  below : Below B w W
  x : Blk W B (shC1 s a c) 24
theorem OneS.step {w : World} {B : Nat} {s : SHP} {a : Option Addr} {c : Nat} {W W' : World} (h : OneS w B s a c W) (hb : Below W.heap.size W W') : OneS w B s a c W' :=
  ⟨h.below.trans (hb.mono (by have := h.x.lt; omega)), h.x.below hb h.x.lt⟩

set_option maxHeartbeats 2000000 in
theorem textAgain_any (cs : List Value) (s : SHP) (w : World) (hs : ShC w cs s) (hT : TabAt w) :
    Calls Tryz.prog 3 #[ShVal cs] w fun e w' => e = .returned (.bool true) ∧ Below w.heap.size w w' := by
  have HC := hide hs
  have HT := hide hT
  obtain ⟨kv, rfl, hrow, -⟩ := hs.open
  obtain ⟨-, a, cap, rfl, -⟩ := hrow.at
  clear hs hT hrow
  obtain ⟨B, hB⟩ : ∃ B, B = w.heap.size := ⟨_, rfl⟩
  unfold ShVal
  go_enter Tryz.func3, Tryz.ntmps3
  go_wp2_with fail
  have h2 : OneS w B s a cap (w.alloc (.cells (shC1 s a cap) 24)) :=
    ⟨(Below.refl _ _).alloc (Nat.le_of_eq hB) _, Blk.newAt hB _ _⟩
  unfold shC1 at h2
  refine (head4_any _ (HT.out.past (hB ▸ h2.below))).mono ?_
  rintro e w1 ⟨rfl, hb1⟩
  have H1 := hide (h2.step hb1)
  have HB := hide hB
  rw [← hB]
  clear h2 hb1 hB
  have hx := H1.out.x
  have x0 := hx.cell 0; have x1 := hx.cell 1; have x2 := hx.cell 2; have x3 := hx.cell 3; have x4 := hx.cell 4
  simp only [shC1, List.getElem?_toArray, List.getElem?_cons_zero, List.getElem?_cons_succ] at x0 x1 x2 x3 x4
  clear hx
  have HFEW := hide (few_any s _ w1 (HC.out.keep (HB.out ▸ H1.out.below)))
  unfold ShVal at HFEW
  go_wp2_with fail
  refine HFEW.out.mono ?_
  rintro e w2 ⟨few, rfl, hfw, hb2⟩
  have H2 := hide (H1.out.step hb2)
  have HFW := hide hfw
  clear hb2 hfw HFEW x0 x1 x2 x3 x4 H1
  cases few
  · go_wp2
    go_ret
    exact ⟨rfl, HB.out ▸ H2.out.below⟩
  obtain ⟨htx, hnd⟩ := HFW.out rfl
  clear HFW
  have hx := H2.out.x
  have x0 := hx.cell 0; have x1 := hx.cell 1; have x2 := hx.cell 2; have x3 := hx.cell 3; have x4 := hx.cell 4
  simp only [shC1, List.getElem?_toArray, List.getElem?_cons_zero, List.getElem?_cons_succ] at x0 x1 x2 x3 x4
  clear hx
  have HMK := hide (make_any s _ w2 (HC.out.keep (HB.out ▸ H2.out.below)) htx hnd (HT.out.past (HB.out ▸ H2.out.below)))
  unfold ShVal at HMK
  go_wp2_with fail
  refine HMK.out.mono ?_
  rintro e w3 ⟨rb, rfl, hr, hb2⟩
  have H3 := hide (H2.out.step hb2)
  have HR := hide hr
  have HTX := hide htx
  have HND := hide hnd
  clear hb2 hr HMK x0 x1 x2 x3 x4 H2 htx hnd
  obtain ⟨r, hr⟩ : ∃ r, r = s.re := ⟨_, rfl⟩
  have HRE := hide hr
  rw [← hr] at HR
  clear hr
  obtain ⟨z, hz⟩ : ∃ z, z = r.size := ⟨_, rfl⟩
  have hsz := size_any rb r w3 HR.out
  rw [← hz] at hsz
  have HSZ := hide hsz
  have HZ := hide hz
  clear hsz hz
  unfold PT at HSZ ⊢
  go_wp2_with fail
  refine HSZ.out.mono ?_
  rintro e w4 ⟨rfl, rfl⟩
  clear HSZ
  by_cases hbig : 300 < z
  · go_wp2
    go_ret
    exact ⟨rfl, HB.out ▸ H3.out.below⟩
  have hcnt : r.cnt ≤ 300 := by have := size_min r; have := HZ.out; omega
  have hag := s.again HTX.out HND.out (by rw [← HRE.out]; exact hcnt)
  have hwf : Wf r := by rw [HRE.out]; exact s.wf
  rw [← HRE.out] at hag
  obtain ⟨hlen, hrd⟩ := hag
  have HL := hide hlen
  have HRD := hide hrd
  have HWF := hide hwf
  have HTB := hide (HT.out.past (HB.out ▸ H3.out.below))
  have ho := textOf_any r rb w4 hwf HR.out (by omega) HTB.out
  have HO := hide ho
  clear ho hwf hrd hlen hcnt HZ HT HTX HND HRE HC
  unfold PT at HO
  go_wp2_with fail
  refine HO.out.mono ?_
  rintro e w5 ⟨rfl, hb5⟩
  have HB5 := hide hb5
  clear hb5 HO
  have hro := read_ok (strB r.txt) r.txt r _ (bytesN_strB (txt_lt r)) (by rw [strB_size]; exact HL.out) HRD.out w5 (HTB.out.past HB5.out)
  have HRO := hide hro
  clear hro
  go_wp2_with fail
  refine HRO.out.mono ?_
  rintro e w6 ⟨xb, rfl, hx, hb6⟩
  have HX := hide hx
  have HB6 := hide (HB5.out.trans (hb6.mono HB5.out.size))
  clear hx hb6 HRO HB5
  have hsm := same_selfT r xb rb w6 HWF.out HX.out (HR.out.keep HB6.out) (HTB.out.past HB6.out)
  have HSM := hide hsm
  clear hsm
  unfold PT at HSM ⊢
  go_wp2_with fail
  refine HSM.out.mono ?_
  rintro e w7 ⟨rfl, hb7⟩
  have HX7 := hide (HX.out.keep hb7)
  have HB7 := hide (HB6.out.trans (hb7.mono HB6.out.size))
  clear hb7 HSM HB6 HX
  have ho := textOf_any r xb w7 HWF.out HX7.out (by have := HL.out; omega) (HTB.out.past HB7.out)
  have HO := hide ho
  clear ho
  unfold PT at HO
  go_wp2_with fail
  refine HO.out.mono ?_
  rintro e w8 ⟨rfl, hb8⟩
  have HB8 := hide (HB7.out.trans (hb8.mono HB7.out.size))
  clear hb8 HO HB7
  go_wp2
  go_ret
  exact ⟨rfl, HB.out ▸ (H3.out.step HB8.out).below⟩
theorem textAgain_all (v : Value) (s : SHP) (w : World) (hv : ∃ cs, v = ShVal cs ∧ ShC w cs s) (hT : TabAt w) :
    Calls Tryz.prog 3 #[v] w fun e w' => e = .returned (.bool true) ∧ Below w.heap.size w w' := by
  obtain ⟨cs, rfl, hs⟩ := hv
  exact textAgain_any cs s w hs hT
end Go.Proofs.YthhfpjehamhcbaaGreatDoor
/- TextAgain answers true for every shape: what it makes, written as text, is read as that expression, and written again is the same text. Conditions: the table of math/bits holds what its initialiser lays (the card ties that to the program's text). -/
namespace Go.Proofs.YthhfpjehamhcbaaGreatDoor
set_option maxRecDepth 100000
open Go.ChangeShapes Go.WideShapes Go.ChangeAt Go.WideMaps Go.WideElems Go.RowKit

set_option maxRecDepth 100000 in
theorem textAgain_lifted (os : Os) (started : os.Started) (H : Type) (enc : TypeId × Value → H) :
    ReturnsInHanded {} Tryz.checked os 3 .any (fun w args => (Rows.textAgainSpec.pre enc Tryz.prog Tryz.f3 [] false w args ∧ laidMetH Tryz.prog [("math/bits.deBruijn64tab", Rows.laid_math_bits_deBruijn64tab)] w) ∧ sizedMet enc Tryz.prog Tryz.f3 (OpenSpec.ofChange Rows.textAgainSpec) false w args)
      (Rows.textAgainSpec.post enc Tryz.prog Tryz.f3 false true false false) := by
  refine returnsInHanded_of_change_and (C := Tryz.checked) (X := fun w _ => laidMetH Tryz.prog [("math/bits.deBruijn64tab", Rows.laid_math_bits_deBruijn64tab)] w) (fun _ _ _ hh h => h.of_heap hh) own started (by kernel_rfl) Tryz.func3
    (ChangeSpec.witness_shaped (enc := enc) (C := Tryz.checked) (os := os) (X := fun w _ => laidMetH Tryz.prog [("math/bits.deBruijn64tab", Rows.laid_math_bits_deBruijn64tab)] w) false (World.doorLaid Tryz.prog 400 os)
      #[.agg #[.int .i64 0, .int .u8 0, .int .u8 0, .string ⟨#[]⟩, .slice none 0 0]] 8 rfl (World.shaped_of_RefB (by kernel_rfl) (by kernel_rfl)) (by kernel_rfl) (by kernel_rfl) (by kernel_rfl) (door_met os _)) ?_
  intro W base args ds gs before hval0 hW _ _ hL _
  have hval : ∀ (j : Nat) t v, Tryz.f3.params[j]? = some t → args[j]? = some v → Value.okWide Tryz.prog W .any base t v := hval0
  have hW' := hW
  obtain ⟨p, q, hA0, hV, rfl, hfz, hnd⟩ := hW
  have hA : DataW.TrodAll enc Tryz.prog W 0 (fun _ => true) true Tryz.f3.params.toList args.toList ds p := hA0
  rw [Tryz.params3] at hA hval
  obtain ⟨v0, d0, rfl, rfl, h0⟩ := trodAll_one hA
  obtain ⟨rfl, rfl⟩ := trodVars_none hV
  have k0 := h0
  have lt0 : ∀ x ∈ p, x.block < W.heap.size := by obtain ⟨m, hm⟩ := k0; exact DataW.trod_lt m _ _ _ hm
  obtain ⟨z0, hz0⟩ := open_shape (hval 0 24 v0 rfl rfl) h0
  have hT := tab_of_laid hL
  clear hA0 hval0
  refine (textAgain_all v0 z0 W hz0 hT).mono fun e W' ⟨he, hb⟩ => ?_
  subst he
  exact ⟨_, rfl, _, _, _, [], _, [], hW', trodAll_mk1 (shut_bool Tryz.underlying4 _), trodAll_mk1 (Below.trod laidOut (by kernel_rfl) (of_decide_eq_true (by kernel_rfl)) k0 hb lt0), rfl, hb.frame _, fun h => by cases h⟩

theorem textAgain_said : Rows.TextAgainSaid :=
  OpenClaim.holds_of_wide 3 Tryz.f3 rfl rfl rfl rfl rfl rfl rfl ⟨rfl, rfl, rfl, rfl, rfl⟩ rfl rfl rfl rfl rfl (by kernel_rfl) Tryz.func3 (by kernel_rfl)
    (of_decide_eq_true (by kernel_rfl)) (by unfold Func.isWrapper; first | (rw [if_pos (by decide +kernel)]; kernel_rfl) | (rw [if_neg (by decide +kernel)]; exact ⟨rfl, rfl⟩))
    (fun os started H enc _ => textAgain_lifted os started H enc)

theorem textAgain_card : Rows.TextAgainCardSaid :=
  Claim7.holds_tied_plain_at .later [] [.data] true Rows.textAgainCard.stood.harness false
    textAgain_said (fun _ h => by cases h) (by kernel_rfl) (fun _ h => by cases h) textAgain_row_tie rfl ⟨rfl, rfl⟩ (by kernel_rfl) rfl
    (fun f fn hf hfn => by
      obtain rfl : f = 3 := Option.some.inj ((show Tryz.prog.funcNamed "periscope/periscopelaw04.TextAgain" = some 3 by kernel_rfl).symm.trans hf) |>.symm
      obtain rfl : fn = Tryz.f3 := (Option.some.inj (Tryz.func3.symm.trans hfn)).symm
      exact ⟨by kernel_rfl, fun j t ht => by
        rw [Tryz.params3] at ht
        have hm : t ∈ [24] := by simpa using Array.mem_of_getElem? ht
        have hall : ([24].all fun u => !Tryz.prog.wantsStandIn u) = true := by kernel_rfl
        exact (show Tryz.prog.wantsStandIn t = false by simpa using List.all_eq_true.1 hall t hm)⟩)
    (by kernel_rfl)
#print axioms textAgain_card
end Go.Proofs.YthhfpjehamhcbaaGreatDoor
