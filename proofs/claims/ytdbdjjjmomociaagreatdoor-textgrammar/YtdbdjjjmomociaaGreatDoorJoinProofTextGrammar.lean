/- TextGrammar answers true for every piece: the text that Write makes of it by the grammar, with gaps, is read as the expression that it is meant to be (or it is told that there are too many parts). Conditions: the table of math/bits holds what its initialiser lays (the card ties that to the program's text). -/
/- Texts of this claim put together: LawTextGrammar, ProofTextGrammar. -/
import Derived.Test.YtdbdjjjmomociaaGreatDoorJoinPcW1
import Derived.Test.YtdbdjjjmomociaaGreatDoorJoinPcW4
import Derived.Test.YtdbdjjjmomociaaGreatDoorJoinOpen
import Derived.Test.YtdbdjjjmomociaaGreatDoorCards
import Derived.Test.YtdbdjjjmomociaaGreatDoorTie
/- TextGrammar: whatever is written by the grammar is read as it is meant. -/
namespace Go.Proofs.YtdbdjjjmomociaaGreatDoor
set_option maxRecDepth 100000
set_option linter.unusedSimpArgs false
set_option linter.unusedVariables false
open Go.RowKit Go.Shelf

theorem pwrite_step (s : PC) (h0 : s.k < 7 → WrOk (s.kid 0)) (h1 : s.k < 4 → WrOk (s.kid 1)) (z0 : Small (s.kid 0)) (z1 : Small (s.kid 1)) : WrOk s := by
  have hk := s.k_lt
  obtain h | h | h | h | h | h | h | h | h | h | h | h : s.k = 0 ∨ s.k = 1 ∨ s.k = 2 ∨ s.k = 3 ∨ s.k = 4 ∨ s.k = 5 ∨ s.k = 6 ∨ s.k = 7 ∨ s.k = 8 ∨ s.k = 9 ∨ s.k = 10 ∨ s.k = 11 := by omega
  · exact pwrite_0 s h (h0 (by omega)) z0 (h1 (by omega)) z1
  · exact pwrite_1 s h (h0 (by omega)) z0 (h1 (by omega)) z1
  · exact pwrite_2 s h (h0 (by omega)) z0 (h1 (by omega)) z1
  · exact pwrite_3 s h (h0 (by omega)) z0 (h1 (by omega)) z1
  · exact pwrite_4 s h (h0 (by omega)) z0
  · exact pwrite_5 s h (h0 (by omega)) z0
  · exact pwrite_6 s h (h0 (by omega)) z0
  · exact pwrite_7 s h
  · exact pwrite_8 s h
  · exact pwrite_9 s h
  · exact pwrite_10 s h
  · exact pwrite_11 s h
theorem PC.kid_nodes (p : PC) (i : Nat) : (p.kid i).nodes ≤ p.nodes := by
  cases p with
  | mk o g a b ks =>
    unfold PC.kid PC.kids
    rw [List.getD_eq_getElem?_getD, PC.nodes_mk]
    have d : (PC.mk 7 0 97 0 []).nodes = 1 := by rw [PC.nodes_mk]; rfl
    cases h : ks[i]? with
    | none => simp only [Option.getD_none]; rw [d]; omega
    | some z =>
      have key : ∀ l : List PC, z ∈ l → z.nodes ≤ (l.map PC.nodes).sum := fun l => by
        induction l with
        | nil => intro h; cases h
        | cons x l ih =>
          intro h
          rw [List.map_cons, List.sum_cons]
          rcases List.mem_cons.1 h with rfl | h
          · omega
          · have := ih h; omega
      have := key ks (List.mem_of_getElem? h)
      simp only [Option.getD_some]; omega
theorem pwrite_any (s : PC) : s.nodes ≤ 25 → WrOk s := by
  refine PC.ind (P := fun s => s.nodes ≤ 25 → WrOk s) ?_ s
  intro o g a b ks ih hn
  have hz : ∀ i, Small ((PC.mk o g a b ks).kid i) := fun i => PC.small _ (Nat.le_trans (PC.kid_nodes _ i) hn)
  have hk : ∀ i, WrOk ((PC.mk o g a b ks).kid i) := fun i => by
    have hn' := Nat.le_trans (PC.kid_nodes (PC.mk o g a b ks) i) hn
    revert hn'
    unfold PC.kid PC.kids
    rw [List.getD_eq_getElem?_getD]
    cases h : ks[i]? with
    | none => exact fun _ => pwrite_7 _ rfl
    | some z => exact ih z (List.mem_of_getElem? h)
  exact pwrite_step _ (fun _ => hk 0) (fun _ => hk 1) (hz 0) (hz 1)
theorem PC.txt_lt (p : PC) : ∀ x ∈ p.wr.t, x < 256 := by
  refine PC.ind (P := fun p => ∀ x ∈ p.wr.t, x < 256) ?_ p
  intro o g a b ks ih
  have hd : ∀ i, ∀ x ∈ ((ks.map PC.wr).getD i w4D).t, x < 256 := fun i => by
    rw [List.getD_eq_getElem?_getD, List.getElem?_map]
    cases h : ks[i]? with
    | none => decide
    | some z => exact ih z (List.mem_of_getElem? h)
  have h0 := hd 0
  have h1 := hd 1
  have hg : ∀ x ∈ gapT (PC.mk o g a b ks).g, x < 256 := by
    unfold gapT
    split
    · decide
    split
    · decide
    · simp
  have hlo : (PC.mk o g a b ks).lo < 256 := by unfold PC.lo; omega
  have hhi : (PC.mk o g a b ks).hi < 256 := by unfold PC.hi; omega
  rw [PC.wr_mk]
  generalize (ks.map PC.wr).getD 0 w4D = u at *
  generalize (ks.map PC.wr).getD 1 w4D = v at *
  generalize (PC.mk o g a b ks).lo = lo at *
  generalize (PC.mk o g a b ks).hi = hi at *
  generalize (PC.mk o g a b ks).k = k at *
  unfold pcW
  generalize gapT (PC.mk o g a b ks).g = gt at *
  have app : ∀ {p q : List Nat}, (∀ x ∈ p, x < 256) → (∀ x ∈ q, x < 256) → ∀ x ∈ p ++ q, x < 256 := fun hp hq x hx => (List.mem_append.1 hx).elim (hp x) (hq x)
  have con : ∀ {n : Nat} {q : List Nat}, n < 256 → (∀ x ∈ q, x < 256) → ∀ x ∈ n :: q, x < 256 := fun hn hq x hx => (List.mem_cons.1 hx).elim (fun e => e ▸ hn) (hq x)
  have nl : ∀ x ∈ ([] : List Nat), x < 256 := fun x hx => by cases hx
  by_cases c0 : k = 0
  · rw [if_pos c0]; exact app hg (con (by decide) (app (app h0 (app hg (con (by decide) h1))) (con (by decide) nl)))
  rw [if_neg c0]
  by_cases c1 : k = 1
  · rw [if_pos c1]; exact app hg (con (by decide) (app (app h0 (con (by decide) (app h1 hg))) (con (by decide) nl)))
  rw [if_neg c1]
  by_cases c2 : k = 2
  · rw [if_pos c2]; exact app hg (con (by decide) (app (app h0 (app hg (con (by decide) h1))) (con (by decide) nl)))
  rw [if_neg c2]
  by_cases c3 : k = 3
  · rw [if_pos c3]; exact app hg (con (by decide) (app (app h0 (app h1 hg)) (con (by decide) nl)))
  rw [if_neg c3]
  by_cases c4 : k = 4
  · rw [if_pos c4]; exact app nl (con (by decide) (app h0 (con (by decide) (app hg (con (by decide) nl)))))
  rw [if_neg c4]
  by_cases c5 : k = 5
  · rw [if_pos c5]; exact app nl (con (by decide) (app h0 (con (by decide) (app hg (con (by decide) nl)))))
  rw [if_neg c5]
  by_cases c6 : k = 6
  · rw [if_pos c6]; exact app hg (con (by decide) (app h0 (con (by decide) (app nl (con (by decide) nl)))))
  rw [if_neg c6]
  by_cases c7 : k = 7
  · rw [if_pos c7]; exact app hg (con hlo nl)
  rw [if_neg c7]
  by_cases c8 : k = 8
  · rw [if_pos c8]; exact app hg (con (by decide) (con hlo (con (by decide) (con hhi (con (by decide) nl)))))
  rw [if_neg c8]
  by_cases c9 : k = 9
  · rw [if_pos c9]; exact app hg (con (by decide) (app hg (con (by decide) nl)))
  rw [if_neg c9]
  by_cases c10 : k = 10
  · rw [if_pos c10]; exact app hg (con (by decide) (con (by decide) nl))
  rw [if_neg c10]
  exact app hg (con (by decide) nl)
/-- What Read answers at a piece's text. -/
theorem read_piece (p : PC) (h : p.nodes ≤ 25) (w : World) (hT : TabAt w) :
    Calls Tryz.prog 10 #[.string (strB p.wr.t)] w fun e w' => (∃ b, e = .returned (.tuple #[PT b, .int .i64 (0 : Nat), .int .i64 (0 : Nat)]) ∧ ReAt w' b p.wr.x ∧ Below w.heap.size w w') ∨ (∃ wh : Nat, e = .returned (.tuple #[.pointer none, .int .i64 (3 : Nat), .int .i64 wh]) ∧ Below w.heap.size w w') := by
  obtain ⟨hl, hr⟩ := p.read h
  have hlt : ∀ x ∈ p.wr.t, x < 256 := p.txt_lt
  have hsz : (strB p.wr.t).size ≤ 65536 := by rw [strB_size]; exact hl
  rcases hr with ⟨st, h1, h2⟩ | h1
  · by_cases hs : 1000 < p.wr.x.size
    · rw [if_pos hs] at h2
      refine (read_bad _ _ 3 (bytesN_strB hlt) hsz h2 (by decide) w hT).mono ?_
      rintro e w' ⟨wh, rfl, hb⟩
      exact .inr ⟨wh, rfl, hb⟩
    · rw [if_neg hs] at h2
      refine (read_ok _ _ _ _ (bytesN_strB hlt) hsz ⟨h1, h2⟩ w hT).mono ?_
      rintro e w' ⟨b, rfl, h3, hb⟩
      exact .inl ⟨b, rfl, h3, hb⟩
  · refine (read_bad _ _ 3 (bytesN_strB hlt) hsz h1 (by decide) w hT).mono ?_
    rintro e w' ⟨wh, rfl, hb⟩
    exact .inr ⟨wh, rfl, hb⟩
theorem same_selfG (r : RE) (p q : Nat) (w : World) (hr : Wf r) (hp : ReAt w p r) (hq : ReAt w q r) (hT : TabAt w) :
    Calls Tryz.prog 14 #[PT p, PT q] w fun e w' => e = .returned (.bool true) ∧ Below w.heap.size w w' := by
  refine (same_re r r p q w hr.k hr.k hp hq hT).mono ?_
  rintro e w' ⟨rfl, hm⟩
  exact ⟨by rw [lexN_self]; rfl, hm.below⟩
set_option maxHeartbeats 4000000 in
theorem textGrammar_any (cs : List Value) (s : PC) (w : World) (hs : PcC w cs s) (hT : TabAt w) :
    Calls Tryz.prog 4 #[PcVal cs] w fun e w' => e = .returned (.bool true) ∧ Below w.heap.size w w' := by
  have HC := hide hs
  have HT := hide hT
  obtain ⟨kv, hcs, hrow, -⟩ := hs.open
  obtain ⟨-, a, cap, rfl, -⟩ := hrow.at
  have hv0 : PcVal cs = .agg #[.int .i64 s.op, .int .i64 s.gap, .int .u8 s.a, .int .u8 s.b, .slice a s.kids.length cap] := by rw [hcs]; rfl
  have HV0 := hide hv0
  rw [hv0]
  clear hs hT hrow hcs hv0
  obtain ⟨B, hB⟩ : ∃ B, B = w.heap.size := ⟨_, rfl⟩
  go_enter Tryz.func4, Tryz.ntmps4
  go_wp2_with fail
  have h2 : OneP w B s a cap (w.alloc (.cells (pcC s a cap) 35)) := ⟨(Below.refl _ _).alloc (Nat.le_of_eq hB) _, Blk.newAt hB _ _⟩
  unfold pcC at h2
  refine (head4_any _ (HT.out.pastE (hB ▸ h2.below))).mono ?_
  rintro e w1 ⟨rfl, hb1⟩
  have H1 := hide (h2.step hb1)
  have HB := hide hB
  rw [← hB]
  clear h2 hb1 hB
  obtain ⟨x0, x1, x2, x3, x4⟩ := H1.out.cells
  have hct := pcount_any s cs 0 w1 (HC.out.keep (HB.out ▸ H1.out.below)) (by decide)
  rw [HV0.out] at hct
  have HCT := hide hct
  clear hct
  go_wp2_with fail
  refine HCT.out.mono ?_
  rintro e w2 ⟨n, rfl, ⟨hn1, hn2⟩, hn3, hb2⟩
  have H2 := hide (H1.out.step hb2)
  have HN := hide hn3
  clear hb2 hn3 HCT x0 x1 x2 x3 x4 H1
  by_cases hbig : 25 < n
  · have hbd : decide ((25 : Int) < n) = true := decide_eq_true (by omega)
    go_wp2
    go_ret
    exact ⟨rfl, HB.out ▸ H2.out.below⟩
  have hbd : decide ((25 : Int) < n) = false := decide_eq_false (by omega)
  have hnd : s.nodes ≤ 25 := by have := HN.out (by omega); omega
  have HND := hide hnd
  obtain ⟨x0, x1, x2, x3, x4⟩ := H2.out.cells
  have hwr := pwrite_any s hnd cs w2 (HC.out.keep (HB.out ▸ H2.out.below)) (HT.out.pastE (HB.out ▸ H2.out.below))
  rw [HV0.out] at hwr
  have HWR := hide hwr
  clear hwr hnd
  go_wp2_with fail
  refine HWR.out.mono ?_
  rintro e w3 ⟨wb, rfl, hwant, hb3⟩
  have H3 := hide (H2.out.step hb3)
  have HWN := hide hwant
  clear hb3 hwant HWR x0 x1 x2 x3 x4 H2
  have HRP := hide (read_piece s HND.out w3 (HT.out.pastE (HB.out ▸ H3.out.below)))
  unfold PT
  go_wp2_with fail
  refine HRP.out.mono ?_
  have HWF := hide (s.good 0).wf
  obtain ⟨z, hz⟩ : ∃ z, z = s.wr.x.size := ⟨_, rfl⟩
  have HZ := hide hz
  clear hz
  rintro e w4 (⟨rb, rfl, hr, hb4⟩ | ⟨wh, rfl, hb4⟩)
  · have H4 := hide (H3.out.step hb4)
    have HR := hide hr
    have HWN4 := hide (HWN.out.keep hb4)
    clear hb4 hr HRP H3 HWN
    have hsz := size_any wb s.wr.x w4 HWN4.out
    rw [← HZ.out] at hsz
    have HSZ := hide hsz
    clear hsz
    unfold PT at HSZ ⊢
    go_wp2_with fail
    refine HSZ.out.mono ?_
    rintro e w5 ⟨rfl, rfl⟩
    clear HSZ
    by_cases h5 : 500 < z
    · have hd5 : decide ((500 : Int) < z) = true := decide_eq_true (by omega)
      go_wp2
      go_ret
      exact ⟨rfl, HB.out ▸ H4.out.below⟩
    · have hd5 : decide ((500 : Int) < z) = false := decide_eq_false (by omega)
      have HSM := hide (same_selfG s.wr.x rb wb w5 HWF.out HR.out HWN4.out (HT.out.pastE (HB.out ▸ H4.out.below)))
      unfold PT at HSM
      go_wp2_with fail
      refine HSM.out.mono ?_
      rintro e w6 ⟨rfl, hb6⟩
      have H6 := hide (H4.out.step hb6)
      clear hb6 HSM
      go_wp2
      go_ret
      exact ⟨rfl, HB.out ▸ H6.out.below⟩
  · have H4 := hide (H3.out.step hb4)
    have HWN4 := hide (HWN.out.keep hb4)
    clear hb4 HRP H3 HWN
    have hsz := size_any wb s.wr.x w4 HWN4.out
    rw [← HZ.out] at hsz
    have HSZ := hide hsz
    clear hsz
    unfold PT at HSZ
    go_wp2_with fail
    refine HSZ.out.mono ?_
    rintro e w5 ⟨rfl, rfl⟩
    clear HSZ
    by_cases h5 : 500 < z
    · have hd5 : decide ((500 : Int) < z) = true := decide_eq_true (by omega)
      go_wp2
      go_ret
      exact ⟨rfl, HB.out ▸ H4.out.below⟩
    · have hd5 : decide ((500 : Int) < z) = false := decide_eq_false (by omega)
      go_wp2
      go_ret
      exact ⟨rfl, HB.out ▸ H4.out.below⟩
theorem textGrammar_all (v : Value) (s : PC) (w : World) (hv : ∃ cs : List Value, v = .agg cs.toArray ∧ PcC w cs s) (hT : TabAt w) :
    Calls Tryz.prog 4 #[v] w fun e w' => e = .returned (.bool true) ∧ Below w.heap.size w w' := by
  obtain ⟨cs, rfl, hs⟩ := hv
  exact textGrammar_any cs s w hs hT
end Go.Proofs.YtdbdjjjmomociaaGreatDoor
/- TextGrammar answers true for every piece: the text that Write makes of it by the grammar, with gaps, is read as the expression that it is meant to be (or it is told that there are too many parts). Conditions: the table of math/bits holds what its initialiser lays (the card ties that to the program's text). -/
namespace Go.Proofs.YtdbdjjjmomociaaGreatDoor
set_option maxRecDepth 100000
open Go.ChangeShapes Go.WideShapes Go.ChangeAt Go.WideMaps Go.WideElems Go.RowKit

set_option maxRecDepth 100000 in
theorem textGrammar_lifted (os : Os) (started : os.Started) (H : Type) (enc : TypeId × Value → H) :
    ReturnsInHanded {} Tryz.checked os 4 .any (fun w args => (Rows.textGrammarSpec.pre enc Tryz.prog Tryz.f4 [] false w args ∧ laidMetH Tryz.prog [("math/bits.deBruijn64tab", Rows.laid_math_bits_deBruijn64tab)] w) ∧ sizedMet enc Tryz.prog Tryz.f4 (OpenSpec.ofChange Rows.textGrammarSpec) false w args)
      (Rows.textGrammarSpec.post enc Tryz.prog Tryz.f4 false true false false) := by
  refine returnsInHanded_of_change_and (C := Tryz.checked) (X := fun w _ => laidMetH Tryz.prog [("math/bits.deBruijn64tab", Rows.laid_math_bits_deBruijn64tab)] w) (fun _ _ _ hh h => h.of_heap hh) own started (by kernel_rfl) Tryz.func4
    (ChangeSpec.witness_shaped (enc := enc) (C := Tryz.checked) (os := os) (X := fun w _ => laidMetH Tryz.prog [("math/bits.deBruijn64tab", Rows.laid_math_bits_deBruijn64tab)] w) false (World.doorLaid Tryz.prog 400 os)
      #[.agg #[.int .i64 0, .int .i64 0, .int .u8 0, .int .u8 0, .slice none 0 0]] 8 rfl (World.shaped_of_RefB (by kernel_rfl) (by kernel_rfl)) (by kernel_rfl) (by kernel_rfl) (by kernel_rfl) (door_met os _)) ?_
  intro W base args ds gs before hval0 hW _ _ hL _
  have hval : ∀ (j : Nat) t v, Tryz.f4.params[j]? = some t → args[j]? = some v → Value.okWide Tryz.prog W .any base t v := hval0
  have hW' := hW
  obtain ⟨p, q, hA0, hV, rfl, hfz, hnd⟩ := hW
  have hA : DataW.TrodAll enc Tryz.prog W 0 (fun _ => true) true Tryz.f4.params.toList args.toList ds p := hA0
  rw [Tryz.params4] at hA hval
  obtain ⟨v0, d0, rfl, rfl, h0⟩ := trodAll_one hA
  obtain ⟨rfl, rfl⟩ := trodVars_none hV
  have k0 := h0
  have lt0 : ∀ x ∈ p, x.block < W.heap.size := by obtain ⟨m, hm⟩ := k0; exact DataW.trod_lt m _ _ _ hm
  obtain ⟨z0, hz0⟩ := open_piece (hval 0 35 v0 rfl rfl) h0
  have hT := tab_of_laid hL
  clear hA0 hval0
  refine (textGrammar_all v0 z0 W hz0 hT).mono fun e W' ⟨he, hb⟩ => ?_
  subst he
  exact ⟨_, rfl, _, _, _, [], _, [], hW', trodAll_mk1 (shut_bool Tryz.underlying4 _), trodAll_mk1 (Below.trod laidOut (by kernel_rfl) (of_decide_eq_true (by kernel_rfl)) k0 hb lt0), rfl, hb.frame _, fun h => by cases h⟩

theorem textGrammar_said : Rows.TextGrammarSaid :=
  OpenClaim.holds_of_wide 4 Tryz.f4 rfl rfl rfl rfl rfl rfl rfl ⟨rfl, rfl, rfl, rfl, rfl⟩ rfl rfl rfl rfl rfl (by kernel_rfl) Tryz.func4 (by kernel_rfl)
    (of_decide_eq_true (by kernel_rfl)) (by unfold Func.isWrapper; first | (rw [if_pos (by decide +kernel)]; kernel_rfl) | (rw [if_neg (by decide +kernel)]; exact ⟨rfl, rfl⟩))
    (fun os started H enc _ => textGrammar_lifted os started H enc)

theorem textGrammar_card : Rows.TextGrammarCardSaid :=
  Claim7.holds_tied_plain_at .later [] [.data] true Rows.textGrammarCard.stood.harness false
    textGrammar_said (fun _ h => by cases h) (by kernel_rfl) (fun _ h => by cases h) textGrammar_row_tie rfl ⟨rfl, rfl⟩ (by kernel_rfl) rfl
    (fun f fn hf hfn => by
      obtain rfl : f = 4 := Option.some.inj ((show Tryz.prog.funcNamed "periscope/periscopelaw04.TextGrammar" = some 4 by kernel_rfl).symm.trans hf) |>.symm
      obtain rfl : fn = Tryz.f4 := (Option.some.inj (Tryz.func4.symm.trans hfn)).symm
      exact ⟨by kernel_rfl, fun j t ht => by
        rw [Tryz.params4] at ht
        have hm : t ∈ [35] := by simpa using Array.mem_of_getElem? ht
        have hall : ([35].all fun u => !Tryz.prog.wantsStandIn u) = true := by kernel_rfl
        exact (show Tryz.prog.wantsStandIn t = false by simpa using List.all_eq_true.1 hall t hm)⟩)
    (by kernel_rfl)
#print axioms textGrammar_card
end Go.Proofs.YtdbdjjjmomociaaGreatDoor
