/- Texts of this claim put together: DfaH. -/
import Derived.Test.YtjcfnmjjkadaeaaGreatDoorJoinDfaI
/- Build. -/
namespace Go.Proofs.YtjcfnmjjkadaeaaGreatDoor
set_option maxRecDepth 100000
set_option linter.unusedSimpArgs false
set_option linter.unusedVariables false
open Go.RowKit
open Go.Maps Go.WideMaps

theorem fsettled_any [Forb] (b : Nat) (r : RE) (w : World) (h : ReAt w b r) :
    Calls Tryz.prog 42 #[PT b] w fun e w' => e = .returned (PT b) ∧ Below w.heap.size w w' := by
  go_enter Tryz.func42, Tryz.ntmps42
  go_wp2_with fail
  refine (but_nil b r w h).mono ?_
  rintro e w1 ⟨rfl, h2⟩
  have HB := hide h2
  clear h2
  unfold PT
  go_wp2
  go_ret
  exact ⟨rfl, HB.out⟩
theorem sorted_ex (l : List (BitVec 256)) : ∃ pl : List (BitVec 256), pl.Perm l ∧ pl.Pairwise (fun x y => least x ≤ least y) := by
  refine ⟨l.mergeSort (fun x y => decide (least x ≤ least y)), List.mergeSort_perm _ _, ?_⟩
  have := List.pairwise_mergeSort (le := fun x y : BitVec 256 => decide (least x ≤ least y)) (fun a b c h1 h2 => by simp at *; omega) (fun a b => by simp; omega) l
  exact this.imp fun h => by simpa using h

/-- The world in which nothing was found yet. -/
def startW (W : World) (bud : Nat) : World := (((W.alloc (.cells #[PT bud] 32)).alloc (.cells #[.slice none 0 0] 59)).alloc (.map #[] 0)).alloc (.cells #[.map (some (W.heap.size + 1 + 1))] 60)
theorem startW_below (W : World) (bud : Nat) : Below W.heap.size W (startW W bud) := (((((Below.refl _ _).alloc (Nat.le_refl _) _).alloc (by simp) _).alloc (by simp; omega) _).alloc (by simp; omega) _)
theorem FindAt.start {W : World} {bud : Nat} {g t0 : Int} (h0 : 0 ≤ t0) (hb : BudAt W bud (g + t0) t0) : FindAt (startW W bud) W.heap.size W.heap.size (W.heap.size + 1 + 1 + 1) (W.heap.size + 1) bud (W.heap.size + 1 + 1) g t0 ⟨[], 0⟩ 0 (.slice none 0 0) [] := by
  have e0 : sh t0 0 = t0 := by unfold sh; rw [if_neg (by omega)]; omega
  refine ⟨by omega, by omega, ?_, by rw [e0]; exact hb.below (startW_below W bud) hb.blk.lt, Blk.newAt (by simp) _ _, ?_, ?_, .nil _ _ _ _, rfl, fun j x hj hx => by simp at hx⟩
  · exact (((Blk.newAt rfl _ _).alloc _).alloc _).alloc _
  · have h1 := World.ownsMap_made ((W.alloc (.cells #[PT bud] 32)).alloc (.cells #[.slice none 0 0] 59)) Tryz.prog 9 (plainElem (H := Unit) Tryz.prog 3)
    have e : ((W.alloc (.cells #[PT bud] 32)).alloc (.cells #[.slice none 0 0] 59)).heap.size = W.heap.size + 1 + 1 := by simp
    rw [e] at h1
    exact h1.alloc _
  · exact ((Blk.newAt (by simp) _ _).alloc _).alloc _

/-- What is told of the states while they are made. -/
structure BldW (W wr : World) (B cm cs bud mb : Nat) (g t0 : Int) (hs : List Nat) (f : Nat → Nat) (s0 : Bs) (dp : Nat) (vh : Value) (q : Nat) (s1 : Bs) (vs : Value) (ps : List Value) (vn vy : Value) (vr : List Value) (rows : List (List Nat)) : Prop where
  find : FindAt wr B B cm cs bud mb g t0 s1 q vs ps
  ok : BsOk g s1
  left : Left W wr B bud
  dfa : DfaIn wr B dp vh vn vy hs f vr rows ((s1.S.take q).map RE.null)
  len : rows.length = q
  le : q ≤ s1.S.length
  eq : ∃ n : Nat, g < (n : Int) + q ∧ bldA g hs (g.toNat + 1) s0 [] = bldA g hs n s1 rows
theorem BldW.step {W wr : World} {B cm cs bud mb : Nat} {g t0 : Int} {hs : List Nat} {f : Nat → Nat} {s0 : Bs} {dp : Nat} {vh : Value} {q : Nat} {s1 : Bs} {vs : Value} {ps : List Value} {vn vy : Value} {vr : List Value} {rows : List (List Nat)}
    (h : BldW W wr B cm cs bud mb g t0 hs f s0 dp vh q s1 vs ps vn vy vr rows) (hq : q < s1.S.length) {s2 : Bs} {row : List Nat} (hr : rowA g (s1.S.getD q rNothing) hs s1 [] = (s2, some row)) : BsOk g s2 ∧ BsLe s1 s2 ∧ ∃ n : Nat, g < (n : Int) + (q + 1 : Nat) ∧ bldA g hs (g.toNat + 1) s0 [] = bldA g hs n s2 (rows ++ [row]) := by
  obtain ⟨k1, k2⟩ := rowA_le (bs_wf h.ok _) h.ok hr
  obtain ⟨n, hn, he⟩ := h.eq
  have ht := h.ok.t
  have hg := h.ok.g
  refine ⟨k1, k2, ?_⟩
  match n, hn, he with
  | 0, hn, he => omega
  | n + 1, hn, he =>
    refine ⟨n, by omega, ?_⟩
    rw [he, bldA, if_pos (by rw [h.len]; exact hq), h.len, hr]
theorem BldW.fail {W wr : World} {B cm cs bud mb : Nat} {g t0 : Int} {hs : List Nat} {f : Nat → Nat} {s0 : Bs} {dp : Nat} {vh : Value} {q : Nat} {s1 : Bs} {vs : Value} {ps : List Value} {vn vy : Value} {vr : List Value} {rows : List (List Nat)}
    (h : BldW W wr B cm cs bud mb g t0 hs f s0 dp vh q s1 vs ps vn vy vr rows) (hq : q < s1.S.length) {s2 : Bs} (hr : rowA g (s1.S.getD q rNothing) hs s1 [] = (s2, none)) : bldA g hs (g.toNat + 1) s0 [] = (s2, none) := by
  obtain ⟨n, hn, he⟩ := h.eq
  have ht := h.ok.t
  have hg := h.ok.g
  match n, hn, he with
  | 0, hn, he => omega
  | n + 1, hn, he => rw [he, bldA, if_pos (by rw [h.len]; exact hq), h.len, hr]
theorem BldW.done {W wr : World} {B cm cs bud mb : Nat} {g t0 : Int} {hs : List Nat} {f : Nat → Nat} {s0 : Bs} {dp : Nat} {vh : Value} {q : Nat} {s1 : Bs} {vs : Value} {ps : List Value} {vn vy : Value} {vr : List Value} {rows : List (List Nat)}
    (h : BldW W wr B cm cs bud mb g t0 hs f s0 dp vh q s1 vs ps vn vy vr rows) (hq : ¬ q < s1.S.length) : bldA g hs (g.toNat + 1) s0 [] = (s1, some rows) := by
  obtain ⟨n, hn, he⟩ := h.eq
  have ht := h.ok.t
  have hg := h.ok.g
  have hl := h.le
  match n, hn, he with
  | 0, hn, he => omega
  | n + 1, hn, he => rw [he, bldA, if_neg (by rw [h.len]; exact hq)]

set_option maxHeartbeats 2000000 in
theorem Build_any (r : RE) (b0 : Nat) (W : World) (h : @ReAt forbNone W b0 r) (hw : Wf r) (bud : Nat) (g t0 : Int) (h0 : 0 ≤ t0) (hb : BudAt W bud (g + t0) t0) (hg : 0 ≤ g) (hg2 : g < 1000000) (hT : TabAt W) :
    Calls Tryz.prog 10 #[PT b0, PT bud] W fun e W' => ∃ pl, pl.Perm (refL (r.sts false)) ∧ pl.Pairwise (fun x y => least x ≤ least y) ∧ Left W W' W.heap.size bud ∧ BudAt W' bud (g + t0) (sh t0 (bldF g (pl.map least) r 0).1.t) ∧
      (((bldF g (pl.map least) r 0).2 = none ∧ e = .returned (.tuple #[.pointer none, .int .i64 5])) ∨
        ∃ rows p, (bldF g (pl.map least) r 0).2 = some rows ∧ e = .returned (.tuple #[PT p, .int .i64 0]) ∧ W.heap.size ≤ p ∧ DfaAt W' p (pl.map least) (idxF pl pl.length) rows ((bldF g (pl.map least) r 0).1.S.map RE.null) 0 (.slice none 0 0)) := by
  have H := hide h
  have HB := hide hb
  have HT := hide hT
  clear h hb hT
  unfold PT
  go_enter Tryz.func10, Tryz.ntmps10
  have hmk := fun w => run_makeMap (P := Tryz.prog) 60 w
  go_wp2_with fail
  rw [show ((((W.alloc (.cells #[.pointer (some ⟨bud, 0, none⟩)] 32)).alloc (.cells #[.slice none 0 0] 59)).alloc (.map #[] 0)).alloc (.cells #[.map (some (W.heap.size + 1 + 1))] 60)) = startW W bud from rfl]
  have hF0 := FindAt.start (W := W) (bud := bud) (g := g) h0 HB.out
  have hb4 := startW_below W bud
  generalize startW W bud = W4 at hF0 hb4 ⊢
  obtain ⟨B, hB⟩ : ∃ B, B = W.heap.size := ⟨_, rfl⟩
  have HBE := hide hB
  have hG : 0 < B := by rw [hB]; exact World.block_lt_of_cell? _ _ (HT.out 0 (by omega))
  rw [← hB] at hF0 ⊢
  have hW4 : B ≤ W4.heap.size := by rw [hB]; exact hb4.size
  have HST := hide (fsettled_any b0 r W4 (H.out.keep hb4))
  have HF0 := hide hF0
  have HL4 : Hid (Left W W4 B bud) := .of hb4 (Nat.le_of_eq hB)
  clear hF0 hb4 hB hmk
  obtain ⟨cs, hcs⟩ : ∃ cs, cs = B + 1 := ⟨_, rfl⟩
  obtain ⟨mb, hmb⟩ : ∃ mb, mb = B + 1 + 1 := ⟨_, rfl⟩
  obtain ⟨cm, hcm⟩ : ∃ cm, cm = B + 1 + 1 + 1 := ⟨_, rfl⟩
  rw [← hcm, ← hmb, ← hcs] at HF0
  rw [← hcm, ← hmb, ← hcs]
  clear hcs hmb hcm
  unfold PT at HST
  refine HST.out.mono ?_
  rintro e w5 ⟨rfl, hb5⟩
  have hF5 := HF0.out.keep hb5
  have hL5 : Left W w5 B bud := HL4.out.trans (.of hb5 hW4)
  have hT5 : TabAt w5 := hL5.tab HB.out hG HT.out
  have hR5 : @ReAt forbNone w5 b0 r := @ReAt.left forbNone forbNone W w5 b0 B bud _ _ r H.out hL5 (Nat.le_of_eq HBE.out.symm) HB.out (FL.none _) (fun _ _ h => h)
  have HFN := hide (find_any w5 B B cm cs bud mb g t0 h0 ⟨[], 0⟩ 0 (.slice none 0 0) [] hF5 ⟨by simp, by simp, by simp, rfl, hg⟩ r b0 (@ReAt.typ forbNone (forbOf (.slice none 0 0)) w5 w5 b0 r hR5 (Nat.le_refl _) (fun b hb => by cases hb) (fun _ _ h => h) (fun _ _ _ h => h) (fun k _ h => by cases h)) hw hT5 (Nat.le_trans hW4 hb5.size) hg2)
  have HL5 := hide hL5
  clear hF5 hL5 hT5 hR5 hb5 HF0 HL4 HST
  unfold PT at HFN
  cases hf : fnd g ⟨[], 0⟩ r with
  | mk s0 o =>
    rw [hf] at HFN
    cases o with
    | none =>
      have HF := hide hf
      clear hf
      go_wp2_with fail
      refine HFN.out.mono ?_
      rintro e w6 ⟨i, vs, l, rfl, -, h6, hl6⟩
      have H6 := hide h6
      have HL6 := hide (HL5.out.trans hl6)
      clear h6 hl6 HFN HL5
      have e5 : errI (((s0, none) : Bs × Option Nat).2.isSome) = 5 := rfl
      rw [e5]
      go_wp2
      refine bodyPost_ret (v := .tuple #[.pointer none, .int .i64 5]) (by simp [results, Tryz.results10, go_sem]) rfl ?_
      obtain ⟨pl, hp1, hp2⟩ := sorted_ex (refL (r.sts false))
      have hbl : ∀ hs, bldF g hs r 0 = (s0, none) := fun hs => by unfold bldF; rw [HF.out]
      refine ⟨pl, hp1, hp2, ?_, ?_, .inl ⟨by rw [hbl], rfl⟩⟩
      · have := HL6.out
        rw [HBE.out] at this
        exact this
      · rw [hbl]; exact H6.out.bud
    | some q0 =>
      obtain ⟨k1, -, k3, -, k5, -⟩ := fnd_ok (s := ⟨[], 0⟩) ⟨by simp, by simp, by simp, rfl, hg⟩ hw hf
      have hg1 : 1 ≤ g := by have := k1.t; have := k1.g; omega
      obtain ⟨e0, k1⟩ := bs_start hw k5 hg1
      have HE0 := hide e0
      rw [e0] at hf
      cases hf
      have HK1 := hide k1
      clear k1 k3 e0
      go_wp2_with fail
      refine HFN.out.mono ?_
      rintro e w6 ⟨i, vs, l, rfl, -, h6, hl6⟩
      have H6 := hide h6
      rw [List.nil_append] at H6
      have hl6' := HL5.out.trans hl6
      have hT6 := hl6'.tab HB.out hG HT.out
      have hR6 : @ReAt forbNone w6 b0 r := @ReAt.left forbNone forbNone W w6 b0 B bud _ _ r H.out hl6' (Nat.le_of_eq HBE.out.symm) HB.out (FL.none _) (fun _ _ h => h)
      have HSL := hide (stateless_any r b0 w6 hR6 (by have := sts_le false r; have := size_minD r; omega) hT6)
      have hB6 : B ≤ w6.heap.size := by rw [HBE.out]; exact hl6'.size
      have HL6 := hide hl6'
      clear h6 hl6 HFN HL5 hl6' hT6 hR6
      have e5 : errI (((⟨[r], 1⟩, some 0) : Bs × Option Nat).2.isSome) = 0 := rfl
      rw [e5]
      unfold PT at HSL
      go_wp2_with fail
      refine HSL.out.mono ?_
      rintro e w7 ⟨dp, pl, vh, rfl, hperm, hsort, hdf, hb7⟩
      have hip := (isPart_ref (r.sts false)).perm hperm
      have hpl : pl.length ≤ 256 := parts_256 hip
      obtain ⟨hs, hhs⟩ : ∃ hs, hs = pl.map least := ⟨_, rfl⟩
      obtain ⟨f, hf⟩ : ∃ f, f = idxF pl pl.length := ⟨_, rfl⟩
      rw [← hhs, ← hf] at hdf
      have hBW0 : BldW W w7 B cm cs bud mb g t0 hs f ⟨[r], 1⟩ dp vh 0 ⟨[r], 1⟩ vs l (.slice none 0 0) (.slice none 0 0) [] [] :=
        ⟨H6.out.keep hb7, HK1.out, HL6.out.trans (.of hb7 hB6), hdf.lower hB6, rfl, Nat.zero_le _, ⟨g.toNat + 1, by omega, rfl⟩⟩
      have h256 : ∀ b ∈ hs, b < 256 := fun b hb => by
        rw [hhs] at hb
        obtain ⟨p, -, rfl⟩ := List.mem_map.1 hb
        exact least_lt p
      have hhl : hs.length ≤ 256 := by rw [hhs]; simpa using hpl
      have HBF := hide (show bldF g (pl.map least) r 0 = bldA g hs (g.toNat + 1) ⟨[r], 1⟩ [] from by rw [← hhs]; unfold bldF; rw [HE0.out])
      have HPM := hide hperm
      have HPS := hide hsort
      have HHS := hide hhs
      have HFF := hide hf
      have H256 := hide h256
      have hdpB : B ≤ dp := hBW0.dfa.base
      clear hperm hsort hhs hf hdf hb7 h256 hip HSL H6 HL6 hpl
      go_wp2
      go_loopw [12] (fun c wr => ∃ (q : Nat) (s1 : Bs) (vs : Value) (ps : List Value) (vn vy : Value) (vr : List Value) (rows : List (List Nat)), c = .int .i64 q ∧ Hid (BldW W wr B cm cs bud mb g t0 hs f ⟨[r], 1⟩ dp vh q s1 vs ps vn vy vr rows)) (fun c _ => 1000000 - (intOf c).toNat)
      case atStart => exact ⟨0, _, _, _, _, _, _, _, rfl, hBW0⟩
      case round =>
        clear hBW0
        obtain ⟨q, s1, vs, ps, vn, vy, vr, rows, rfl, HW⟩ := hrel
        have BW := HW.out
        have hBwr : B ≤ wr.heap.size := by rw [HBE.out]; exact BW.left.size
        obtain ⟨va, vc, hvs, -⟩ := BW.find.own.slice
        rw [BW.find.len] at hvs
        subst hvs
        have cS := BW.find.cs.cell 0
        simp only [List.getElem?_toArray, List.getElem?_cons_zero] at cS
        have hst := BW.ok.t
        have hsg := BW.ok.g
        have hql := BW.le
        have hq6 : s1.S.length < 1000000 := by omega
        clear hst hsg
        obtain ⟨n1, hn1⟩ : ∃ n, n = s1.S.length := ⟨_, rfl⟩
        rw [← hn1] at HW cS hql hq6
        have HN1 := hide hn1
        by_cases hlt : q < n1
        · have hkd : decide (q < n1) = true := by simp [hlt]
          have hqi : (0 : Int) ≤ q ∧ (q : Int) < n1 := by omega
          have hql1 : q < s1.S.length := by rw [← HN1.out]; exact hlt
          obtain ⟨x, hx⟩ : ∃ x, x = s1.S.getD q rNothing := ⟨_, rfl⟩
          have hxq : s1.S[q]? = some x := by rw [hx, List.getD_eq_getElem?_getD, List.getElem?_eq_getElem hql1]; rfl
          obtain ⟨xp, hpq, -⟩ := BW.find.elem q x (Nat.le_refl _) hxq
          obtain ⟨gb, cap, e1, -, -, cG⟩ := BW.find.own.cell hpq
          obtain ⟨rfl, -⟩ : va = some ⟨gb, 0, none⟩ ∧ True := by injection e1 with x1 x2 x3; exact ⟨x1, trivial⟩
          have hTw := BW.left.tab HB.out hG HT.out
          have HRW := hide (row_any wr B B cm cs bud mb g t0 h0 s1 q _ ps BW.find BW.ok hg2 q xp x (Nat.le_refl _) hxq hpq hTw hBwr hG dp B vh vn vy hs f vr rows _ BW.dfa H256.out hhl)
          have HXQ := hide hxq
          have HPQ := hide hpq
          have HX := hide hx
          clear hxq hpq hTw e1 hn1
          unfold PT at HRW cG
          cases hrw : rowA g x hs s1 [] with
          | mk s2 o =>
            rw [hrw] at HRW
            cases o with
            | none =>
              have hfail := BW.fail hql1 (s2 := s2) (by rw [← HX.out]; exact hrw)
              have HFL := hide hfail
              clear hfail hrw BW
              have e5 : errI (((s2, none) : Bs × Option (List Nat)).2.isSome) = 5 := rfl
              rw [e5] at HRW
              clear e5
              go_wp2_with fail
              refine HRW.out.mono ?_
              rintro e w8 ⟨v, vs', l', rfl, h8, hl8, -⟩
              have H8 := hide h8
              have HL8 := hide (HW.out.left.trans hl8)
              clear h8 hl8 HRW
              go_wp2
              refine bodyPost_ret (v := .tuple #[.pointer none, .int .i64 5]) (by simp [results, Tryz.results10, go_sem]) rfl ?_
              refine ⟨pl, HPM.out, HPS.out, ?_, ?_, .inl ⟨by rw [HBF.out, HFL.out], rfl⟩⟩
              · have := HL8.out
                rw [HBE.out] at this
                exact this
              · rw [HBF.out, HFL.out]; exact H8.out.bud
            | some row =>
              obtain ⟨j1, j2, j3⟩ := BW.step hql1 (s2 := s2) (row := row) (by rw [← HX.out]; exact hrw)
              have HJ1 := hide j1
              have HJ2 := hide j2
              have HJ3 := hide j3
              clear j1 j2 j3 hrw BW
              have e5 : errI (((s2, some row) : Bs × Option (List Nat)).2.isSome) = 0 := rfl
              rw [e5] at HRW
              clear e5
              go_wp2_with fail
              refine HRW.out.mono ?_
              rintro e w8 ⟨v, vs', l', rfl, h8, hl8, ho8⟩
              have ho8 := (ho8 row rfl).lower hBwr
              have hd8 := hl8.dfa HW.out.dfa
              have hrl : rows.length < 1000000 := by rw [HW.out.len]; omega
              obtain ⟨v9, W9, hr9, c9, f9, hd9, hF9, hb9⟩ := DfaIn.nextRow h8 hd8 ho8 hrl
              have c8 := hd8.blk.cell 257
              rw [dfaC_tail _ _ _ _ _ _ 0] at c8
              simp only [List.getElem?_toArray, List.getElem?_cons_zero] at c8
              obtain ⟨av, cv, rfl, -⟩ := ho8.slice
              obtain ⟨an, cn, rfl, -⟩ := hd8.nx.slice
              obtain ⟨a9, c9n, rfl, -⟩ := hd9.nx.slice
              have HL8 := hide (HW.out.left.trans hl8)
              have HD9 := hide hd9
              have HF9 := hide hF9
              have HB9 := hide hb9
              clear h8 hl8 ho8 hd8 hrl hd9 hF9 hb9 HRW cS cG
              simp only [List.length_append, List.length_cons, List.length_nil, Nat.zero_add] at hr9 HD9 HF9 HB9
              go_wp2_with (refine wpList_append_run rfl _ _ _ rfl _ _ _ rfl rfl hr9 ?_)
              generalize W9.setCell ⟨dp, 257, none⟩ (Value.slice a9 (vr.length + 1) c9n) = w10 at HD9 HF9 HB9 ⊢
              clear hr9 c9 f9 c8
              have hbd : Below w10.heap.size w10 { w10 with drawn := w10.drawn + 1 } := ⟨rfl, rfl, rfl, Nat.le_refl _, fun _ _ => rfl⟩
              have hF := HF9.out.keep hbd
              have hD := HD9.out.keep hbd
              have hB10 : B ≤ w10.heap.size := Nat.le_trans HD9.out.base (Nat.le_of_lt HD9.out.blk.lt)
              have HB10 := hide (HB9.out.trans (hbd.mono hB10))
              have hx2 : s2.S[q]? = some x := by
                obtain ⟨l2, e⟩ := HJ2.out.S
                rw [e, List.getElem?_append_left hql1]; exact HXQ.out
              have hq2 : q < s2.S.length := (List.getElem?_eq_some_iff.1 hx2).1
              obtain ⟨va2, vc2, hvs2, -⟩ := hF.own.slice
              rw [hF.len] at hvs2
              subst hvs2
              obtain ⟨p2, hp2, hre2⟩ := hF.elem q x (Nat.le_refl _) hx2
              obtain ⟨gb2, cap2, e2, hgB2, -, cG2⟩ := hF.own.cell hp2
              obtain ⟨rfl, -⟩ : va2 = some ⟨gb2, 0, none⟩ ∧ True := by injection e2 with x1 x2 x3; exact ⟨x1, trivial⟩
              have hyl : ((s1.S.take q).map RE.null).length < 1000000 := by simp; omega
              obtain ⟨vY, W11, hr11, c11, f11, hF11, hD12, hF12, hb12⟩ := DfaIn.nextYes (y := x.null) hF hD hyl
              have hYC : Hid ({ w10 with drawn := w10.drawn + 1 }.cell? ⟨dp, 258, none⟩ = some vy) := by
                have := hD.blk.cell 258
                rw [dfaC_tail _ _ _ _ _ _ 1] at this
                exact this
              obtain ⟨ay, cy, rfl, -⟩ := hD.ye.slice
              obtain ⟨aY, mY, cY, rfl⟩ : ∃ a m c, vY = Value.slice a m c := by
                obtain ⟨a, c, e, -⟩ := hD12.ye.slice
                exact ⟨a, _, c, e⟩
              obtain ⟨n2, hn2⟩ : ∃ n, n = s2.S.length := ⟨_, rfl⟩
              obtain ⟨S, hSd⟩ : ∃ S : World → Prop, S = fun W => W.cell? ⟨cs, 0, none⟩ = some (.slice (some ⟨gb2, 0, none⟩) s2.S.length vc2) ∧ W.cell? ⟨gb2, q, none⟩ = some (PT p2) := ⟨_, rfl⟩
              have hSof : ∀ W, FindAt W B B cm cs bud mb g t0 s2 q (.slice (some ⟨gb2, 0, none⟩) s2.S.length vc2) (ps ++ l') → S W := fun W h => by
                rw [hSd]
                refine ⟨by have := h.cs.cell 0; simpa using this, ?_⟩
                obtain ⟨gb3, cap3, e3, -, -, c3⟩ := h.own.cell hp2
                have : gb2 = gb3 := by injection e3 with x1 x2 x3; injection x1 with x1; injection x1
                rw [this]; exact c3
              have hS1 : ∀ W, S W → W.cell? ⟨cs, 0, none⟩ = some (.slice (some ⟨gb2, 0, none⟩) s2.S.length vc2) := fun W h => by rw [hSd] at h; exact h.1
              have hS2 : ∀ W, S W → W.cell? ⟨gb2, 0 + q, none⟩ = some (PT p2) := fun W h => by rw [hSd, ← Nat.zero_add q] at h; exact h.2
              clear hSd
              have hS := hSof _ hF
              have hNL := fun (b : Nat) (w : World) (h : @ReAt (forbOf (.slice (some ⟨gb2, 0, none⟩) s2.S.length vc2)) w b x) => @null_any (forbOf (.slice (some ⟨gb2, 0, none⟩) s2.S.length vc2)) b x w h
              have HNL := hide (hNL p2 _ hre2)
              clear hNL
              rw [show Value.pointer (some ⟨dp, 0, none⟩) = PT dp from rfl, show Value.pointer (some ⟨cs, 0, none⟩) = PT cs from rfl]
              refine wp_region_noPanic (wp_region_held (S := S) (by kernel_rfl) ?_)
              show wpAnyH _ _ _ _ _ 15 #[false, false, false, false, false, false, false, false, false, false, false, false, false, false, false] _ _
              generalize hW0 : ({ w10 with drawn := w10.drawn + 1 } : World) = W0 at hF hD HB10 hre2 cG2 hr11 hb12 hS HNL hYC ⊢
              clear hW0
              refine h_take 0 (PT dp) rfl (by kernel_rfl) (by kernel_rfl) (by kernel_rfl) rfl (fun w hw => x_move _ _ _ _ _ _ _ _ rfl w) hS ?_
              simp only [Act.put, List.setIfInBounds_toArray, List.set_cons_succ, List.set_cons_zero]
              refine h_take 1 (PT dp) rfl (by kernel_rfl) (by kernel_rfl) (by kernel_rfl) rfl (fun w hw => x_move _ _ _ _ _ _ _ _ rfl w) hS ?_
              simp only [Act.put, List.setIfInBounds_toArray, List.set_cons_succ, List.set_cons_zero]
              refine h_take 2 (PT dp) rfl (by kernel_rfl) (by kernel_rfl) (by kernel_rfl) rfl (fun w hw => x_nilCheck _ _ _ _ _ _ _ dp rfl w) hS ?_
              simp only [Act.put, List.setIfInBounds_toArray, List.set_cons_succ, List.set_cons_zero]
              refine h_take 3 (.pointer (some ⟨dp, 258, none⟩)) rfl (by kernel_rfl) (by kernel_rfl) (by kernel_rfl) rfl (fun w hw => x_fieldYes _ _ _ _ _ _ _ dp rfl w) hS ?_
              simp only [Act.put, List.setIfInBounds_toArray, List.set_cons_succ, List.set_cons_zero]
              refine h_take 5 (.slice (some ⟨gb2, 0, none⟩) s2.S.length vc2) rfl (by kernel_rfl) (by kernel_rfl) (by kernel_rfl) rfl (fun w hw => x_loadRow _ _ _ _ _ _ _ cs _ rfl w (hS1 w hw)) hS ?_
              simp only [Act.put, List.setIfInBounds_toArray, List.set_cons_succ, List.set_cons_zero]
              refine h_take 6 (.int .i64 q) rfl (by kernel_rfl) (by kernel_rfl) (by kernel_rfl) rfl (fun w hw => x_move _ _ _ _ _ _ _ _ rfl w) hS ?_
              simp only [Act.put, List.setIfInBounds_toArray, List.set_cons_succ, List.set_cons_zero]
              refine h_take 7 (.pointer (some ⟨gb2, 0 + q, none⟩)) rfl (by kernel_rfl) (by kernel_rfl) (by kernel_rfl) rfl (fun w hw => x_idxP _ _ _ _ _ _ _ _ gb2 0 s2.S.length vc2 q rfl rfl hq2 w) hS ?_
              simp only [Act.put, List.setIfInBounds_toArray, List.set_cons_succ, List.set_cons_zero]
              refine h_take 8 (PT p2) rfl (by kernel_rfl) (by kernel_rfl) (by kernel_rfl) rfl (fun w hw => x_loadP _ _ _ _ _ _ _ gb2 (0 + q) _ rfl w (hS2 w hw)) hS ?_
              simp only [Act.put, List.setIfInBounds_toArray, List.set_cons_succ, List.set_cons_zero]
              have hAl : ∀ u w', (u = Value.bool x.null ∧ w' = W0) → S (w'.alloc (.cells #[u] 4)) ∧ (w'.alloc (.cells #[u] 4)).cell? ⟨dp, 258, none⟩ = some (.slice ay ((s1.S.take q).map RE.null |>.map Value.bool).length cy) := fun u w' hh => by
                obtain ⟨rfl, rfl⟩ := hh
                have hb := (Below.refl w'.heap.size w').alloc (Nat.le_refl _) (.cells #[Value.bool x.null] 4)
                refine ⟨hSof _ (hF.keep hb), ?_⟩
                rw [← hYC.out]
                exact World.cell?_of_block (w := w') (hb.block dp hD.blk.lt)
              refine h_lcaX 4 9 10 (.slice ay ((s1.S.take q).map RE.null |>.map Value.bool).length cy) 45 #[PT p2] (fun V' => S V' ∧ V'.cell? ⟨dp, 258, none⟩ = some (.slice ay ((s1.S.take q).map RE.null |>.map Value.bool).length cy)) (fun u V' => u = .bool x.null ∧ V' = W0) (fun V' => .slice (some ⟨V'.heap.size, 0, none⟩) 1 1) (fun u V' => V'.alloc (.cells #[u] 4)) rfl rfl rfl (by kernel_rfl) (by kernel_rfl) (by kernel_rfl) (by kernel_rfl) (by kernel_rfl) (by kernel_rfl) (fun _ => rfl) (fun _ => rfl) (fun _ => rfl)
                (fun w hw => x_loadYes _ _ _ _ _ _ _ dp 258 _ rfl w hw.2) (fun u w hw => x_loadYes _ _ _ _ _ _ _ dp 258 _ rfl w hw.2) (fun u x w hw => x_loadYes _ _ _ _ _ _ _ dp 258 _ rfl w hw.2)
                (fun w => x_call1 _ _ _ _ _ _ _ _ _ _ rfl rfl (enters_of Tryz.func45 (by kernel_rfl) rfl) w) (fun w => x_call1 _ _ _ _ _ _ _ _ _ _ rfl rfl (enters_of Tryz.func45 (by kernel_rfl) rfl) w)
                (fun u w hh => by obtain ⟨rfl, -⟩ := hh; exact x_buildYes _ _ _ _ _ _ _ x.null rfl w) (fun u w hh => by obtain ⟨rfl, -⟩ := hh; exact x_buildYes _ _ _ _ _ _ _ x.null rfl w) (fun u w hh => by obtain ⟨rfl, -⟩ := hh; exact x_buildYes _ _ _ _ _ _ _ x.null rfl w)
                (HNL.out.mono fun e V' hh => ⟨_, hh.1, rfl, hh.2⟩) (fun u V' hh => ⟨hh.2 ▸ hS, hh.2 ▸ hYC.out⟩) (fun u V' hh => hAl u V' hh) (fun V' hh => hh.1) ⟨hS, hYC.out⟩ (fun u x => rfl) (fun u x => rfl) rfl rfl ?_
              rintro u V1 ⟨rfl, rfl⟩
              simp only [Act.put, List.setIfInBounds_toArray, List.set_cons_succ, List.set_cons_zero]
              refine h_oper 11 rfl (by kernel_rfl) rfl (wp_append_runX _ _ _ rfl _ _ _ rfl rfl hr11 ⟨hSof _ hF11, ?_⟩)
              simp only [Act.put, List.setIfInBounds_toArray, List.set_cons_succ, List.set_cons_zero]
              have hS11 := hSof _ hF11
              refine h_take 12 (PT dp) rfl (by kernel_rfl) (by kernel_rfl) (by kernel_rfl) rfl (fun w hw => x_nilCheck _ _ _ _ _ _ _ dp rfl w) hS11 ?_
              simp only [Act.put, List.setIfInBounds_toArray, List.set_cons_succ, List.set_cons_zero]
              refine h_take 13 (.pointer (some ⟨dp, 258, none⟩)) rfl (by kernel_rfl) (by kernel_rfl) (by kernel_rfl) rfl (fun w hw => x_fieldYes _ _ _ _ _ _ _ dp rfl w) hS11 ?_
              simp only [Act.put, List.setIfInBounds_toArray, List.set_cons_succ, List.set_cons_zero]
              refine h_step 14 _ rfl (by kernel_rfl) rfl (x_storeYes _ _ _ _ _ _ _ _ dp 258 _ aY _ cY rfl rfl W11 c11 f11) (hSof _ hF12) ?_
              simp only [Act.put, List.setIfInBounds_toArray, List.set_cons_succ, List.set_cons_zero]
              refine wpAnyH_done (by kernel_rfl) ?_ _
              refine NoPanic.normal ?_
              have hdr := hF12.drop hq2
              obtain ⟨curg, hgb⟩ : ∃ c, Blk (W11.setCell ⟨dp, 258, none⟩ (.slice aY mY cY)) gb2 c 30 := by
                rcases hF12.own with ⟨e, -⟩ | ⟨g', cap', cur', e, -, h2, -⟩
                · cases e
                · injection e with x1 x2 x3
                  injection x1 with x1; injection x1 with x1
                  rw [x1]; exact ⟨cur', h2⟩
              have hdt := hD12.typ (W' := (W11.setCell ⟨dp, 258, none⟩ (.slice aY mY cY)).setCell ⟨gb2, q, none⟩ (.pointer none)) (fun k c t hk ht => hk.setOther _ _ (hk.ne hgb ht))
              have hys : (s2.S.take (q + 1)).map RE.null = (s1.S.take q).map RE.null ++ [x.null] := by
                obtain ⟨l2, e⟩ := HJ2.out.S
                rw [e, List.take_append_of_le_length (by omega), List.take_succ_eq_append_getElem hql1, List.map_append]
                have : s1.S[q] = x := by have := HXQ.out; rw [List.getElem?_eq_getElem hql1] at this; injection this
                rw [this]; rfl
              rw [← hys] at hdt
              have HNEW := hide (show BldW W _ B cm cs bud mb g t0 hs f ⟨[r], 1⟩ dp vh (q + 1) s2 _ _ _ _ _ (rows ++ [row]) from
                ⟨hdr, HJ1.out, HL8.out.more (Nat.le_of_eq HBE.out.symm) ((HB10.out.trans hb12).setCell hgB2 _), hdt, by simp [HW.out.len], hq2, HJ3.out⟩)
              have c17 := hF12.cs.cell 0
              simp only [List.getElem?_toArray, List.getElem?_cons_zero] at c17
              have f17 := hgb.frozen q
              obtain ⟨gb3, cap3, e3, -, -, c18⟩ := hF12.own.cell hp2
              obtain rfl : gb2 = gb3 := by injection e3 with x1 x2 x3; injection x1 with x1; injection x1
              have hq2i : (0 : Int) ≤ q ∧ (q : Int) < s2.S.length := by omega
              generalize s2.S.length = n2' at *
              clear hdr hgb hdt hys hF hD HB10 hre2 hr11 hb12 hS HNL hYC hAl hS11 hSof hS1 hS2 hF11 hD12 hF12 c11 f11 e3 cG2 hp2 hx2 HF9 HD9 HB9 hB10 hbd e2
              unfold PT at c18
              unfold PT
              go_wp2
              exact ⟨⟨q + 1, s2, _, _, _, _, _, _, by go_num, HNEW.out⟩, by simp [intOf]; omega⟩
        · have hkd : decide (q < n1) = false := by simp [hlt]
          have hdone := BW.done (by rw [← hn1]; exact hlt)
          have hdA := BW.dfa.at
          have hqe : q = s1.S.length := by omega
          rw [List.take_of_length_le (by omega)] at hdA
          have HDN := hide hdone
          have HDA := hide hdA
          clear hdone hdA hqe hn1 BW
          go_wp2
          refine bodyPost_ret (v := .tuple #[PT dp, .int .i64 0]) (by simp [results, Tryz.results10, go_sem, PT]) rfl ?_
          refine ⟨pl, HPM.out, HPS.out, ?_, ?_, .inr ⟨rows, dp, by rw [HBF.out, HDN.out], rfl, by rw [← HBE.out]; exact hdpB, ?_⟩⟩
          · have := HW.out.left
            rw [HBE.out] at this
            exact this
          · rw [HBF.out, HDN.out]; exact HW.out.find.bud
          · rw [HBF.out, HDN.out, ← HHS.out, ← HFF.out]; exact HDA.out
end Go.Proofs.YtjcfnmjjkadaeaaGreatDoor
