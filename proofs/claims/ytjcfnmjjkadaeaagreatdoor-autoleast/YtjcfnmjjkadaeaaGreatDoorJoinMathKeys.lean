/- Texts of this claim put together: PartE, DvI, DfaC, MathKeys. -/
import Derived.Test.YtjcfnmjjkadaeaaGreatDoorJoinMathDfa
import Derived.Test.YtjcfnmjjkadaeaaGreatDoorJoinDvG
import Derived.Test.YtjcfnmjjkadaeaaGreatDoorJoinDfaB
import Derived.Test.YtjcfnmjjkadaeaaGreatDoorJoinMathDfa4
import Derived.Test.YtjcfnmjjkadaeaaGreatDoorJoinReO
import Derived.Maps.OwnSet
import Derived.Maps.OwnOps
/- Refine, of however many sets. -/
namespace Go.Proofs.YtjcfnmjjkadaeaaGreatDoor
set_option maxRecDepth 100000
set_option linter.unusedSimpArgs false
set_option linter.unusedVariables false
open Go.RowKit

set_option maxRecDepth 100000 in
set_option maxHeartbeats 1000000 in
theorem refine_big (l : List (BitVec 256)) (v : Value) (w : World) (hv : SetsRow w v l) (hl : l.length ≤ 1099511627776) (hT : TabAt w) :
    Calls Tryz.prog 78 #[v] w fun e w' => ∃ v' l', e = .returned v' ∧ l'.Perm (refL l) ∧ l'.Pairwise (fun x y => least x ≤ least y) ∧ SetsRow w' v' l' ∧ Below w.heap.size w w' := by
  have HV := hide hv
  have HT := hide hT
  have hG : 0 < w.heap.size := World.block_lt_of_cell? _ _ (hT 0 (by omega))
  obtain ⟨hlen, ad, cap, rfl, -⟩ := hv
  clear hT
  go_enter Tryz.func78, Tryz.ntmps78
  go_wp2_with fail
  refine (all_any _).mono ?_
  rintro e w1 ⟨rfl, hb⟩
  have HB := hide hb
  clear hb
  go_wp2
  generalize hB : w.heap.size = B at *
  go_loopw [3, 10] (fun parts i wr => ∃ k : Nat, k ≤ l.length ∧ i = .int .i64 k ∧ wr.ownsRow B 89 4 parts (refL (l.take k)).length (flat (refL (l.take k))) ∧ Below B w wr) (fun _ i _ => l.length - (intOf i).toNat)
  case atStart =>
    have := HB.out.size
    refine ⟨0, by omega, rfl, ⟨by simp [flat, refL, encS], .inr ⟨w1.heap.size, 1, WS allB, rfl, by omega, Blk.newAt rfl _ _, by simp [refL], by unfold maxLen; omega, by simp, by simp [refL, flat, encS]⟩⟩, HB.out.alloc (by omega) _⟩
  case round =>
    obtain ⟨k, hk, rfl, hown, hbel⟩ := hrel
    have hcov := refL_covers (l.take k)
    have hlenk : (refL (l.take k)).length ≤ 1024 := Nat.le_trans (parts_256 (isPart_ref _)) (by omega)
    obtain ⟨g, cap2, rfl, hg, hin⟩ := own_in hown rfl hcov.pos
    have hrow : SetsRow wr (.slice (some ⟨g, 0, none⟩) (refL (l.take k)).length cap2) (refL (l.take k)) := in_row hin (by omega)
    by_cases hlt : k < l.length
    · obtain ⟨-, ad', cap', hv', hc⟩ := HV.out.below (hB ▸ hbel)
      obtain ⟨rfl, rfl⟩ : ad = ad' ∧ cap = cap' := by cases hv'; exact ⟨rfl, rfl⟩
      obtain ⟨bb, off, rfl, hbb, hc⟩ := hc k hlt
      obtain ⟨p, hp⟩ : ∃ p, p = l.getD k 0 := ⟨_, rfl⟩
      rw [← hp] at hc
      have HP := hide hp
      have c0 := hc 0 (by omega); have c1 := hc 1 (by omega); have c2 := hc 2 (by omega); have c3 := hc 3 (by omega)
      rw [Nat.add_zero] at c0
      clear hv' hp hc
      have hkI : (k : Int) < l.length := by omega
      have hkd : decide (k < l.length) = true := by simp [hlt]
      have HROW := hide hrow
      have HBE := hide hbel
      have hsz := hbel.size
      clear hrow hbel hown hin
      generalize hrl : (refL (l.take k)).length = rl at *
      go_wp2_with fail
      refine (cut_any (refL (l.take k)) _ p _ (HROW.out.below ((Below.refl _ _).alloc (Nat.le_refl _) _)) (by omega)).mono ?_
      rintro e w2 ⟨v', rfl, ho2, hb2⟩
      have HO2 := hide ho2
      have HB2 := hide hb2
      clear ho2 hb2 c0 c1 c2 c3
      go_wp2
      refine ⟨⟨k + 1, by omega, by go_num, ?_, HBE.out.trans ?_⟩, by simp [intOf]; omega⟩
      · have e : refL (l.take (k + 1)) = cutL (refL (l.take k)) p := by
          have hpl : p = l[k] := by rw [HP.out]; simp [List.getD_eq_getElem?_getD, hlt]
          unfold refL
          rw [List.take_succ_eq_append_getElem hlt, List.foldl_append, hpl]
          rfl
        rw [e]
        exact own_mono HO2.out (by simp; omega)
      · exact ((Below.refl B wr).alloc (by omega) _).trans (HB2.out.mono (by simp; omega))
    · obtain rfl : k = l.length := by omega
      rw [List.take_length] at *
      go_wp2_with fail
      have hgne : g ≠ 0 := by omega
      refine (sort_any g cap2 (refL l) wr (HT.out.agree (Agree.of_all (K := fun _ => True) (hB ▸ hbel)) trivial) hgne (by omega) hin).mono ?_
      rintro e w2 ⟨rfl, l', hperm, hpw, hin2, hos, htp, hou, hsz2, hblk⟩
      have hsz := hbel.size
      have HB2 := hide (hbel.trans ⟨hos, htp, hou, hsz2, fun k hk => hblk k (by omega) (by omega)⟩)
      have HP2 := hide hperm
      have HPW := hide hpw
      have HIN := hide hin2
      clear hos htp hou hsz2 hblk hperm hpw hin2 hin hrow hown
      go_wp2
      go_ret
      refine ⟨_, l', rfl, HP2.out, HPW.out, ?_, by rw [hB]; exact HB2.out⟩
      have hll := HP2.out.length_eq
      rw [← hll]
      exact in_row HIN.out (by omega)
end Go.Proofs.YtjcfnmjjkadaeaaGreatDoor
/- package deriv: Parts; the statements' own way to the sets on which By hangs. -/
namespace Go.Proofs.YtjcfnmjjkadaeaaGreatDoor
set_option maxRecDepth 100000
set_option linter.unusedSimpArgs false
set_option linter.unusedVariables false
open Go.RowKit

theorem leading_fix [Forb] (ad : Option Addr) (cap : Nat) (qs : List (Nat × RE)) (w : World) (h : RowAt w (.slice ad qs.length cap) qs) (hr : ∀ p ∈ qs, ReAt w p.1 p.2) :
    Calls Tryz.prog 139 #[.slice ad qs.length cap] w fun e w' => e = .returned (.slice ad (leadN (qs.map Prod.snd)) cap) ∧ w' = w := by
  have HRes := hide (h.res hr)
  obtain ⟨⟨h0, h1⟩, -⟩ := h
  have hcap : qs.length ≤ cap := h1.cap _ _ _ rfl
  clear h1 hr
  have hix := indexFunc_at 168 (enters_of Tryz.func168 (by kernel_rfl) rfl) (fun r => !r.null) _ _ w HRes.out (fun b r hb => needsByte_any b r w hb)
  have HL := hide (show ∀ i : Int, ((i = -1 ∧ (qs.map Prod.snd).any (fun r => !r.null) = false) ∨ ∃ k : Nat, ∃ hk : k < (qs.map Prod.snd).length, i = k ∧ ((qs.map Prod.snd).take k).any (fun r => !r.null) = false ∧ (!(qs.map Prod.snd)[k].null) = true) →
      (i = -1 ∧ leadN (qs.map Prod.snd) = qs.length) ∨ ∃ k : Nat, k < qs.length ∧ i = k ∧ leadN (qs.map Prod.snd) = k + 1 from by
    rintro i (⟨h1, h2⟩ | ⟨k, h1, h2, h3, h4⟩)
    · exact .inl ⟨h1, by rw [leadN_all _ h2]; simp⟩
    · exact .inr ⟨k, by simpa using h1, h2, leadN_at _ k h1 h3 h4⟩)
  obtain ⟨n, hn⟩ : ∃ n, n = qs.length := ⟨_, rfl⟩
  rw [← hn] at HL h0 hcap hix ⊢
  clear hn HRes
  generalize leadN (qs.map Prod.snd) = m at *
  go_enter Tryz.func139, Tryz.ntmps139
  go_wp2_with fail
  refine hix.mono ?_
  rintro e w1 ⟨i, rfl, rfl, hi⟩
  rcases HL.out i hi with ⟨rfl, hm⟩ | ⟨k, hk, rfl, hm⟩
  · have HM := hide hm
    clear hm hi
    go_wp2
    go_ret
    rw [HM.out]
    exact ⟨rfl, rfl⟩
  · have HM := hide hm
    clear hm hi
    have hkd : decide ((0 : Int) ≤ (k : Int)) = true := by simp
    go_wp2
    go_ret
    rw [HM.out]
    exact ⟨rfl, rfl⟩

theorem firstKids_pick [Forb] (r : RE) (p : Nat) (W : World) (h : ReAt W p r) : ∃ v, ResRow W v (r.kids.take (pickN true r.op r.kids)) ∧ ∀ W', Below W.heap.size W W' → Calls Tryz.prog 116 #[PT p] W' fun e w' => e = .returned v ∧ w' = W' := by
  obtain ⟨v, c5, hrow⟩ := cellK h
  have c0 := h.cell0
  have hplt := h.lt
  obtain ⟨qs, hqs, hqe, hqr⟩ := hrow.pairs
  by_cases h3 : r.op = 3
  · have hp : pickN true r.op r.kids = leadN r.kids := by simp [pickN, h3]
    obtain ⟨-, ad, cap, rfl, -⟩ := hrow.at
    -- where the leading ones lie
    have hm : leadN r.kids ≤ qs.length := by rw [← List.length_map (f := Prod.snd), hqs]; exact leadN_le _
    refine ⟨.slice ad (leadN r.kids) cap, ?_, fun W' hb => ?_⟩
    · rw [hp]
      have h1 := (hqr.take hm).res (fun p hp => hqe p (List.mem_of_mem_take hp))
      rw [List.map_take, hqs] at h1
      exact h1
    · have c5' : W'.cell? ⟨p, 5, none⟩ = some (.slice ad r.kids.length cap) := by rw [← c5]; exact World.cell?_of_block (w := W) (hb.block p hplt)
      have c0' : W'.cell? ⟨p, 0, none⟩ = some (.int .i64 r.op) := by rw [← c0]; exact World.cell?_of_block (w := W) (hb.block p hplt)
      have hd : ((r.op : Int) == 3) = true := by simp [h3]
      have hlq : qs.length = r.kids.length := by rw [← hqs]; simp
      have hlead := leading_fix ad cap qs W' (by rw [hlq]; exact hqr.below hb) (fun p hp => (hqe p hp).keep hb)
      rw [hqs, hlq] at hlead
      clear hlq
      have HL := hide hlead
      clear c5 c0 hrow hqs hqe hqr h3 hp hm hlead
      unfold PT
      go_enter Tryz.func116, Tryz.ntmps116
      go_wp2_with fail
      refine HL.out.mono ?_
      rintro e w1 ⟨rfl, rfl⟩
      go_wp2
      go_ret
      exact ⟨rfl, rfl⟩
  · have hp : pickN true r.op r.kids = r.kids.length := by simp [pickN, h3]
    refine ⟨v, ?_, fun W' hb => ?_⟩
    · rw [hp, List.take_length]; exact hrow
    · have c5' : W'.cell? ⟨p, 5, none⟩ = some v := by rw [← c5]; exact World.cell?_of_block (w := W) (hb.block p hplt)
      have c0' : W'.cell? ⟨p, 0, none⟩ = some (.int .i64 r.op) := by rw [← c0]; exact World.cell?_of_block (w := W) (hb.block p hplt)
      have hd : ((r.op : Int) == 3) = false := beq_eq_false_iff_ne.2 (by omega)
      obtain ⟨-, ad, cap, rfl, -⟩ := hrow.at
      clear c5 c0 hrow hqs hqe hqr h3 hp
      unfold PT
      go_enter Tryz.func116, Tryz.ntmps116
      go_wp2
      go_ret
      exact ⟨rfl, rfl⟩

theorem Parts_any [Forb] (r : RE) (p : Nat) (w : World) (h : ReAt w p r) (hl : (r.sts true).length ≤ 1099511627776) (hT : TabAt w) :
    Calls Tryz.prog 82 #[PT p] w fun e w' => ∃ v' l', e = .returned v' ∧ l'.Perm (refL (r.sts true)) ∧ l'.Pairwise (fun x y => least x ≤ least y) ∧ SetsRow w' v' l' ∧ Below w.heap.size w w' := by
  have HC := hide (appendSets_any true 116 (enters_of Tryz.func116 (by kernel_rfl) rfl) firstKids_pick r p (.slice none 0 0) [] w w w.heap.size h rfl (Below.refl _ _) (.nil _ _) (by simpa using hl))
  rw [List.nil_append] at HC
  have HT := hide hT
  clear h hT
  go_enter Tryz.func82, Tryz.ntmps82
  go_wp2_with fail
  refine HC.out.mono ?_
  rintro e w1 ⟨v, rfl, ho, hb⟩
  have HB := hide hb
  have HR := hide (refine_big (r.sts true) v w1 (ho.row (by omega)) hl (HT.out.agree (Agree.of_all (K := fun _ => True) hb) trivial))
  obtain ⟨a, c, rfl, -⟩ := ho.slice
  clear ho hb HC
  go_wp2_with fail
  refine HR.out.mono ?_
  rintro e w2 ⟨v', l', rfl, h1, h2, h3, h4⟩
  obtain ⟨-, a', c', rfl, -⟩ := id h3
  have H1 := hide h1
  have H2 := hide h2
  have H3 := hide h3
  have H4 := hide h4
  clear h1 h2 h3 h4 HR
  go_wp2
  go_ret
  exact ⟨_, l', rfl, H1.out, H2.out, H3.out, HB.out.trans (H4.out.mono HB.out.size)⟩

end Go.Proofs.YtjcfnmjjkadaeaaGreatDoor
/- stateless: a Dfa of an expression's heads, without states so far. -/
namespace Go.Proofs.YtjcfnmjjkadaeaaGreatDoor
set_option maxRecDepth 100000
set_option linter.unusedSimpArgs false
set_option linter.unusedVariables false
open Go.RowKit

/-- A Dfa while it is made. -/
structure DfaIn (W : World) (B p : Nat) (vh vn vy : Value) (hs : List Nat) (f : Nat → Nat) (vs : List Value) (rows : List (List Nat)) (ys : List Bool) : Prop where
  blk : Blk W p (dfaC vh f vn vy 0 (.slice none 0 0)) 83
  base : B ≤ p
  hd : OwnG W B 5 (.int .u8 0) vh (byteV hs)
  nx : OwnG W B 36 (.slice none 0 0) vn vs
  ye : OwnG W B 4 (.bool false) vy (ys.map .bool)
  len : vs.length = rows.length
  row : ∀ q, q < rows.length → OwnG W B 3 (.int .i64 0) (vs.getD q (.slice none 0 0)) (intV (rows.getD q []))
theorem DfaIn.keep {W W' : World} {B p : Nat} {vh vn vy : Value} {hs : List Nat} {f : Nat → Nat} {vs : List Value} {rows : List (List Nat)} {ys : List Bool} (h : DfaIn W B p vh vn vy hs f vs rows ys) (hb : Below W.heap.size W W') : DfaIn W' B p vh vn vy hs f vs rows ys :=
  ⟨h.blk.below hb h.blk.lt, h.base, h.hd.keep hb, h.nx.keep hb, h.ye.keep hb, h.len, fun q hq => (h.row q hq).keep hb⟩
theorem DfaIn.at {W : World} {B p : Nat} {vh vn vy : Value} {hs : List Nat} {f : Nat → Nat} {vs : List Value} {rows : List (List Nat)} {ys : List Bool} (h : DfaIn W B p vh vn vy hs f vs rows ys) : DfaAt W p hs f rows ys 0 (.slice none 0 0) :=
  ⟨vh, vn, vy, vs, h.blk, h.hd.lower (Nat.zero_le _), h.nx.lower (Nat.zero_le _), h.ye.lower (Nat.zero_le _), h.len, fun q hq => (h.row q hq).lower (Nat.zero_le _)⟩
theorem DfaIn.lower {W : World} {B B' p : Nat} {vh vn vy : Value} {hs : List Nat} {f : Nat → Nat} {vs : List Value} {rows : List (List Nat)} {ys : List Bool} (h : DfaIn W B p vh vn vy hs f vs rows ys) (hb : B' ≤ B) : DfaIn W B' p vh vn vy hs f vs rows ys :=
  ⟨h.blk, Nat.le_trans hb h.base, h.hd.lower hb, h.nx.lower hb, h.ye.lower hb, h.len, fun q hq => (h.row q hq).lower hb⟩
theorem OwnG.put {W : World} {B p i : Nat} {E t : TypeId} {z v u : Value} {xs : List Value} {c : Array Value} (h : OwnG W B E z v xs) (hb : Blk W p c t) (ht : t ≠ E) : OwnG (W.setCell ⟨p, i, none⟩ u) B E z v xs := by
  rcases h with h | ⟨g, cap, cur, rfl, h1, h2, h3⟩
  · exact .inl h
  · refine .inr ⟨g, cap, cur, rfl, h1, h2.setOther _ _ fun e => ?_, h3⟩
    have e : g = p := e
    subst e
    have e2 := hb.of_cells.symm.trans h2.of_cells
    injection e2 with e2; injection e2 with _ e3
    exact ht e3
theorem dfaC_put0 (vh : Value) (f : Nat → Nat) (vn vy : Value) (dn : Int) (vl v : Value) : (dfaC vh f vn vy dn vl).setIfInBounds 0 v = dfaC v f vn vy dn vl := by
  unfold dfaC
  rw [Array.append_assoc, Array.append_assoc, Array.setIfInBounds_append_left (by simp)]
  rfl
theorem infoB8 : (Tryz.prog.info? 5).map (fun i => (i.zero, i.size, i.bytes)) = some (some (.int .u8 0), 1, 1) := by kernel_rfl

set_option maxHeartbeats 1000000 in
theorem stateless_any (r : RE) (b : Nat) (w : World) (h : ReAt w b r) (hl : (r.sts false).length ≤ 1099511627776) (hT : TabAt w) :
    Calls Tryz.prog 43 #[PT b] w fun e w' => ∃ p pl vh, e = .returned (PT p) ∧ pl.Perm (refL (r.sts false)) ∧ pl.Pairwise (fun x y => least x ≤ least y) ∧
      DfaIn w' w.heap.size p vh (.slice none 0 0) (.slice none 0 0) (pl.map least) (idxF pl pl.length) [] [] [] ∧ Below w.heap.size w w' := by
  have HT := hide hT
  have HS := hide (Sets_any r b w h hl)
  clear h hT
  unfold PT at HS
  unfold PT
  go_enter Tryz.func43, Tryz.ntmps43
  go_wp2_with fail
  refine HS.out.mono ?_
  rintro e w1 ⟨v1, rfl, ho, hb1⟩
  have HB1 := hide hb1
  have HR := hide (refine_big (r.sts false) v1 w1 (ho.row (by omega)) hl (HT.out.agree (Agree.of_all (K := fun _ => True) hb1) trivial))
  obtain ⟨a, c, rfl, -⟩ := ho.slice
  clear ho hb1 HS
  go_wp2_with fail
  refine HR.out.mono ?_
  rintro e w2 ⟨v2, pl, rfl, hperm, hsort, hrow, hb2⟩
  have hip := (isPart_ref (r.sts false)).perm hperm
  have hplen : pl.length ≤ 256 := parts_256 hip
  have HB2 := hide (HB1.out.trans (hb2.mono HB1.out.size))
  have HIP := hide hip
  have HPM := hide hperm
  have HPS := hide hsort
  have HROW := hide hrow
  have HI := hide (index_any pl v2 w2 hrow hplen (HT.out.agree (Agree.of_all (K := fun _ => True) HB2.out) trivial))
  obtain ⟨-, a2, c2, rfl, -⟩ := hrow
  clear hip hperm hsort hb2 HR HB1
  obtain ⟨f, hf⟩ : ∃ f, f = idxF pl pl.length := ⟨_, rfl⟩
  rw [← hf] at HI
  have HFE := hide hf
  clear hf
  go_wp2_with fail
  refine HI.out.mono ?_
  rintro e w3 ⟨rfl, hb3⟩
  have HB3 := hide (HB2.out.trans (hb3.mono HB2.out.size))
  have HROW3 := hide (HROW.out.below hb3)
  have hns := nArr_size f
  have hfd := fold_dfa f
  clear hb3 HI
  have hb4 := (Below.refl w3.heap.size w3).alloc (Nat.le_refl _) (.cells (dfaC (.slice none 0 0) f (.slice none 0 0) (.slice none 0 0) 0 (.slice none 0 0)) 83)
  have hblk := Blk.newAt (w := w3) rfl (dfaC (.slice none 0 0) f (.slice none 0 0) (.slice none 0 0) 0 (.slice none 0 0)) 83
  have HI0 : Hid (DfaIn (w3.alloc (.cells (dfaC (.slice none 0 0) f (.slice none 0 0) (.slice none 0 0) 0 (.slice none 0 0)) 83)) w3.heap.size w3.heap.size (.slice none 0 0) (.slice none 0 0) (.slice none 0 0) ((pl.take 0).map least) f [] [] []) :=
    ⟨hblk, Nat.le_refl _, .nil _ _ _ _, .nil _ _ _ _, .nil _ _ _ _, rfl, fun q hq => by simp at hq⟩
  have HB4 := hide hb4
  obtain ⟨p, hp⟩ : ∃ p, p = w3.heap.size := ⟨_, rfl⟩
  rw [← hp] at HI0 HB4
  have HP := hide hp
  clear hb4 hblk
  go_wp2
  rw [← hp]
  clear hfd hns hp
  generalize w3.alloc (.cells (dfaC (.slice none 0 0) f (.slice none 0 0) (.slice none 0 0) 0 (.slice none 0 0)) 83) = w4 at *
  go_loopw [18] (fun c wr => ∃ (k : Nat) (vh : Value), k ≤ pl.length ∧ c = .int .i64 k ∧ Hid (DfaIn wr p p vh (.slice none 0 0) (.slice none 0 0) ((pl.take k).map least) f [] [] []) ∧ Hid (Below p w3 wr)) (fun c _ => pl.length - (intOf c).toNat)
  case atStart => exact ⟨0, _, by omega, rfl, HI0, HB4⟩
  case round =>
    clear HI0 HB4
    obtain ⟨k, vh, hk, rfl, HI, HB⟩ := hrel
    by_cases hlt : k < pl.length
    · have hkd : decide (k < pl.length) = true := by simp [hlt]
      have hbp : Below w3.heap.size w3 wr := HP.out ▸ HB.out
      obtain ⟨-, a3, c3, e3, hc⟩ := HROW3.out.below hbp
      obtain ⟨bb, off, rfl, hbb, hcc⟩ := hc k hlt
      obtain ⟨s, hs⟩ : ∃ s, s = pl.getD k 0 := ⟨_, rfl⟩
      rw [← hs] at hcc
      have c0 := hcc 0 (by omega); have c1 := hcc 1 (by omega); have c2 := hcc 2 (by omega); have c3 := hcc 3 (by omega)
      rw [Nat.add_zero] at c0
      have HTK : Hid ((pl.take (k + 1)).map least = (pl.take k).map least ++ [least s]) := by
        show _ = _
        rw [List.take_succ_eq_append_getElem hlt, List.map_append, hs]
        simp [List.getD_eq_getElem?_getD, hlt]
      have HTL : Hid (TabAt wr) := HT.out.agree (Agree.of_all (K := fun _ => True) (HB3.out.trans (hbp.mono HB3.out.size))) trivial
      have hkl : ((pl.take k).map least).length = k := by simp; omega
      obtain ⟨hl0, hhl⟩ : ∃ l, l = (pl.take k).map least := ⟨_, rfl⟩
      rw [← hhl] at HI HTK hkl
      have HKL := hide hkl
      clear hc hcc hs hhl hkl hbp
      go_wp2_with fail
      have hb5 := (Below.refl wr.heap.size wr).alloc (Nat.le_refl _) (.cells (WS s) 89)
      refine (least_any s _ (HTL.out.agree (Agree.of_all (K := fun _ => True) hb5) trivial)).mono ?_
      rintro e w6 ⟨rfl, hb6⟩
      have hb56 : Below wr.heap.size wr w6 := hb5.trans (hb6.mono (by simp))
      have hI6 := HI.out.keep hb56
      have hpw : p ≤ wr.heap.size := Nat.le_of_lt HI.out.blk.lt
      have HB6 := hide (HB.out.trans (hb56.mono hpw))
      have hI7 := hI6.keep ((Below.refl w6.heap.size w6).alloc (Nat.le_refl _) (.cells #[.int .u8 (least s)] 5))
      have hbn := Blk.newAt (w := w6) rfl #[.int .u8 (least s)] 5
      obtain ⟨v', W', hr, ho, ha⟩ := run_appendG 38 5 38 (.int .u8 0) 1 Tryz.underlying38 infoB8 (by omega) rfl hI7.hd ⟨w6.heap.size, 0, none⟩ 1 [.int .u8 (least s)] (by simp)
        (World.news_of_block hbn) (fun y hy => by simp at hy; subst hy; rfl) (by simp [byteV, HKL.out]; omega) (by have := hI6.blk.lt; simp; omega)
      have hcp := hI6.blk.cell 0
      rw [dfaC_0] at hcp
      obtain ⟨a5, c5, rfl, -⟩ := hI7.hd.slice
      have hB7 := ha.blk hI7.blk (by decide)
      have hcw := hB7.cell 0
      have hfw := hB7.frozen 0
      rw [dfaC_0] at hcw
      rw [show leastV (bytesOf s) = .tuple #[.int .u8 (least s), .bool (!(bytesOf s).isEmpty)] from rfl]
      have HI8 : Hid (DfaIn (W'.setCell ⟨p, 0, none⟩ v') p p v' (.slice none 0 0) (.slice none 0 0) (hl0 ++ [least s]) f [] [] []) := by
        refine ⟨?_, Nat.le_refl _, ?_, .nil _ _ _ _, .nil _ _ _ _, rfl, fun q hq => by simp at hq⟩
        · rw [← dfaC_put0]; exact hB7.set 0 v'
        · have : byteV (hl0 ++ [least s]) = byteV hl0 ++ [.int .u8 (least s)] := by simp [byteV]
          rw [this]
          exact ho.put hB7 (by decide)
      have HB8 : Hid (Below p w3 (W'.setCell ⟨p, 0, none⟩ v')) := by
        refine ((HB6.out.alloc (by have := hI6.blk.lt; omega) _).trans ha.below).setCell (Nat.le_refl _) _
      obtain ⟨a9, c9, rfl, -⟩ := ho.slice
      clear hb5 hb6 hb56 hI6 hI7 hbn ho ha hB7 hpw c0 c1 c2 c3
      go_wp2_with (refine wpList_append_run rfl _ _ _ rfl _ _ _ rfl rfl hr ?_)
      have el : (byteV hl0 ++ [Value.int .u8 (least s)]).length = (byteV hl0).length + 1 := by simp
      rw [el] at HI8 HB8
      exact ⟨⟨k + 1, _, by omega, by simp, by rw [HTK.out]; exact HI8, HB8⟩, by simp [intOf]; omega⟩
    · obtain rfl : k = pl.length := by omega
      have hkd : decide (pl.length < pl.length) = false := by simp
      have hfin := HI.out
      rw [List.take_length] at hfin
      have hbp : Below w3.heap.size w3 wr := HP.out ▸ HB.out
      have HFI := hide (hfin.lower (show w.heap.size ≤ p from by rw [HP.out]; exact HB3.out.size))
      have HFB := hide (HB3.out.trans (hbp.mono HB3.out.size))
      clear hfin hlt hk hbp
      go_wp2
      go_ret
      refine ⟨p, pl, vh, rfl, HPM.out, HPS.out, ?_, HFB.out⟩
      rw [← HFE.out]; exact HFI.out
end Go.Proofs.YtjcfnmjjkadaeaaGreatDoor
/- The map of the states' keys, as a datum. -/
namespace Go.Proofs.YtjcfnmjjkadaeaaGreatDoor
set_option maxRecDepth 100000
set_option linter.unusedSimpArgs false
set_option linter.unusedVariables false
open Go.RowKit
open Go.Maps

def keyLit (x : RE) : Lit := .string (strB x.key).data.toList
def keysD (S : List RE) : DataW Unit := S.zipIdx.foldl (fun D q => D.put (keyLit q.1) (.lit (.int .i64 (q.2 : Nat)))) (.map [])
theorem keysD_snoc (S : List RE) (x : RE) : keysD (S ++ [x]) = (keysD S).put (keyLit x) (.lit (.int .i64 (S.length : Nat))) := by
  unfold keysD
  rw [List.zipIdx_append, List.foldl_append]
  simp
theorem keysD_isMap (S : List RE) : IsMap (keysD S) := by
  unfold keysD
  generalize S.zipIdx = l
  have key : ∀ (l : List (RE × Nat)) (D : DataW Unit), IsMap D → IsMap (l.foldl (fun D q => D.put (keyLit q.1) (.lit (.int .i64 (q.2 : Nat)))) D) := fun l => by
    induction l with
    | nil => intro D h; exact h
    | cons q l ih => intro D h; exact ih _ (h.put _ _)
  exact key l _ isMap_empty
theorem keyLit_ne {x y : RE} (hx : ∀ b ∈ x.key, b < 256) (hy : ∀ b ∈ y.key, b < 256) (h : x.key ≠ y.key) : keyLit x ≠ keyLit y := fun e => h (strB_inj hx hy (by
  unfold keyLit at e
  injection e with e
  have : (strB x.key).data = (strB y.key).data := Array.toList_inj.1 e
  cases hxs : strB x.key; cases hys : strB y.key
  rw [hxs, hys] at this
  simp at this
  rw [this]))
theorem keyLit_eq {x y : RE} (h : x.key = y.key) : keyLit x = keyLit y := by unfold keyLit; rw [h]
theorem isKey_string (l : List UInt8) : WideAt.IsKeyLit (.string l) := by first | trivial | simp [WideAt.IsKeyLit] | constructor
/-- What the map tells of an expression: whether it is there, and where. -/
theorem keys_tell (x : RE) (hx : ∀ b ∈ x.key, b < 256) : ∀ (n : Nat) (S : List RE), S.length = n → (∀ y ∈ S, ∀ b ∈ y.key, b < 256) → S.Pairwise (fun x y => x.key ≠ y.key) →
    Maps.has (keysD S) (keyLit x) = (posL x S).isSome ∧ ∀ q, posL x S = some q → ∀ z, (keysD S).atKey (keyLit x) z = .lit (.int .i64 (q : Nat))
  | 0, S, hn, hS, hp => by
    have : S = [] := List.eq_nil_of_length_eq_zero hn
    subst this
    exact ⟨rfl, fun q hq => by cases hq⟩
  | n + 1, S, hn, hS, hp => by
    obtain ⟨S', y, rfl⟩ : ∃ S' y, S = S' ++ [y] := ⟨S.dropLast, S.getLast (by intro e; rw [e] at hn; simp at hn), (List.dropLast_concat_getLast _).symm⟩
    have hp2 := List.pairwise_append.1 hp
    obtain ⟨h1, h2⟩ := keys_tell x hx n S' (by simpa using hn) (fun y hy => hS y (by simp [hy])) hp2.1
    rw [keysD_snoc]
    by_cases e : y.key = x.key
    · have hpos : posL x (S' ++ [y]) = some S'.length := posL_is hp (by simp) (by simp [e])
      rw [hpos, keyLit_eq e]
      refine ⟨has_put_same (keysD_isMap S') (isKey_string _) _, fun q hq z => ?_⟩
      injection hq with hq
      rw [← hq]
      exact atKey_put_same (keysD_isMap S') (isKey_string _) _ _
    · have hne : keyLit x ≠ keyLit y := keyLit_ne hx (hS y (by simp)) (fun e' => e e'.symm)
      have hpos : posL x (S' ++ [y]) = posL x S' := by
        unfold posL
        rw [List.findIdx?_append]
        cases hh : S'.findIdx? (fun y => decide (y.key = x.key)) with
        | some q => rfl
        | none => simp [e]
      rw [hpos, has_put_other hne]
      refine ⟨h1, fun q hq z => ?_⟩
      rw [atKey_put_other hne]
      exact h2 q hq z
end Go.Proofs.YtjcfnmjjkadaeaaGreatDoor
