/- Texts of this claim put together: TmN, TmO. -/
import Derived.Test.YtblpekljiilkjaaGreatDoorJoinTmM
import Derived.Maps.AppendAt
/- A term's parts, each ahead of its own: the law's list, and Walk. -/
namespace Go.Proofs.YtblpekljiilkjaaGreatDoor
set_option maxRecDepth 100000
set_option linter.unusedSimpArgs false
set_option linter.unusedVariables false
open Go.RowKit Go.Shelf

/-- The blocks of a term's parts, each ahead of its own. -/
inductive TmPre (w : World) : Nat → TM → List Nat → Prop where
  | mk (b o : Nat) (n t k : ByteArray) (r : Option RE) (ks : List TM) (a : Option Addr) (c : Nat) (qs : Nat → Nat) (pss : Nat → List Nat) (hlt : b < w.heap.size) (hl : ks.length ≤ 4611686018427387904) (h6 : w.cell? ⟨b, 6, none⟩ = some (.slice a ks.length c))
      (hc : ∀ i, i < ks.length → ∃ g f, a = some ⟨g, f, none⟩ ∧ g < w.heap.size ∧ w.cell? ⟨g, f + i, none⟩ = some (PT (qs i))) (hk : ∀ i x, ks[i]? = some x → TmPre w (qs i) x (pss i)) : TmPre w b (.mk o n t k r ks) (b :: ((List.range ks.length).map pss).flatten)
theorem TmPre.keep {w w' : World} {b : Nat} {t : TM} {ps : List Nat} (h : TmPre w b t ps) (hb : Below w.heap.size w w') : TmPre w' b t ps := by
  induction h with
  | mk b o n t k r ks a c qs pss hlt hl h6 hc hk ih =>
    refine .mk b o n t k r ks a c qs pss (Nat.lt_of_lt_of_le hlt hb.size) hl ((World.cell?_of_block (w := w) (hb.block b hlt)).trans h6) (fun i hi => ?_) ih
    obtain ⟨g, f, e, hg, hcc⟩ := hc i hi
    exact ⟨g, f, e, Nat.lt_of_lt_of_le hg hb.size, (World.cell?_of_block (w := w) (hb.block g hg)).trans hcc⟩
theorem flat_sz (ks : List TM) (pss : Nat → List Nat) (h : ∀ i x, ks[i]? = some x → (pss i).length = x.sz) : (((List.range ks.length).map pss).flatten).length = (ks.map TM.sz).sum := by
  rw [List.length_flatten]
  congr 1
  apply List.ext_getElem
  · simp
  · intro i h1 h2
    simp at h1 h2
    simp only [List.getElem_map, List.getElem_range]
    exact h i _ (List.getElem?_eq_getElem h2)
theorem pre_of {w : World} (t : TM) : ∀ b, TmAt w b t → ∃ ps, TmPre w b t ps ∧ ps.length = t.sz := by
  refine TM.ind (P := fun t => ∀ b, TmAt w b t → ∃ ps, TmPre w b t ps ∧ ps.length = t.sz) ?_ t
  intro o n t k r ks ih b h
  obtain ⟨rp, a, c, hS⟩ := h.see
  have key : ∀ i, ∃ (q : Nat) (l : List Nat), ∀ x, ks[i]? = some x → TmPre w q x l ∧ l.length = x.sz ∧ ∃ g f, a = some ⟨g, f, none⟩ ∧ g < w.heap.size ∧ w.cell? ⟨g, f + i, none⟩ = some (PT q) := fun i => by
    by_cases hi : i < ks.length
    · obtain ⟨g, f, p, e, hc, ht⟩ := hS.kid i hi
      obtain ⟨l, h1, h2⟩ := ih _ (List.getElem_mem hi) p ht
      have h0 := hc w (Below.refl _ _)
      refine ⟨p, l, fun x hx => ?_⟩
      rw [List.getElem?_eq_getElem hi] at hx
      cases hx
      exact ⟨h1, h2, g, f, e, World.block_lt_of_cell? _ _ h0, h0⟩
    · exact ⟨0, [], fun x hx => by rw [List.getElem?_eq_none (by omega)] at hx; cases hx⟩
  obtain ⟨qs, hq⟩ : ∃ qs : Nat → Nat, ∀ i, ∃ l : List Nat, ∀ x, ks[i]? = some x → TmPre w (qs i) x l ∧ l.length = x.sz ∧ ∃ g f, a = some ⟨g, f, none⟩ ∧ g < w.heap.size ∧ w.cell? ⟨g, f + i, none⟩ = some (PT (qs i)) := ⟨fun i => Classical.choose (key i), fun i => Classical.choose_spec (key i)⟩
  obtain ⟨pss, hp⟩ : ∃ pss : Nat → List Nat, ∀ i, ∀ x, ks[i]? = some x → TmPre w (qs i) x (pss i) ∧ (pss i).length = x.sz ∧ ∃ g f, a = some ⟨g, f, none⟩ ∧ g < w.heap.size ∧ w.cell? ⟨g, f + i, none⟩ = some (PT (qs i)) := ⟨fun i => Classical.choose (hq i), fun i => Classical.choose_spec (hq i)⟩
  refine ⟨_, .mk b o n t k r ks a c qs pss h.lt hS.row.at.1 (hS.c6 w (Below.refl _ _)) (fun i hi => (hp i _ (List.getElem?_eq_getElem hi)).2.2) (fun i x hx => (hp i x hx).1), ?_⟩
  rw [List.length_cons, flat_sz ks pss (fun i x hx => (hp i x hx).2.1), TM.sz_mk]
  omega
theorem TmPre.pos {w : World} {b : Nat} {t : TM} {ps : List Nat} (h : TmPre w b t ps) : 0 < ps.length := by cases h; simp

/-- A row of pointers of its own. -/
def PRow (W : World) (base : Nat) (v : Value) (ps : List Nat) : Prop := W.ownsRow base 26 1 v ps.length (ps.map PT)
theorem PRow.keep {W W' : World} {base : Nat} {v : Value} {ps : List Nat} (h : PRow W base v ps) (hb : Below W.heap.size W W') : PRow W' base v ps := own_below h hb
theorem PRow.at {W : World} {base : Nat} {v : Value} {ps : List Nat} (h : PRow W base v ps) (h0 : 0 < ps.length) : ∃ g cap, v = .slice (some ⟨g, 0, none⟩) ps.length cap ∧ base ≤ g ∧ g < W.heap.size ∧ ps.length ≤ cap ∧ ∀ j p, ps[j]? = some p → W.cell? ⟨g, j, none⟩ = some (PT p) := by
  rcases h.2 with ⟨-, hn⟩ | ⟨g, cap, cur, rfl, hb, hg, h1, h2, h3, h4⟩
  · omega
  · have hblk : Blk W g cur 26 := hg
    refine ⟨g, cap, rfl, hb, hblk.lt, h1, fun j p hp => ?_⟩
    have hj : j < ps.length := (List.getElem?_eq_some_iff.1 hp).1
    rw [hblk.cell]
    have e : (cur.toList.take (ps.length * 1))[j]? = some (PT p) := by rw [h4, List.getElem?_map, hp]; rfl
    rw [List.getElem?_take, if_pos (by omega)] at e
    simpa using e
/-- append of another row. -/
theorem run_appendP {W : World} {base : Nat} {v u : Value} {ps qs : List Nat} (ty : TypeId) (h : PRow W base v ps) (hu : ∃ g cap, u = .slice (some ⟨g, 0, none⟩) qs.length cap ∧ ∀ j p, qs[j]? = some p → W.cell? ⟨g, j, none⟩ = some (PT p)) (hl : ps.length + qs.length ≤ 100000) (hb : base ≤ W.heap.size) :
    ∃ v' W', (Builtin.append_ #[36, 36] ty #[v, u]).run Tryz.prog W = .ok v' W' ∧ PRow W' base v' (ps ++ qs) ∧ ∀ N w0, Below N w0 W → N ≤ base → N ≤ w0.heap.size → Below N w0 W' := by
  obtain ⟨g, cap, rfl, hc⟩ := hu
  obtain ⟨i, hi, hz0, hz1, hz2⟩ := info_parts infoTm
  obtain ⟨v', W', hr, ho, hg, -⟩ := run_append_own_at (P := Tryz.prog) W base 36 ty 26 i _ 1 8 Tryz.underlying36 hi hz0 hz1 hz2 rfl (by omega) v ps.length (ps.map PT) h ⟨g, 0, none⟩ qs.length cap (qs.map PT) (by simp)
    (fun j u hj => by
      rw [Go.WideShapes.add_plain, Nat.zero_add]
      rw [List.getElem?_map] at hj
      cases e : qs[j]? with
      | none => rw [e] at hj; cases hj
      | some p => rw [e] at hj; cases hj; exact hc j p e) (fun u hu => by
        obtain ⟨p, -, rfl⟩ := List.mem_map.1 hu
        rfl) (by unfold maxLen; omega) (by omega) hb
  refine ⟨v', W', hr, ?_, fun N w0 hB hN hN2 => ?_⟩
  · unfold PRow
    rw [List.length_append, List.map_append]
    exact ho
  · have h0 : W.ownsRow N 26 1 v ps.length (ps.map PT) := by
      rcases h with ⟨h1, h2⟩
      refine ⟨h1, ?_⟩
      rcases h2 with h2 | ⟨g', cap', cur', e, hb', h3⟩
      · exact .inl h2
      · exact .inr ⟨g', cap', cur', e, Nat.le_trans hN hb', h3⟩
    exact below_grown hB hg h0 hN2
/-- The first k kids' parts. -/
def fl (pss : Nat → List Nat) (k : Nat) : List Nat := ((List.range k).map pss).flatten
theorem fl_succ (pss : Nat → List Nat) (k : Nat) : fl pss (k + 1) = fl pss k ++ pss k := by
  unfold fl; rw [List.range_succ, List.map_append, List.flatten_append]; simp
theorem fl_le (pss : Nat → List Nat) {k n : Nat} (h : k ≤ n) : (fl pss k).length ≤ (fl pss n).length := by
  induction n with
  | zero => obtain rfl : k = 0 := by omega
            exact Nat.le_refl _
  | succ n ih =>
    by_cases e : k = n + 1
    · subst e; exact Nat.le_refl _
    · have := ih (by omega)
      rw [fl_succ, List.length_append]
      omega

set_option maxHeartbeats 4000000 in
theorem parts_pre (t : TM) : ∀ (b : Nat) (ps : List Nat) (w : World), TmPre w b t ps → ps.length ≤ 10000 →
    Calls Tryz.prog 22 #[PT b] w fun e w' => ∃ v, e = .returned v ∧ PRow w' w.heap.size v ps ∧ Below w.heap.size w w' := by
  refine TM.ind (P := fun t => ∀ (b : Nat) (ps : List Nat) (w : World), TmPre w b t ps → ps.length ≤ 10000 →
    Calls Tryz.prog 22 #[PT b] w fun e w' => ∃ v, e = .returned v ∧ PRow w' w.heap.size v ps ∧ Below w.heap.size w w') ?_ t
  intro o nm tx bk r ks ih b ps w h hl
  cases h with
  | mk _ _ _ _ _ _ _ a c qs pss hlt hkl h6 hc hk =>
    have HC := hide hc
    have HK := hide hk
    have HIH := hide ih
    rw [show ((List.range ks.length).map pss).flatten = fl pss ks.length from rfl] at hl ⊢
    have HL := hide hl
    obtain ⟨B, hB⟩ : ∃ B, B = w.heap.size := ⟨_, rfl⟩
    have hb1 := (Below.refl w.heap.size w).alloc (Nat.le_refl _) (.cells #[PT b] 26)
    have hrow : PRow (w.alloc (.cells #[PT b] 26)) w.heap.size (.slice (some ⟨w.heap.size, 0, none⟩) 1 1) [b] := ⟨rfl, .inr ⟨w.heap.size, 1, #[PT b], rfl, Nat.le_refl _, Blk.newAt rfl _ _, by simp, by unfold maxLen; simp, rfl, rfl⟩⟩
    have k6 := (World.cell?_of_block (w := w) (hb1.block b hlt)).trans h6
    rw [← hB] at hb1 hrow ⊢
    have HR := hide hrow
    have HB1 := hide hb1
    have HBE := hide hB
    clear hc hk ih hl hrow hb1
    have hbw : b < w.heap.size := hlt
    unfold PT at k6 HR HB1 ⊢
    go_enter Tryz.func22, Tryz.ntmps22
    clear hB
    go_wp2
    clear k6 h6
    rw [← HBE.out]
    go_loopw [3, 13] (fun q i wr => ∃ k : Nat, k ≤ ks.length ∧ i = .int .i64 k ∧ Hid (PRow wr B q (b :: fl pss k)) ∧ Hid (Below B w wr)) (fun _ i _ => ks.length - (intOf i).toNat)
    case atStart => exact ⟨0, by omega, rfl, HR.out, HB1.out⟩
    case round =>
      obtain ⟨k, hk1, rfl, HP, HB⟩ := hrel
      have hbB : B ≤ wr.heap.size := by rw [HBE.out]; exact HB.out.size
      obtain ⟨gq, cq, hq, hgb, -, -⟩ := HP.out.at (by simp)
      obtain ⟨M, hM⟩ : ∃ M, M = (b :: fl pss k).length := ⟨_, rfl⟩
      rw [← hM] at hq
      have HM := hide hM
      clear hM
      subst hq
      by_cases hlt2 : k < ks.length
      · have hkd : decide (k < ks.length) = true := by simp [hlt2]
        have HBW : Hid (Below w.heap.size w wr) := HBE.out ▸ HB.out
        obtain ⟨g, f, rfl, hg, hcc⟩ := HC.out k hlt2
        have cK := (World.cell?_of_block (w := w) (HBW.out.block g hg)).trans hcc
        have hle := fl_le pss (show k + 1 ≤ ks.length from hlt2)
        rw [fl_succ, List.length_append] at hle
        have hll := HL.out
        rw [List.length_cons] at hll
        have HREC := hide (HIH.out _ (List.getElem_mem hlt2) (qs k) (pss k) wr ((HK.out k _ (List.getElem?_eq_getElem hlt2)).keep HBW.out) (by omega))
        have hpl : (b :: fl pss k).length + (pss k).length ≤ 100000 := by simp; omega
        have hpp : 0 < (pss k).length := (HK.out k _ (List.getElem?_eq_getElem hlt2)).pos
        clear hcc hle hll
        unfold PT at HREC cK
        go_wp2_with fail
        refine HREC.out.mono ?_
        rintro e w2 ⟨v2, rfl, hv2, hb2⟩
        obtain ⟨g2, c2, rfl, hgg, -, -, hcell⟩ := hv2.at hpp
        have HP2 := hide (HP.out.keep hb2)
        have HB2 := hide (HB.out.trans (hb2.mono hbB))
        obtain ⟨v3, W3, hr3, hp3, hb3⟩ := run_appendP 36 HP2.out ⟨g2, c2, rfl, hcell⟩ hpl (Nat.le_trans hbB hb2.size)
        have HB3 := hide (hb3 B w HB2.out (Nat.le_refl _) (by rw [HBE.out]; exact Nat.le_refl _))
        obtain ⟨g3, c3, hq3, -⟩ := hp3.at (by simp)
        obtain ⟨M3, hM3⟩ : ∃ M3, M3 = (b :: fl pss k ++ pss k).length := ⟨_, rfl⟩
        rw [← hM3] at hq3
        subst hq3
        have HP3 := hide hp3
        obtain ⟨z, hz⟩ : ∃ z, z = (pss k).length := ⟨_, rfl⟩
        rw [← hz] at hr3
        try rw [← hz]
        clear hv2 hcell hb2 hp3 hb3 cK HREC hM3 hz hpl hpp
        go_wp2_with (refine wpList_append_run rfl _ _ _ rfl _ _ _ rfl rfl hr3 ?_)
        refine ⟨⟨k + 1, by omega, by go_num, ?_, HB3⟩, by simp [intOf]; omega⟩
        show PRow _ _ _ _
        rw [fl_succ]
        exact HP3.out
      · obtain rfl : k = ks.length := by omega
        go_wp2
        go_ret
        exact ⟨_, rfl, HP.out, HB.out⟩
end Go.Proofs.YtblpekljiilkjaaGreatDoor
/- Walk, with the law's own function. -/
namespace Go.Proofs.YtblpekljiilkjaaGreatDoor
set_option maxRecDepth 100000
set_option linter.unusedSimpArgs false
set_option linter.unusedVariables false
open Go.RowKit Go.Shelf

theorem ptrT_same (a : Addr) (w : World) : (binOp .eql 26 (.pointer (some a)) (.pointer (some a))).run Tryz.prog w = .ok (.bool true) w := by
  obtain ⟨j, hj⟩ : ∃ j, Tryz.prog.info? 38 = some j := Option.isSome_iff_exists.1 (by kernel_rfl)
  exact run_eql_ptr_same w a Tryz.underlying26 hj
/-- The boxes of the law's function: right br, count bn, all ba (a row at g), stop bs. -/
structure WkE (W0 : World) (all : List Nat) (st bs ba bn br g cap : Nat) : Prop where
  a : Blk W0 ba #[.slice (some ⟨g, 0, none⟩) all.length cap] 36
  s : Blk W0 bs #[.int .i64 st] 3
  lt : bs < bn ∧ ba < bn ∧ g < bn ∧ bn < br
  row : ∀ j p, all[j]? = some p → W0.cell? ⟨g, j, none⟩ = some (PT p)
/-- The count is k. -/
structure WkS (W0 : World) (bn br k : Nat) (W : World) : Prop where
  below : Below bn W0 W
  n : Blk W bn #[.int .i64 k] 3
  r : Blk W br #[.bool true] 4
abbrev wkF (bs ba bn br : Nat) : Value := .func (.func 23) #[] #[PT br, PT bn, PT ba, PT bs]
set_option maxHeartbeats 2000000 in
theorem walkF_any {W0 : World} {all : List Nat} {st bs ba bn br g cap : Nat} (hE : WkE W0 all st bs ba bn br g cap) (k q : Nat) (hk : all[k]? = some q) (hst : st ≤ 1000) (hk2 : k ≤ 10000) (W : World) (hS : WkS W0 bn br k W) :
    Calls Tryz.prog 23 #[PT q, PT br, PT bn, PT ba, PT bs] W fun e w' => e = .returned (.bool (decide (k + 1 < st))) ∧ WkS W0 bn br (k + 1) w' := by
  have hal := hS.n.lt
  obtain ⟨l1, l2, l3, l4⟩ := hE.lt
  have hkl : k < all.length := (List.getElem?_eq_some_iff.1 hk).1
  have xa := (hE.a.below hS.below l2).cell 0
  have xs := (hE.s.below hS.below l1).cell 0
  have xn := hS.n.cell 0
  have xr := hS.r.cell 0
  have fn := hS.n.frozen 0
  have fr := hS.r.frozen 0
  have xg : W.cell? ⟨g, k, none⟩ = some (PT q) := (World.cell?_of_block (w := W0) (hS.below.block g l3)).trans (hE.row k q hk)
  simp only [List.getElem?_toArray, List.getElem?_cons_zero] at xa xs xn xr
  have n1 : br ≠ bn := by omega
  have n2 : bn ≠ br := by omega
  have n3 : bs ≠ bn := by omega
  have n4 : bs ≠ br := by omega
  have n5 : bn ≠ bs := by omega
  have n6 : br ≠ bs := by omega
  have n7 : ba ≠ br := by omega
  have n8 : ba ≠ bn := by omega
  have hd1 : decide ((k : Int) < all.length) = true := by simp; omega
  have hd2 : decide (k < all.length) = true := by simp [hkl]
  have hd3 : decide ((k : Int) + 1 < st) = decide (k + 1 < st) := by simp; omega
  have HF : Hid (WkS W0 bn br (k + 1) ((W.setCell ⟨br, 0, none⟩ (.bool true)).setCell ⟨bn, 0, none⟩ (.int .i64 ((k + 1 : Nat) : Int)))) := by
    refine ⟨(hS.below.setCell (show bn ≤ br by omega) _).setCell (show bn ≤ bn from Nat.le_refl _) _, ?_, ?_⟩
    · exact (hS.n.setOther ⟨br, 0, none⟩ _ (show bn ≠ br from n2)).set 0 _
    · exact (hS.r.set 0 (.bool true)).setOther ⟨bn, 0, none⟩ _ (show br ≠ bn from n1)
  have hpe := fun w => ptrT_same ⟨q, 0, none⟩ w
  clear hS hE hk
  unfold PT at xg ⊢
  go_enter Tryz.func23, Tryz.ntmps23
  go_wp2
  go_ret
  refine ⟨rfl, ?_⟩
  have h := HF.out
  have e : ((k + 1 : Nat) : Int) = (k : Int) + 1 := by omega
  rw [e] at h
  exact h
/-- What a walk through so many parts comes to. -/
def WkRes (st k0 L : Nat) (whole : Bool) (n : Nat) : Prop := (k0 + L < st → whole = true ∧ n = k0 + L) ∧ (¬ k0 + L < st → whole = false ∧ n = max st (k0 + 1))
set_option maxHeartbeats 4000000 in
theorem walk_pre {Wt W0 : World} {all : List Nat} {st bs ba bn br g cap : Nat} (hE : WkE W0 all st bs ba bn br g cap) (hst : st ≤ 1000) (hTn : Wt.heap.size ≤ bn) (hTB : Below Wt.heap.size Wt W0) (t : TM) :
    ∀ (b : Nat) (ps : List Nat) (k0 : Nat), TmPre Wt b t ps → (∀ j p, ps[j]? = some p → all[k0 + j]? = some p) → (k0 = 0 ∨ k0 < st) → k0 + ps.length ≤ 10000 → ∀ W, WkS W0 bn br k0 W →
    Calls Tryz.prog 18 #[PT b, wkF bs ba bn br] W fun e w' => ∃ (whole : Bool) (n : Nat), e = .returned (.bool whole) ∧ WkRes st k0 ps.length whole n ∧ WkS W0 bn br n w' := by
  refine TM.ind (P := fun t => ∀ (b : Nat) (ps : List Nat) (k0 : Nat), TmPre Wt b t ps → (∀ j p, ps[j]? = some p → all[k0 + j]? = some p) → (k0 = 0 ∨ k0 < st) → k0 + ps.length ≤ 10000 → ∀ W, WkS W0 bn br k0 W →
    Calls Tryz.prog 18 #[PT b, wkF bs ba bn br] W fun e w' => ∃ (whole : Bool) (n : Nat), e = .returned (.bool whole) ∧ WkRes st k0 ps.length whole n ∧ WkS W0 bn br n w') ?_ t
  intro o nm tx bk r ks ih b ps k0 h hall hk0 hl W hS
  cases h with
  | mk _ _ _ _ _ _ _ a c qs pss hlt hkl h6 hc hk =>
    rw [show ((List.range ks.length).map pss).flatten = fl pss ks.length from rfl] at hl hall ⊢
    rw [List.length_cons] at hl ⊢
    have HC := hide hc
    have HK := hide hk
    have HIH := hide ih
    have HALL := hide hall
    have HLL := hide hl
    have HF := hide (walkF_any hE k0 b (by have := hall 0 b rfl; simpa using this) hst (by omega) W hS)
    have HT : Hid (∀ X, WkS W0 bn br k0 X ∨ Below bn W0 X → Below Wt.heap.size Wt X) := fun X hX => by
      rcases hX with hX | hX
      · exact hTB.trans (hX.below.mono hTn)
      · exact hTB.trans (hX.mono hTn)
    have HH6 := hide h6
    have HLT := hide hlt
    obtain ⟨L, hL⟩ : ∃ L, L = (fl pss ks.length).length := ⟨_, rfl⟩
    have HLE := hide hL
    rw [← hL] at hl HLL ⊢
    clear hc hk ih hall hS h6 hlt hL
    unfold wkF
    unfold PT at HF ⊢
    go_enter Tryz.func18, Tryz.ntmps18
    go_wp2_with fail
    refine HF.out.mono ?_
    rintro e w1 ⟨rfl, hS1⟩
    have HS1 := hide hS1
    clear hS1 HF
    by_cases h1 : k0 + 1 < st
    · have hd : decide (k0 + 1 < st) = true := by simp [h1]
      rw [hd]
      have x6 := (World.cell?_of_block (w := Wt) ((HT.out w1 (.inr HS1.out.below)).block b HLT.out)).trans HH6.out
      go_wp2
      clear x6 hd
      go_loopw [18] (fun i wr => ∃ k : Nat, k ≤ ks.length ∧ i = .int .i64 k ∧ k0 + 1 + (fl pss k).length < st ∧ Hid (WkS W0 bn br (k0 + 1 + (fl pss k).length) wr)) (fun i _ => ks.length - (intOf i).toNat)
      case atStart => exact ⟨0, by omega, rfl, h1, HS1.out⟩
      case round =>
        obtain ⟨k, hk1, rfl, hlst, HS⟩ := hrel
        by_cases hlt2 : k < ks.length
        · have hkd : decide (k < ks.length) = true := by simp [hlt2]
          obtain ⟨g', f', rfl, hg, hcc⟩ := HC.out k hlt2
          have cK := (World.cell?_of_block (w := Wt) ((HT.out wr (.inr HS.out.below)).block g' hg)).trans hcc
          have hle := fl_le pss (show k + 1 ≤ ks.length from hlt2)
          have HSU := hide (fl_succ pss k)
          rw [fl_succ, List.length_append, ← HLE.out] at hle
          have hk2 := HK.out k _ (List.getElem?_eq_getElem hlt2)
          have hpos := hk2.pos
          have hmatch : ∀ j p, (pss k)[j]? = some p → all[k0 + 1 + (fl pss k).length + j]? = some p := fun j p hp => by
            have h := HALL.out (1 + (fl pss k).length + j) p (by
              rw [show 1 + (fl pss k).length + j = ((fl pss k).length + j) + 1 from by omega, List.getElem?_cons_succ]
              have hpre : ∃ tl, fl pss ks.length = fl pss (k + 1) ++ tl := by
                obtain ⟨d, hd⟩ : ∃ d, ks.length = k + 1 + d := ⟨ks.length - (k + 1), by omega⟩
                rw [hd]
                clear hd
                induction d with
                | zero => exact ⟨[], by simp⟩
                | succ d ihd => obtain ⟨tl, htl⟩ := ihd; exact ⟨tl ++ pss (k + 1 + d), by rw [← Nat.add_assoc, fl_succ, htl, List.append_assoc]⟩
              obtain ⟨tl, htl⟩ := hpre
              rw [htl, fl_succ, List.append_assoc, List.getElem?_append_right (by omega), List.getElem?_append_left (by have := (List.getElem?_eq_some_iff.1 hp).1; omega)]
              rw [show (fl pss k).length + j - (fl pss k).length = j from by omega]
              exact hp)
            rw [show k0 + 1 + (fl pss k).length + j = k0 + (1 + (fl pss k).length + j) from by omega]
            exact h
          have HREC := hide (HIH.out _ (List.getElem_mem hlt2) (qs k) (pss k) (k0 + 1 + (fl pss k).length) hk2 hmatch (.inr hlst) (by omega) wr HS.out)
          clear hcc hk2 hmatch
          unfold wkF at HREC
          unfold PT at HREC cK
          go_wp2_with fail
          refine HREC.out.mono ?_
          rintro e w2 ⟨whole, n, rfl, hres, hS2⟩
          obtain ⟨hr1, hr2⟩ := hres
          have HS2 := hide hS2
          clear hS2 cK HREC
          by_cases hc2 : k0 + 1 + (fl pss k).length + (pss k).length < st
          · obtain ⟨rfl, rfl⟩ := hr1 hc2
            clear hr1 hr2
            go_wp2
            refine ⟨⟨k + 1, by omega, by go_num, ?_, ?_⟩, by simp [intOf]; omega⟩
            · rw [HSU.out, List.length_append]; omega
            · show WkS _ _ _ _ _
              rw [HSU.out, List.length_append, ← Nat.add_assoc]
              exact HS2.out
          · obtain ⟨rfl, hn⟩ := hr2 hc2
            have HN := hide hn
            clear hr1 hr2 hn
            go_wp2
            go_ret
            refine ⟨false, n, rfl, ⟨fun hx => by omega, fun _ => ⟨rfl, ?_⟩⟩, HS2.out⟩
            rw [HN.out]
            omega
        · obtain rfl : k = ks.length := by omega
          go_wp2
          go_ret
          have hLL := HLE.out
          refine ⟨true, k0 + 1 + (fl pss ks.length).length, rfl, ⟨fun _ => ⟨rfl, by omega⟩, fun hx => by omega⟩, HS.out⟩
    · have hd : decide (k0 + 1 < st) = false := by simp; omega
      rw [hd]
      go_wp2
      go_ret
      exact ⟨false, k0 + 1, rfl, ⟨fun hx => by omega, fun _ => ⟨rfl, by omega⟩⟩, HS1.out⟩
theorem walk_nil (F : Value) (w : World) (hF : F = .func (.func 24) #[] #[]) : Calls Tryz.prog 18 #[.pointer none, F] w fun e w' => e = .returned (.bool true) ∧ Below w.heap.size w w' := by
  subst hF
  have HB := hide (Below.refl w.heap.size w)
  go_enter Tryz.func18, Tryz.ntmps18
  go_wp2
  go_ret
  exact ⟨rfl, HB.out⟩
end Go.Proofs.YtblpekljiilkjaaGreatDoor
