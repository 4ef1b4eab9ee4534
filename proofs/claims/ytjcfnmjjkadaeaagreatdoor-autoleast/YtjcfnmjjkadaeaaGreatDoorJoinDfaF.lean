/- Texts of this claim put together: DfaF. -/
import Derived.Test.YtjcfnmjjkadaeaaGreatDoorJoinMathRow
/- row: where the heads lead to from a state. -/
namespace Go.Proofs.YtjcfnmjjkadaeaaGreatDoor
set_option maxRecDepth 100000
set_option linter.unusedSimpArgs false
set_option linter.unusedVariables false
open Go.RowKit

theorem wpList_skipped {w w' : World} {ops : Array Oper} {rest : List Oper} {o : Oper} {a : Act} {Q : Exit → Act → World → Prop} (hg : o.guard = none)
    (hrun : (execOp a.eval o).run Tryz.prog w = .ok .skip w') (hK : wpList Tryz.prog ops Q rest (a.put o.dst undef) w') : wpList Tryz.prog ops Q (o :: rest) a w := by
  refine wpList_plain hg fun K hK' => ?_
  unfold Oper.wp
  simp only [hrun, Result.andThen_ok]
  exact hK' _ _ hK
theorem blk_setCells {b : Nat} {t : TypeId} : ∀ (vs : List Value) (o : Nat) (w : World) (c : Array Value), Blk w b c t → o + vs.length ≤ c.size →
    ∃ c', Blk (w.setCells b o vs) b c' t ∧ c'.size = c.size ∧ ∀ j, c'[j]? = if o ≤ j ∧ j < o + vs.length then vs[j - o]? else c[j]?
  | [], o, w, c, h, hl => ⟨c, h, rfl, fun j => by rw [if_neg (by simp)]⟩
  | v :: vs, o, w, c, h, hl => by
    simp only [List.length_cons] at hl
    obtain ⟨c', h1, h2, h3⟩ := blk_setCells vs (o + 1) _ _ (h.set o v) (by simp; omega)
    refine ⟨c', h1, by simpa using h2, fun j => ?_⟩
    rw [h3 j]
    simp only [List.length_cons]
    by_cases e : j = o
    · subst e
      rw [if_neg (by omega), if_pos (by omega), Array.getElem?_setIfInBounds_self_of_lt (by omega)]; simp
    · by_cases hj : o + 1 ≤ j ∧ j < o + 1 + vs.length
      · rw [if_pos hj, if_pos (by omega), show j - o = (j - (o + 1)) + 1 from by omega, List.getElem?_cons_succ]
      · rw [if_neg hj, if_neg (by omega), Array.getElem?_setIfInBounds_ne (fun h => e h.symm)]
theorem blk_all {b : Nat} {t : TypeId} {w : World} {c d : Array Value} (h : Blk w b c t) (hd : d.size = c.size) : Blk (w.setCells b 0 d.toList) b d t := by
  obtain ⟨c', h1, h2, h3⟩ := blk_setCells d.toList 0 w c h (by simp; omega)
  have e : c' = d := by
    apply Array.ext_getElem?
    intro j
    rw [h3 j]
    by_cases hj : j < d.size
    · rw [if_pos (by simp; exact hj)]; simp
    · rw [if_neg (by simp; omega), Array.getElem?_eq_none (by omega), Array.getElem?_eq_none (by omega)]
  subst e; exact h1

/-- A row of ints in a block of its own. -/
def IRow (W : World) (b : Nat) (l : List Int) : Prop := Blk W b (l.map (Value.int .i64)).toArray 3
theorem IRow.cell {W : World} {b : Nat} {l : List Int} (h : IRow W b l) {i : Nat} (hi : i < l.length) : W.cell? ⟨b, i, none⟩ = some (.int .i64 (l.getD i 0)) := by
  rw [Blk.cell h]
  simp [List.getD_eq_getElem?_getD, hi]
theorem IRow.set {W : World} {b : Nat} {l : List Int} (h : IRow W b l) (i : Nat) (x : Int) : IRow (W.setCell ⟨b, i, none⟩ (.int .i64 x)) b (l.set i x) := by
  have := Blk.set h i (.int .i64 x)
  unfold IRow
  rw [List.map_set]
  simpa using this
theorem IRow.other {W : World} {b b' i : Nat} {l : List Int} {u : Value} (h : IRow W b l) (hb : b ≠ b') : IRow (W.setCell ⟨b', i, none⟩ u) b l := Blk.setOther h _ _ hb
theorem infoI : (Tryz.prog.info? 3).map (fun i => (i.zero, i.size, i.bytes)) = some (some (.int .i64 0), 1, 8) := by kernel_rfl
theorem IRow.made {w w1 : World} {B n : Nat} (hB : B = w.heap.size) (ho : w1.ownsRow B 3 1 (.slice (some ⟨w.heap.size, 0, none⟩) n n) n (madeCells (Value.int .i64 0).cells (n * 1)).toList) : IRow w1 w.heap.size (List.replicate n 0) := by
  rcases ho.2 with ⟨e, -⟩ | ⟨g', cap, cur, e, h1, h2, h3, h4, h5, h6⟩
  · cases e
  · injection e with e1 e2 e3
    injection e1 with e1
    injection e1 with e1
    subst e1 e3
    have : cur.toList.take (n * 1) = cur.toList := List.take_of_length_le (by rw [Array.length_toList]; omega)
    rw [this, show (Value.int .i64 0).cells = #[.int .i64 0] from rfl, toList_madeCells_one] at h6
    unfold IRow
    have e2 : cur = ((List.replicate n (0 : Int)).map (Value.int .i64)).toArray := by
      apply Array.toList_inj.1
      rw [h6]; simp
    rw [← e2]; exact h2

/-- What is told of a row while it is made. -/
structure RowW (W wr : World) (B cb cm cs bud mb : Nat) (g t0 : Int) (x : RE) (pl : List (BitVec 256)) (hs : List Nat) (ix : Nat → Nat) (s : Bs) (k : Nat) (ps : List Value) (AB EB RB : Nat) (j : Nat) (s1 : Bs) (acc : List Nat) (vs' : Value) (l : List Value) (ends : List Int) : Prop where
  find : FindAt wr B cb cm cs bud mb g t0 s1 k vs' (ps ++ l)
  ok : BsOk g s1
  le : BsLe s s1
  left : Left W wr B bud
  idx : Blk wr AB (nArr ix) 69
  enr : IRow wr EB ends
  row : IRow wr RB (acc.map (fun n : Nat => (n : Int)) ++ List.replicate (hs.length - j) 0)
  ce : CE x pl s1.S ends
  len : acc.length = j
  eq : rowA g x hs s [] = rowA g x (hs.drop j) s1 acc
theorem int_pt {l : List Int} (i p : Nat) : (l.map (Value.int .i64)).toArray[i]? ≠ some (PT p) := by
  intro h
  simp [PT] at h
theorem FindAt.putI {W : World} {B cb cm cs bud mb b i : Nat} {g t0 : Int} {s : Bs} {k : Nat} {vs u : Value} {ps : List Value} {l : List Int} (h : FindAt W B cb cm cs bud mb g t0 s k vs ps) (hd : IRow W b l) : FindAt (W.setCell ⟨b, i, none⟩ u) B cb cm cs bud mb g t0 s k vs ps :=
  h.put hd (by decide) (by decide) (by decide) (by decide) (by decide) (by decide) (int_pt i)
theorem row_set (acc : List Nat) (n j q : Nat) (hj : acc.length = j) (hn : j < n) : (acc.map (fun n : Nat => (n : Int)) ++ List.replicate (n - j) (0 : Int)).set j (q : Int) = (acc ++ [q]).map (fun n : Nat => (n : Int)) ++ List.replicate (n - (j + 1)) 0 := by
  rw [List.set_append_right _ _ (by simp; omega)]
  have e : j - (acc.map (fun n : Nat => (n : Int))).length = 0 := by simp; omega
  rw [e, show n - j = (n - (j + 1)) + 1 from by omega, List.replicate_succ, List.set_cons_zero]
  simp
/-- One head more. -/
theorem RowW.step {W wr w' : World} {B cb cm cs bud mb : Nat} {g t0 : Int} {x : RE} {pl : List (BitVec 256)} {hs : List Nat} {ix : Nat → Nat} {s : Bs} {k : Nat} {ps : List Value} {AB EB RB : Nat} {j : Nat} {s1 : Bs} {acc : List Nat} {vs' : Value} {l : List Value} {ends : List Int}
    (h : RowW W wr B cb cm cs bud mb g t0 x pl hs ix s k ps AB EB RB j s1 acc vs' l ends) (hj : j < hs.length) (hx : Wf x) {s2 : Bs} {q2 : Nat} {vs2 : Value} {l2 : List Value} {ends' : List Int} (hf : fnd g s1 (rBy (hs.getD j 0) x) = (s2, some q2))
    (hF : FindAt w' B cb cm cs bud mb g t0 s2 k vs2 (ps ++ l2)) (hL : Left W w' B bud) (hi : Blk w' AB (nArr ix) 69) (he : IRow w' EB ends') (hr : IRow w' RB (acc.map (fun n : Nat => (n : Int)) ++ List.replicate (hs.length - j) 0))
    (hce : CE x pl s2.S ends') (hB : B ≤ W.heap.size) (hRB : W.heap.size ≤ RB) (hER : EB ≠ RB) : RowW W (w'.setCell ⟨RB, j, none⟩ (.int .i64 (q2 : Nat))) B cb cm cs bud mb g t0 x pl hs ix s k ps AB EB RB (j + 1) s2 (acc ++ [q2]) vs2 l2 ends' := by
  obtain ⟨k1, k2, -⟩ := fnd_ok h.ok (wf_by _ hx) hf
  refine ⟨hF.putI hr, k1, h.le.trans k2, hL.new hB hRB, hi.setOther _ _ (hi.ne hr (by decide)), he.other hER, ?_, hce, by simp [h.len], ?_⟩
  · rw [← row_set acc hs.length j q2 h.len hj]
    exact hr.set j q2
  · rw [h.eq, rowA_drop hj, hf]

set_option maxHeartbeats 2000000 in
theorem row_any (W : World) (B cb cm cs bud mb : Nat) (g t0 : Int) (h0 : 0 ≤ t0) (s : Bs) (k : Nat) (vs : Value) (ps : List Value) (h : FindAt W B cb cm cs bud mb g t0 s k vs ps) (hok : BsOk g s) (hg : g < 1000000)
    (q xp : Nat) (x : RE) (hkq : k ≤ q) (hq : s.S[q]? = some x) (hpq : ps[q]? = some (PT xp)) (hT : TabAt W) (hB : B ≤ W.heap.size) (hGB : 0 < B)
    (dp base : Nat) (vh vn vy : Value) (hs : List Nat) (f : Nat → Nat) (vr : List Value) (rows : List (List Nat)) (ys : List Bool) (hd : DfaIn W base dp vh vn vy hs f vr rows ys) (h256 : ∀ b ∈ hs, b < 256) (hl256 : hs.length ≤ 256) :
    Calls Tryz.prog 44 #[PT dp, PT xp, .func (.func 38) #[] #[PT cb, PT cm, PT cs]] W fun e W' =>
      ∃ (v : Value) (vs' : Value) (l : List Value), e = .returned (.tuple #[v, .int .i64 (errI (rowA g x hs s []).2.isSome)]) ∧ FindAt W' B cb cm cs bud mb g t0 (rowA g x hs s []).1 k vs' (ps ++ l) ∧ Left W W' B bud ∧
        ∀ row, (rowA g x hs s []).2 = some row → OwnG W' W.heap.size 3 (.int .i64 0) v (intV row) := by
  obtain ⟨ii, hi, hz0, hz1, hz2⟩ := info_parts infoI
  have hxm : x ∈ s.S := List.mem_of_getElem? hq
  have hxw := hok.wf x hxm
  have hxs := hok.low x hxm
  have hcnt : x.cnt ≤ 20000 := by have := size_minD x; omega
  have hre : @ReAt (forbOf vs) W xp x := by
    obtain ⟨p, h1, h2⟩ := h.elem q x hkq hq
    rw [hpq] at h1
    have e : xp = p := by simpa [PT] using h1
    rw [e]; exact h2
  have HP := hide (@Parts_any (forbOf vs) x xp W hre (by have := sts_le true x; omega) hT)
  have H := hide h
  have HOK := hide hok
  have HT := hide hT
  have HD := hide hd
  have HXW := hide hxw
  have HQ := hide hq
  have HPQ := hide hpq
  have H256 := hide h256
  have HCNT := hide hcnt
  clear h hok hT hd hre hxm hxw hxs hq hpq h256 hcnt
  unfold PT at HP
  unfold PT
  go_enter Tryz.func44, Tryz.ntmps44
  go_wp2_with fail
  refine HP.out.mono ?_
  rintro e w1 ⟨pv, pl, rfl, hperm, hsort, hrow, hb1⟩
  have hip := (isPart_ref (x.sts true)).perm hperm
  have hplen : pl.length ≤ 256 := parts_256 hip
  have HIP := hide hip
  have HB1 := hide hb1
  have HI := hide (index_any pl pv w1 hrow hplen (HT.out.agree (Agree.of_all (K := fun _ => True) hb1) trivial))
  obtain ⟨-, a2, c2, rfl, -⟩ := hrow
  clear hip hperm hsort hb1 HP
  obtain ⟨ix, hix⟩ : ∃ ix, ix = idxF pl pl.length := ⟨_, rfl⟩
  have HIX := hide (show ∀ b, b < 256 → ix b < pl.length ∧ (pl.getD (ix b) 0).getLsbD b = true from fun b hb => by rw [hix]; exact idx_part HIP.out hb)
  rw [← hix] at HI
  clear hix
  go_wp2_with fail
  refine HI.out.mono ?_
  rintro e w2 ⟨rfl, hb2⟩
  have HB2 := hide (HB1.out.trans (hb2.mono HB1.out.size))
  clear hb2 HI HB1
  have hz := zeroN
  have hW3 : Blk ((w2.alloc (.cells (nArr fun _ => 0) 69)).setCells w2.heap.size 0 (nArr ix).toList) w2.heap.size (nArr ix) 69 := blk_all (Blk.newAt rfl _ _) (by simp [nArr_size])
  have hb3 : Below w2.heap.size w2 ((w2.alloc (.cells (nArr fun _ => 0) 69)).setCells w2.heap.size 0 (nArr ix).toList) := below_setCells _ (Nat.le_refl _) _ _ ((Below.refl _ _).alloc (Nat.le_refl _) _)
  have hth : (w2.alloc (.cells (nArr fun _ => 0) 69)).there w2.heap.size 0 256 := by have := (Blk.newAt (w := w2) rfl (nArr fun _ => 0) 69).there; rwa [nArr_size] at this
  go_wp2_with (first
    | (refine wpList_skipped rfl (x_storeN _ _ _ _ _ _ _ _ w2.heap.size _ rfl rfl _ hth) ?_; generalize (w2.alloc (.cells (nArr fun _ => 0) 69)).setCells w2.heap.size 0 (nArr ix).toList = W3 at hW3 hb3 ⊢; clear hth hz)
    | (refine wpList_make_full _ rfl _ _ _ rfl W3.heap.size _ ii _ 1 Tryz.underlying36 hi hz0 hz1 .i64 .i64 _ _ pl.length rfl rfl rfl rfl (by rw [hz2]; omega) (by unfold maxLen; omega) (Nat.le_refl _) ?_; intro w4 ho4 hg4))
  have hE0 : IRow w4 W3.heap.size (List.replicate pl.length 0) := IRow.made rfl ho4
  have hb4 : Below W3.heap.size W3 w4 := grown_none hg4
  obtain ⟨AB, hAB⟩ : ∃ AB, AB = w2.heap.size := ⟨_, rfl⟩
  obtain ⟨EB, hEB⟩ : ∃ EB, EB = W3.heap.size := ⟨_, rfl⟩
  rw [← hAB, ← hEB]
  have HA4 : Hid (Blk w4 AB (nArr ix) 69) := hAB ▸ hW3.below hb4 hW3.lt
  have HB4 := hide (HB2.out.trans ((hb3.trans (hb4.mono hb3.size)).mono HB2.out.size))
  have hAEB : w1.heap.size ≤ w1.heap.size := Nat.le_refl _
  have hWE : W.heap.size ≤ EB := by rw [hEB]; exact Nat.le_trans HB2.out.size hb3.size
  have hAE : AB < EB := by rw [hAB, hEB]; exact hW3.lt
  rw [← hEB] at hE0
  clear hW3 hb3 ho4 hg4 hb4 hAB hAEB HB2 hEB
  have h1632 := HB4.out.size
  go_loopw [27] (fun c wr => ∃ j : Nat, j ≤ pl.length ∧ c = .int .i64 j ∧ Hid (IRow wr EB (List.replicate j (-1) ++ List.replicate (pl.length - j) 0)) ∧ Hid (Below EB w4 wr)) (fun c _ => pl.length - (intOf c).toNat)
  case atStart => exact ⟨0, by omega, rfl, (show IRow _ _ _ by simpa using hE0), Below.refl _ _⟩
  case round =>
    clear hE0
    obtain ⟨j, hj, rfl, HE, HB⟩ := hrel
    by_cases hlt : j < pl.length
    · have hkd : decide (j < pl.length) = true := by simp [hlt]
      have hjI : (0 : Int) ≤ j ∧ (j : Int) < pl.length := by omega
      have c0 := HE.out.cell (i := j) (by simp; omega)
      have f0 := Blk.frozen HE.out j
      generalize (List.replicate j (-1 : Int) ++ List.replicate (pl.length - j) 0).getD j 0 = old at c0
      have HS := hide (HE.out.set j (-1))
      have HBS := hide (HB.out.setCell (p := ⟨EB, j, none⟩) (Nat.le_refl _) (.int .i64 (-1)))
      go_wp2
      refine ⟨⟨j + 1, by omega, by go_num, ?_, HBS.out⟩, by simp [intOf]; omega⟩
      show IRow _ _ _
      have e : (List.replicate j (-1 : Int) ++ List.replicate (pl.length - j) 0).set j (-1) = List.replicate (j + 1) (-1) ++ List.replicate (pl.length - (j + 1)) 0 := by
        rw [List.set_append_right _ _ (by simp), List.length_replicate, Nat.sub_self, show pl.length - j = (pl.length - (j + 1)) + 1 from by omega, List.replicate_succ, List.set_cons_zero, List.replicate_succ']
        simp
      rw [← e]; exact HS.out
    · obtain rfl : j = pl.length := by omega
      have hkd : decide (pl.length < pl.length) = false := by simp
      have hE1 := HE.out
      rw [Nat.sub_self, List.replicate_zero, List.append_nil] at hE1
      have HE1 := hide hE1
      have HBW : Hid (Below W.heap.size W wr) := HB4.out.trans (HB.out.mono hWE)
      have HA := hide (HA4.out.below HB.out hAE)
      have hdw := HD.out.keep HBW.out
      have hcp := hdw.blk.cell 0
      rw [dfaC_0] at hcp
      obtain ⟨ah, ch, hvh, -⟩ := hdw.hd.slice
      rw [show (byteV hs).length = hs.length from by simp [byteV]] at hvh
      subst hvh
      have hEW : EB < wr.heap.size := HE1.out.lt
      clear hE1 hdw HE hj
      go_wp2_with (refine wpList_make_full _ rfl _ _ _ rfl wr.heap.size _ ii _ 1 Tryz.underlying36 hi hz0 hz1 .i64 .i64 _ _ hs.length rfl rfl rfl rfl (by rw [hz2]; omega) (by unfold maxLen; omega) (Nat.le_refl _) ?_; intro w5 ho5 hg5; have hcp5 : w5.cell? ⟨dp, 0, none⟩ = some (.slice ah hs.length ch) := by (rw [← hcp]; exact World.cell?_of_block (w := wr) ((grown_none hg5).block dp (HD.out.keep HBW.out).blk.lt)))
      have hR0 : IRow w5 wr.heap.size (List.replicate hs.length 0) := IRow.made rfl ho5
      have hb5 : Below wr.heap.size wr w5 := grown_none hg5
      obtain ⟨RB, hRB⟩ : ∃ RB, RB = wr.heap.size := ⟨_, rfl⟩
      rw [← hRB]
      rw [← hRB] at hR0
      have hER : EB ≠ RB := by omega
      have hWR : W.heap.size ≤ RB := by omega
      have hbW5 : Below W.heap.size W w5 := HBW.out.trans (hb5.mono HBW.out.size)
      have hRW0 : RowW W w5 B cb cm cs bud mb g t0 x pl hs ix s k ps AB EB RB 0 s [] vs [] (List.replicate pl.length (-1)) :=
        ⟨by rw [List.append_nil]; exact H.out.keep hbW5, HOK.out, .refl s, .of hbW5 hB, HA.out.below hb5 (by omega), Blk.below HE1.out hb5 hEW, by simpa using hR0, .start x pl s.S, rfl, rfl⟩
      have hRBk : RB < w5.heap.size := hR0.lt
      clear hcp ho5 hg5 hb5 hR0 HBW HA HE1 hRB hEW
      go_loopw [45] (fun c wr => ∃ (j : Nat) (s1 : Bs) (acc : List Nat) (vs' : Value) (l : List Value) (ends : List Int), j ≤ hs.length ∧ c = .int .i64 j ∧ Hid (RowW W wr B cb cm cs bud mb g t0 x pl hs ix s k ps AB EB RB j s1 acc vs' l ends)) (fun c _ => hs.length - (intOf c).toNat)
      case atStart => exact ⟨0, s, [], vs, [], _, by omega, rfl, hRW0⟩
      case round =>
        clear hRW0 hcp5 HB4
        obtain ⟨j, s1, acc, vs1, l, ends, hj, rfl, HR⟩ := hrel
        by_cases hlt2 : j < hs.length
        · have hkd2 : decide (j < hs.length) = true := by simp [hlt2]
          have RW := HR.out
          have hBwr : B ≤ wr.heap.size := Nat.le_trans hB RW.left.size
          have hbj : (byteV hs)[j]? = some (.int .u8 (hs.getD j 0 : Nat)) := by simp [byteV, List.getD_eq_getElem?_getD, hlt2]
          obtain ⟨g1, cap1, e1, -, -, cHd⟩ := (RW.left.dfa HD.out).hd.cell hbj
          obtain ⟨rfl, -⟩ : ah = some ⟨g1, 0, none⟩ ∧ True := by injection e1 with x1 x2 x3; exact ⟨x1, trivial⟩
          have hbb : hs.getD j 0 < 256 := H256.out _ (by simp [List.getD_eq_getElem?_getD, hlt2])
          obtain ⟨hb, hhb⟩ : ∃ b, b = hs.getD j 0 := ⟨_, rfl⟩
          rw [← hhb] at cHd hbb
          obtain ⟨hip, hipb⟩ := HIX.out hb hbb
          have cIx := RW.idx.cell hb
          rw [nArr_get ix hb hbb] at cIx
          obtain ⟨m, hm⟩ : ∃ m, m = ix hb := ⟨_, rfl⟩
          rw [← hm] at hip hipb cIx
          have cEn := RW.enr.cell (i := m) (by rw [RW.ce.len]; exact hip)
          have cRw := RW.row.cell (i := j) (by simp [RW.len]; omega)
          have fRw := Blk.frozen RW.row j
          have hTW := RW.left.tab H.out.bud hGB HT.out
          have hxq : s1.S[q]? = some x := by
            obtain ⟨l', e⟩ := RW.le.S
            rw [e, List.getElem?_append_left (List.getElem?_eq_some_iff.1 HQ.out).1]; exact HQ.out
          have hre : @ReAt (forbOf vs1) wr xp x := by
            obtain ⟨p', h1, h2⟩ := RW.find.elem q x hkq hxq
            rw [List.getElem?_append_left (List.getElem?_eq_some_iff.1 HPQ.out).1, HPQ.out] at h1
            have e : xp = p' := by simpa [PT] using h1
            rw [e]; exact h2
          have HHB := hide hhb
          have HIPB := hide hipb
          have hbi : (0 : Int) ≤ hb ∧ (hb : Int) < 256 := by omega
          have hmi : (0 : Int) ≤ m ∧ (m : Int) < pl.length := by omega
          have hji : (0 : Int) ≤ j ∧ (j : Int) < hs.length := by omega
          obtain ⟨en, hen⟩ : ∃ en, en = ends.getD m 0 := ⟨_, rfl⟩
          rw [← hen] at cEn
          have HEN := hide hen
          generalize (acc.map (fun n : Nat => (n : Int)) ++ List.replicate (hs.length - j) (0 : Int)).getD j 0 = old at cRw
          clear hbj e1 hhb hipb hm hxq hen
          by_cases hneg : en < 0
          · have hnd : decide (en < 0) = true := decide_eq_true hneg
            clear hneg
            have HBY := hide (@By_any (forbOf vs1) hb hbb x xp wr HXW.out (fits_cnt hb x HXW.out (by have := HCNT.out; omega)) hre hTW)
            unfold PT at HBY
            cases hf : fnd g s1 (rBy hb x) with
            | mk s2 o =>
              have HF := hide hf
              clear hf hre RW
              cases o with
              | none =>
                go_wp2_with fail
                refine HBY.out.mono ?_
                rintro e w6 ⟨c, rfl, hc, hb6⟩
                have HFN : Hid (Calls Tryz.prog 38 #[PT c, PT cb, PT cm, PT cs] w6 fun e W' => ∃ (i : Int) (vs2 : Value) (l2 : List Value), e = .returned (.tuple #[.int .i64 i, .int .i64 5]) ∧ FindAt W' B cb cm cs bud mb g t0 s2 k vs2 (ps ++ l2) ∧ Left w6 W' B bud) :=
                  (find_any w6 B cb cm cs bud mb g t0 h0 s1 k vs1 (ps ++ l) (HR.out.find.keep hb6) HR.out.ok (rBy hb x) c hc (wf_by hb HXW.out) (hTW.agree (Agree.of_all (K := fun _ => True) hb6) trivial) (Nat.le_trans hBwr hb6.size) hg).mono (by
                    rintro e W' ⟨i, vs2, l2, rfl, -, h1, h2⟩
                    rw [HF.out] at h1 ⊢
                    exact ⟨i, vs2, l ++ l2, rfl, by rw [← List.append_assoc]; exact h1, h2⟩)
                have HB6 := hide hb6
                clear hc hb6 HBY
                unfold PT at HFN
                go_wp2_with fail
                refine HFN.out.mono ?_
                rintro e w7 ⟨i, vs2, l2, rfl, h7, hl7⟩
                have H7 := hide h7
                have HL7 := hide (HR.out.left.trans ((Left.of HB6.out hBwr).trans hl7))
                clear h7 hl7 HFN HB6
                go_wp2
                refine bodyPost_ret (v := .tuple #[.slice none 0 0, .int .i64 5]) (by simp [results, Tryz.results44, go_sem]) rfl ?_
                have heq : rowA g x hs s [] = (s2, none) := by rw [HR.out.eq, rowA_drop hlt2, ← HHB.out, HF.out]
                rw [heq]
                exact ⟨_, vs2, l2, rfl, H7.out, HL7.out, fun row hrow => by cases hrow⟩
              | some q2 =>
                go_wp2_with fail
                refine HBY.out.mono ?_
                rintro e w6 ⟨c, rfl, hc, hb6⟩
                have HFN : Hid (Calls Tryz.prog 38 #[PT c, PT cb, PT cm, PT cs] w6 fun e W' => ∃ (vs2 : Value) (l2 : List Value), e = .returned (.tuple #[.int .i64 (q2 : Nat), .int .i64 0]) ∧ FindAt W' B cb cm cs bud mb g t0 s2 k vs2 (ps ++ l2) ∧ Left w6 W' B bud) :=
                  (find_any w6 B cb cm cs bud mb g t0 h0 s1 k vs1 (ps ++ l) (HR.out.find.keep hb6) HR.out.ok (rBy hb x) c hc (wf_by hb HXW.out) (hTW.agree (Agree.of_all (K := fun _ => True) hb6) trivial) (Nat.le_trans hBwr hb6.size) hg).mono (by
                    rintro e W' ⟨i, vs2, l2, rfl, hi, h1, h2⟩
                    rw [HF.out] at h1 hi ⊢
                    rw [hi q2 rfl]
                    exact ⟨vs2, l ++ l2, rfl, by rw [← List.append_assoc]; exact h1, h2⟩)
                have HB6 := hide hb6
                clear hc hb6 HBY
                unfold PT at HFN
                go_wp2_with fail
                refine HFN.out.mono ?_
                rintro e w7 ⟨vs2, l2, rfl, h7, hl7⟩
                have RW := HR.out
                have hL67 : Left wr w7 B bud := (Left.of HB6.out hBwr).trans hl7
                have hE7 : IRow w7 EB ends := hL67.typ EB _ _ RW.enr (by decide) (by decide) (by decide)
                have hR7 : IRow w7 RB (acc.map (fun n : Nat => (n : Int)) ++ List.replicate (hs.length - j) 0) := hL67.typ RB _ _ RW.row (by decide) (by decide) (by decide)
                have hI7 : Blk w7 AB (nArr ix) 69 := hL67.typ AB _ _ RW.idx (by decide) (by decide) (by decide)
                obtain ⟨-, hle, -, -, hsz2, hpo2⟩ := fnd_ok RW.ok (wf_by _ HXW.out) HF.out
                have HST := hide (RW.step hlt2 HXW.out (by rw [← HHB.out]; exact HF.out) (h7.putI (i := m) (u := .int .i64 (q2 : Nat)) hE7) ((RW.left.trans hL67).new hB hWE) (hI7.setOther _ _ (hI7.ne hE7 (by decide))) (hE7.set m (q2 : Nat)) (hR7.other hER.symm)
                  ((RW.ce.more rfl hle).set hip hbb HIPB.out hpo2 hsz2) hB hWR hER)
                have cE7 := hE7.cell (i := m) (by rw [RW.ce.len]; exact hip)
                have fE7 := Blk.frozen hE7 m
                have cR7 := hR7.cell (i := j) (by simp [RW.len]; omega)
                have fR7 := Blk.frozen hR7 j
                generalize ends.getD m 0 = olde at cE7
                generalize (acc.map (fun n : Nat => (n : Int)) ++ List.replicate (hs.length - j) (0 : Int)).getD j 0 = oldr at cR7
                clear h7 hl7 HFN HB6 RW hL67 hE7 hR7 hI7 hle hsz2 hpo2 cEn cRw fRw cHd cIx hTW HF
                go_wp2
                exact ⟨⟨j + 1, s2, acc ++ [q2], vs2, l2, ends.set m (q2 : Nat), by omega, by go_num, HST.out⟩, by simp [intOf]; omega⟩
          · have hnd : decide (en < 0) = false := decide_eq_false hneg
            obtain ⟨q2, hq2, hfq⟩ := RW.ce.hit HIP.out g hip hbb HIPB.out (by rw [← HEN.out]; exact hneg)
            rw [← HEN.out] at hq2
            subst hq2
            have HFQ := hide hfq
            clear hfq hneg hre RW hTW
            go_wp2
            refine ⟨⟨j + 1, s1, acc ++ [q2], vs1, l, ends, by omega, by go_num, ?_⟩, by simp [intOf]; omega⟩
            have RW := HR.out
            exact RW.step hlt2 HXW.out (by rw [← HHB.out]; exact HFQ.out) RW.find RW.left RW.idx RW.enr RW.row RW.ce hB hWR hER
        · obtain rfl : j = hs.length := by omega
          have hkd2 : decide (hs.length < hs.length) = false := by simp
          have heq := HR.out.eq
          rw [List.drop_length] at heq
          have heq : rowA g x hs s [] = (s1, some acc) := heq
          have HEQ := hide heq
          have hrow := HR.out.row
          rw [Nat.sub_self, List.replicate_zero, List.append_nil] at hrow
          have hown : OwnG wr W.heap.size 3 (.int .i64 0) (.slice (some ⟨RB, 0, none⟩) hs.length hs.length) (intV acc) := by
            have e : (intV acc).length = hs.length := by simp [intV, HR.out.len]
            refine .inr ⟨RB, hs.length, _, by rw [e], hWR, hrow, by rw [e]; exact Nat.le_refl _, by unfold maxLen; omega, ?_⟩
            rw [e, Nat.sub_self]
            simp [intV]
          have HOWN := hide hown
          clear heq hrow hown
          go_wp2
          refine bodyPost_ret (v := .tuple #[.slice (some ⟨RB, 0, none⟩) hs.length hs.length, .int .i64 0]) (by simp [results, Tryz.results44, go_sem]) rfl ?_
          rw [HEQ.out]
          exact ⟨_, vs1, l, rfl, HR.out.find, HR.out.left, fun row hrow => by injection hrow with hrow; subst hrow; exact HOWN.out⟩
end Go.Proofs.YtjcfnmjjkadaeaaGreatDoor
