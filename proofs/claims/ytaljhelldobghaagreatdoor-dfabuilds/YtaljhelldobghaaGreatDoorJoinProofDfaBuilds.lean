/- DfaBuilds: Build comes to the page's own states, step by step. Conditions: the table of math/bits holds what its initialiser lays (the card ties that to the program's text). -/
/- Texts of this claim put together: DfaM, StA, StB, LawDfaBuilds, ProofDfaBuilds. -/
import Derived.Test.YtaljhelldobghaaGreatDoorJoinHead6
import Derived.Laws.OwnMore
import Derived.Lib.SliceRun
import Derived.Test.YtaljhelldobghaaGreatDoorJoinSomeInts
import Derived.Test.YtaljhelldobghaaGreatDoorJoinSetG
import Derived.Test.YtaljhelldobghaaGreatDoorCards
import Derived.Test.YtaljhelldobghaaGreatDoorTie
/- Heads: a row of their own. -/
namespace Go.Proofs.YtaljhelldobghaaGreatDoor
set_option maxRecDepth 100000
set_option linter.unusedSimpArgs false
set_option linter.unusedVariables false
open Go.RowKit

theorem clone_bytes (v : Value) (l : List Nat) (w : World) (h : OwnG w 0 5 (.int .u8 0) v (byteV l)) (h0 : 0 < l.length) (hl : l.length ≤ 1000000) :
    Calls Tryz.prog 52 #[v] w fun e w' => ∃ v', e = .returned v' ∧ OwnG w' w.heap.size 5 (.int .u8 0) v' (byteV l) ∧ Below w.heap.size w w' := by
  have hbl : (byteV l).length = l.length := by simp [byteV]
  obtain ⟨g, cap, rfl, -, hg, hcap, hc⟩ := h.at (by rw [hbl]; exact h0)
  rw [hbl] at hcap ⊢
  have hb1 := (Below.refl w.heap.size w).alloc (Nat.le_refl _) (.cells #[] 5)
  have hblk := Blk.newAt (w := w) rfl #[] 5
  have hown : OwnG (w.alloc (.cells #[] 5)) w.heap.size 5 (.int .u8 0) (.slice (some ⟨w.heap.size, 0, none⟩) 0 0) [] := .inr ⟨w.heap.size, 0, #[], rfl, Nat.le_refl _, hblk, by simp, by unfold maxLen; omega, by simp⟩
  obtain ⟨v', W', hr, ho, ha⟩ := run_appendG 29 5 29 (.int .u8 0) 1 Tryz.underlying29 infoB8 (by omega) rfl hown ⟨g, 0, none⟩ cap (byteV l) (by rw [hbl]; exact h0)
    (fun j u hj => by
      rw [Go.WideShapes.add_plain, Nat.zero_add]
      have := hc j u hj
      rw [← this]
      exact World.cell?_of_block (w := w) (hb1.block g hg)) (fun u hu => by
        obtain ⟨x, -, rfl⟩ := List.mem_map.1 hu
        rfl) (by rw [hbl]; simp; omega) (by simp)
  rw [hbl] at hr
  rw [List.nil_append] at ho
  have HO := hide ho
  have HB := hide ((hb1.mono (Nat.le_refl _)).trans ha.below)
  obtain ⟨av, cv, rfl, -⟩ := ho.slice
  rw [hbl] at HO hr
  clear ho ha hown hblk hb1 hc h
  have hne := Go.Lib.run_eql_slice_nil (P := Tryz.prog) w 29 5 (some ⟨g, 0, none⟩) l.length cap 0 0 Tryz.underlying29
  go_enter Tryz.func52, Tryz.ntmps52
  go_wp2_with (refine wpList_append_run rfl _ _ _ rfl _ _ _ rfl rfl hr ?_)
  go_ret
  exact ⟨_, rfl, HO.out, HB.out⟩
theorem DfaR.heads {W : World} {p : Nat} {r : RE} {pl : List (BitVec 256)} {S : List RE} {rows : List (List Nat)} (h : DfaR W p r pl S rows) :
    Calls Tryz.prog 16 #[PT p] W fun e w' => ∃ v', e = .returned v' ∧ OwnG w' W.heap.size 5 (.int .u8 0) v' (byteV (pl.map least)) ∧ Below W.heap.size W w' := by
  obtain ⟨vh, vn, vy, vs, h1, h2, -⟩ := h.at'.ex
  have hpl : pl.length ≤ 256 := parts_256 h.ok.part
  have hp0 : 0 < pl.length := by have := (head_of h.ok.part (b := 0) (by omega)).1; omega
  have HC := hide (clone_bytes vh (pl.map least) W h2 (by simpa using hp0) (by simp; omega))
  have c0 := h1.cell 0
  rw [dfaC_0] at c0
  obtain ⟨av, cv, rfl, -⟩ := h2.slice
  clear h h1 h2
  unfold PT
  go_enter Tryz.func16, Tryz.ntmps16
  go_wp2_with fail
  refine HC.out.mono ?_
  rintro e w1 ⟨v', rfl, ho, hb⟩
  obtain ⟨a1, c1, rfl, -⟩ := ho.slice
  have HO := hide ho
  have HB := hide hb
  clear ho hb HC
  go_wp2
  go_ret
  exact ⟨_, rfl, HO.out, HB.out⟩
/-- The part of a byte, told by any part that has it. -/
theorem idx_at {l pl : List (BitVec 256)} (h : IsPart l pl) {b j : Nat} (hb : b < 256) (hj : j < pl.length) (hjb : (pl.getD j 0).getLsbD b = true) : idxF pl pl.length b = j := by
  obtain ⟨h1, h2⟩ := idx_part h hb
  generalize idxF pl pl.length b = i at *
  rcases Nat.lt_trichotomy i j with hlt | e | hgt
  · have := (List.pairwise_iff_getElem.1 h.apart) i j h1 hj hlt b (by simpa [List.getD_eq_getElem?_getD, h1] using h2)
    rw [List.getD_eq_getElem?_getD, List.getElem?_eq_getElem hj] at hjb
    rw [show pl[j].getLsbD b = true from hjb] at this
    cases this
  · exact e
  · have := (List.pairwise_iff_getElem.1 h.apart) j i hj h1 hgt b (by simpa [List.getD_eq_getElem?_getD, hj] using hjb)
    rw [List.getD_eq_getElem?_getD, List.getElem?_eq_getElem h1] at h2
    rw [show pl[i].getLsbD b = true from h2] at this
    cases this
theorem idx_least {l pl : List (BitVec 256)} (h : IsPart l pl) {j : Nat} (hj : j < pl.length) : idxF pl pl.length ((pl.map least).getD j 0) = j ∧ (pl.map least).getD j 0 < 256 := by
  have e : (pl.map least).getD j 0 = least pl[j] := by simp [List.getD_eq_getElem?_getD, hj]
  have hne := (h.mem _ (List.getElem_mem hj)).1
  rw [e]
  refine ⟨idx_at h (least_lt _) hj ?_, least_lt _⟩
  rw [List.getD_eq_getElem?_getD, List.getElem?_eq_getElem hj]
  exact (least_mem hne).1
end Go.Proofs.YtaljhelldobghaaGreatDoor
/- The statements' own way to the states of an expression: what is kept, and the search for one of them. -/
namespace Go.Proofs.YtaljhelldobghaaGreatDoor
set_option maxRecDepth 100000
set_option linter.unusedSimpArgs false
set_option linter.unusedVariables false
open Go.RowKit

theorem own_empty {w : World} {B : Nat} {E : TypeId} {z : Value} (hB : B ≤ w.heap.size) : OwnG (w.alloc (.cells #[] E)) B E z (.slice (some ⟨w.heap.size, 0, none⟩) 0 0) [] :=
  .inr ⟨w.heap.size, 0, #[], rfl, hB, Blk.newAt rfl _ _, by simp, by unfold maxLen; omega, by simp⟩
def posI : Option Nat → Int
  | none => -1
  | some q => q
theorem posI_step {S : List RE} (hap : S.Pairwise fun x y => x.key ≠ y.key) {x : RE} {k : Nat} (hk : k < S.length) : posI (posL x (S.take (k + 1))) = if S[k].key = x.key then (k : Int) else posI (posL x (S.take k)) := by
  rw [List.take_succ_eq_append_getElem hk]
  have hl : (S.take k).length = k := by simp; omega
  split
  · rename_i e
    have hp : (S.take k ++ [S[k]]).Pairwise fun x y => x.key ≠ y.key := by
      rw [← List.take_succ_eq_append_getElem hk]
      exact hap.sublist (List.take_sublist _ _)
    rw [posL_is hp (q := k) (by simp; omega) (by rw [List.getElem_append_right (by omega)]; simpa using e)]
    rfl
  · rename_i e
    unfold posL
    rw [List.findIdx?_append]
    cases (S.take k).findIdx? fun y => decide (y.key = x.key) with
    | some q => rfl
    | none => simp [e]
/-- What is kept of the states so far. -/
structure StW (W wr : World) (hs : List Nat) (s0 : Bs) (q : Nat) (s1 : Bs) (vA vh vR : Value) (ps : List (Nat × RE)) (vrs : List Value) (rows : List (List Nat)) : Prop where
  all : OwnG wr W.heap.size 26 (.pointer none) vA (ptrs ps)
  elem : ∀ p ∈ ps, ReAt wr p.1 p.2
  S : ps.map Prod.snd = s1.S
  hd : OwnG wr W.heap.size 5 (.int .u8 0) vh (byteV hs)
  rw : OwnG wr W.heap.size 41 (.slice none 0 0) vR vrs
  rl : vrs.length = rows.length
  row : ∀ j, j < rows.length → OwnG wr W.heap.size 3 (.int .i64 0) (vrs.getD j (.slice none 0 0)) (intV (rows.getD j []))
  ok : BsOk 200 s1
  below : Below W.heap.size W wr
  len : rows.length = q
  le : q ≤ s1.S.length
  eq : ∃ n : Nat, (200 : Int) < (n : Int) + q ∧ bldA 200 hs 201 s0 [] = bldA 200 hs n s1 rows
theorem StW.fail {W wr : World} {hs : List Nat} {s0 : Bs} {q : Nat} {s1 : Bs} {vA vh vR : Value} {ps : List (Nat × RE)} {vrs : List Value} {rows : List (List Nat)} (h : StW W wr hs s0 q s1 vA vh vR ps vrs rows) (hq : q < s1.S.length) {s2 : Bs} (hr : rowA 200 (s1.S.getD q rNothing) hs s1 [] = (s2, none)) :
    bldA 200 hs 201 s0 [] = (s2, none) := by
  obtain ⟨n, hn, he⟩ := h.eq
  have ht := h.ok.t
  have hg := h.ok.g
  match n, hn, he with
  | 0, hn, he => omega
  | n + 1, hn, he => rw [he, bldA, if_pos (by rw [h.len]; exact hq), h.len, hr]
theorem StW.done {W wr : World} {hs : List Nat} {s0 : Bs} {q : Nat} {s1 : Bs} {vA vh vR : Value} {ps : List (Nat × RE)} {vrs : List Value} {rows : List (List Nat)} (h : StW W wr hs s0 q s1 vA vh vR ps vrs rows) (hq : ¬ q < s1.S.length) : bldA 200 hs 201 s0 [] = (s1, some rows) := by
  obtain ⟨n, hn, he⟩ := h.eq
  have ht := h.ok.t
  have hg := h.ok.g
  have hl := h.le
  match n, hn, he with
  | 0, hn, he => omega
  | n + 1, hn, he => rw [he, bldA, if_neg (by rw [h.len]; exact hq)]
theorem StW.next {W wr : World} {hs : List Nat} {s0 : Bs} {q : Nat} {s1 : Bs} {vA vh vR : Value} {ps : List (Nat × RE)} {vrs : List Value} {rows : List (List Nat)} (h : StW W wr hs s0 q s1 vA vh vR ps vrs rows) (hq : q < s1.S.length) {s2 : Bs} {row : List Nat} (hr : rowA 200 (s1.S.getD q rNothing) hs s1 [] = (s2, some row)) :
    BsOk 200 s2 ∧ BsLe s1 s2 ∧ ∃ n : Nat, (200 : Int) < (n : Int) + (q + 1 : Nat) ∧ bldA 200 hs 201 s0 [] = bldA 200 hs n s2 (rows ++ [row]) := by
  obtain ⟨k1, k2⟩ := rowA_le (bs_wf h.ok _) h.ok hr
  obtain ⟨n, hn, he⟩ := h.eq
  have ht := h.ok.t
  have hg := h.ok.g
  refine ⟨k1, k2, ?_⟩
  match n, hn, he with
  | 0, hn, he => omega
  | n + 1, hn, he =>
    refine ⟨n, by omega, ?_⟩
    rw [he, bldA, if_pos (by rw [h.len]; exact hq), h.len, hr]
/-- While a row is made: the states may have become more; ints that lie there already stay. -/
structure SrW (W Wq wr : World) (x : RE) (hs : List Nat) (s1 : Bs) (j : Nat) (s2 : Bs) (vA vh vR v : Value) (ps : List (Nat × RE)) (vrs : List Value) (acc : List Nat) : Prop where
  all : OwnG wr W.heap.size 26 (.pointer none) vA (ptrs ps)
  elem : ∀ p ∈ ps, ReAt wr p.1 p.2
  S : ps.map Prod.snd = s2.S
  hd : OwnG wr W.heap.size 5 (.int .u8 0) vh (byteV hs)
  rw : OwnG wr W.heap.size 41 (.slice none 0 0) vR vrs
  ints : ∀ k c, Blk Wq k c 3 → Blk wr k c 3
  row : OwnG wr Wq.heap.size 3 (.int .i64 0) v (intV acc)
  ok : BsOk 200 s2
  le : BsLe s1 s2
  below : Below W.heap.size W wr
  size : Wq.heap.size ≤ wr.heap.size
  len : acc.length = j
  eq : rowA 200 x hs s1 [] = rowA 200 x (hs.drop j) s2 acc
theorem SrW.keep {W Wq wr w' : World} {x : RE} {hs : List Nat} {s1 s2 : Bs} {j : Nat} {vA vh vR v : Value} {ps : List (Nat × RE)} {vrs : List Value} {acc : List Nat} (h : SrW W Wq wr x hs s1 j s2 vA vh vR v ps vrs acc) (hb : Below wr.heap.size wr w') : SrW W Wq w' x hs s1 j s2 vA vh vR v ps vrs acc :=
  ⟨h.all.keep hb, fun p hp => (h.elem p hp).keep hb, h.S, h.hd.keep hb, h.rw.keep hb, fun k c hk => (h.ints k c hk).below hb (h.ints k c hk).lt, h.row.keep hb, h.ok, h.le, h.below.trans (hb.mono h.below.size), Nat.le_trans h.size hb.size, h.len, h.eq⟩
theorem app_u8_pt (p : Nat) : PT p ≠ Value.int .u8 0 := by simp [PT]
theorem app_int_pt (p : Nat) : PT p ≠ Value.int .i64 0 := by simp [PT]
theorem app_nil_pt (p : Nat) : PT p ≠ Value.pointer none := by simp [PT]
/-- An expression more among the states. -/
theorem SrW.push {W Wq wr : World} {x : RE} {hs : List Nat} {s1 s2 : Bs} {j : Nat} {vA vh vR v : Value} {ps : List (Nat × RE)} {vrs : List Value} {acc : List Nat} (h : SrW W Wq wr x hs s1 j s2 vA vh vR v ps vrs acc) {c : Nat} {y : RE} (hy : ReAt wr c y) (hl : ps.length < 1000000) :
    ∃ v' W5, (Builtin.append_ #[28, 28] 28 #[vA, .slice (some ⟨wr.heap.size, 0, none⟩) 1 1]).run Tryz.prog (wr.alloc (.cells #[PT c] 26)) = .ok v' W5 ∧
      OwnG W5 W.heap.size 26 (.pointer none) v' (ptrs (ps ++ [(c, y)])) ∧ (∀ p ∈ ps ++ [(c, y)], ReAt W5 p.1 p.2) ∧ OwnG W5 W.heap.size 5 (.int .u8 0) vh (byteV hs) ∧ OwnG W5 W.heap.size 41 (.slice none 0 0) vR vrs ∧
      (∀ k c, Blk Wq k c 3 → Blk W5 k c 3) ∧ OwnG W5 Wq.heap.size 3 (.int .i64 0) v (intV acc) ∧ Below W.heap.size W W5 ∧ Wq.heap.size ≤ W5.heap.size := by
  have hb4 := (Below.refl wr.heap.size wr).alloc (Nat.le_refl _) (.cells #[PT c] 26)
  have h4 := h.keep hb4
  have hW := h.below.size
  obtain ⟨v', W5, hr, hown, ha⟩ := run_appendG 28 26 28 (.pointer none) 8 Tryz.underlying28 infoP8 (by omega) rfl h4.all ⟨wr.heap.size, 0, none⟩ 1 [PT c] (by simp)
    (World.news_of_block (Blk.newAt (w := wr) rfl #[PT c] 26)) (fun y hy => by simp at hy; subst hy; rfl) (by rw [ptrs_length]; simp; omega) (by simp; omega)
  refine ⟨v', W5, hr, ?_, fun p hp => ?_, h4.hd.app ha (by decide), h4.rw.app ha (by decide), fun k c hk => ha.blk (h4.ints k c hk) (by decide), h4.row.app ha (by decide), h4.below.trans ha.below, Nat.le_trans h4.size ha.size⟩
  · rw [show ptrs (ps ++ [(c, y)]) = ptrs ps ++ [PT c] from by simp [ptrs]]; exact hown
  · rcases List.mem_append.1 hp with hp | hp
    · exact (h4.elem p hp).app ha (by decide) app_nil_pt
    · simp at hp; subst hp
      exact (hy.keep hb4).app ha (by decide) app_nil_pt
/-- A place more in the row. -/
theorem SrW.place {W Wq wr : World} {x : RE} {hs : List Nat} {s1 s2 : Bs} {j q : Nat} {vA vh vR v : Value} {ps : List (Nat × RE)} {vrs : List Value} {acc : List Nat} (h : SrW W Wq wr x hs s1 j s2 vA vh vR v ps vrs acc) (hWq : W.heap.size ≤ Wq.heap.size) (hl : acc.length < 1000000)
    (he : rowA 200 x hs s1 [] = rowA 200 x (hs.drop (j + 1)) s2 (acc ++ [q])) :
    ∃ v' W5, (Builtin.append_ #[41, 41] 41 #[v, .slice (some ⟨wr.heap.size, 0, none⟩) 1 1]).run Tryz.prog (wr.alloc (.cells #[.int .i64 (q : Nat)] 3)) = .ok v' W5 ∧
      SrW W Wq W5 x hs s1 (j + 1) s2 vA vh vR v' ps vrs (acc ++ [q]) := by
  have hb4 := (Below.refl wr.heap.size wr).alloc (Nat.le_refl _) (.cells #[.int .i64 (q : Nat)] 3)
  have h4 := h.keep hb4
  obtain ⟨v', W5, hr, hown, ha⟩ := run_appendG 41 3 41 (.int .i64 0) 8 Tryz.underlying41 infoI (by omega) rfl h4.row ⟨wr.heap.size, 0, none⟩ 1 [.int .i64 (q : Nat)] (by simp)
    (World.news_of_block (Blk.newAt (w := wr) rfl #[.int .i64 (q : Nat)] 3)) (fun y hy => by simp at hy; subst hy; rfl) (by simp [intV]; omega) (by have := h.size; simp; omega)
  refine ⟨v', W5, hr, h4.all.app ha (by decide), fun p hp => (h4.elem p hp).app ha (by decide) app_int_pt, h.S, h4.hd.app ha (by decide), h4.rw.app ha (by decide), fun k c hk => ?_, ?_, h.ok, h.le, h4.below.trans (ha.below.mono hWq), Nat.le_trans h4.size ha.size, by simp [h.len], he⟩
  · exact (ha.below.block k hk.lt).trans (h4.ints k c hk)
  · rw [show intV (acc ++ [q]) = intV acc ++ [.int .i64 (q : Nat)] from by simp [intV]]; exact hown
end Go.Proofs.YtaljhelldobghaaGreatDoor
/- The statements' own way to the states of an expression: walked. -/
namespace Go.Proofs.YtaljhelldobghaaGreatDoor
set_option maxRecDepth 100000
set_option linter.unusedSimpArgs false
set_option linter.unusedVariables false
open Go.RowKit

set_option maxHeartbeats 4000000 in
theorem states_any (r : RE) (b0 : Nat) (W : World) (h : ReAt W b0 r) (hw : Wf r) (hcnt : r.cnt ≤ 660) (hT : TabAt W) :
    Calls Tryz.prog 11 #[PT b0, .int .i64 200] W fun e W' => ∃ pl : List (BitVec 256), pl.Perm (refL (r.sts false)) ∧ pl.Pairwise (fun x y => least x ≤ least y) ∧ Below W.heap.size W W' ∧
      (((bldF 200 (pl.map least) r 0).2 = none ∧ e = .returned (.tuple #[.slice none 0 0, .slice none 0 0, .slice none 0 0, .bool false])) ∨
        ∃ s rows vA vh vR ps vrs, bldF 200 (pl.map least) r 0 = (s, some rows) ∧ e = .returned (.tuple #[vA, vh, vR, .bool true]) ∧ StW W W' (pl.map least) ⟨[r], 1⟩ rows.length s vA vh vR ps vrs rows) := by
  have hG : 0 < W.heap.size := World.block_lt_of_cell? _ _ (hT 0 (by omega))
  have H := hide h
  have HT := hide hT
  have hsl := sts_le false r
  have hb1 := (Below.refl W.heap.size W).alloc (Nat.le_refl _) (.cells #[] 5)
  have hh0 : OwnG (W.alloc (.cells #[] 5)) W.heap.size 5 (.int .u8 0) (.slice (some ⟨W.heap.size, 0, none⟩) 0 0) [] := own_empty (Nat.le_refl _)
  have HH0 := hide hh0
  have HB1 := hide hb1
  have HSE := hide (Sets_any r b0 _ (h.keep hb1) (by omega))
  clear h hT hb1 hh0
  unfold PT at HSE
  unfold PT
  go_enter Tryz.func11, Tryz.ntmps11
  go_wp2_with fail
  refine HSE.out.mono ?_
  rintro e w2 ⟨v2, rfl, ho2, hb2⟩
  have HB2 := hide (HB1.out.trans (hb2.mono HB1.out.size))
  have HH2 := hide (HH0.out.keep hb2)
  have HRF := hide (refine_big (r.sts false) v2 w2 (ho2.row (by omega)) (by omega) (HT.out.agree (Agree.of_all (K := fun _ => True) HB2.out) trivial))
  obtain ⟨a2, c2, rfl, -⟩ := ho2.slice
  clear ho2 hb2 HSE HH0 HB1
  go_wp2_with fail
  refine HRF.out.mono ?_
  rintro e w3 ⟨v3, pl, rfl, hp1, hp2, hrow3, hb3⟩
  have HB3 := hide (HB2.out.trans (hb3.mono HB2.out.size))
  have HH3 := hide (HH2.out.keep hb3)
  have HROW := hide hrow3
  have hip := (isPart_ref (r.sts false)).perm hp1
  have hplen : pl.length ≤ 256 := parts_256 hip
  obtain ⟨-, a3, c3, rfl, -⟩ := hrow3
  have HP1 := hide hp1
  have HP2 := hide hp2
  clear hb3 HH2 HB2 HRF hip hp1 hp2
  obtain ⟨gW, hgW⟩ : ∃ gW, gW = W.heap.size := ⟨_, rfl⟩
  have HGW := hide hgW
  rw [← hgW] at HH3 ⊢
  clear hgW
  go_wp2
  go_loopw [8, 28] (fun vh c wr => ∃ (k : Nat), k ≤ pl.length ∧ c = .int .i64 k ∧ Hid (OwnG wr gW 5 (.int .u8 0) vh (byteV ((pl.take k).map least))) ∧ Hid (Below W.heap.size W wr) ∧ Hid (SetsRow wr (.slice a3 pl.length c3) pl)) (fun _ c _ => pl.length - (intOf c).toNat)
  case atStart => exact ⟨0, by omega, rfl, HH3.out, HB3.out, HROW.out⟩
  case round =>
    clear HH3 HB3 HROW
    obtain ⟨k, hk, rfl, HO, HB, HR⟩ := hrel
    obtain ⟨ah, ch, hvh, -⟩ := HO.out.slice
    rw [show (byteV ((pl.take k).map least)).length = k from by simp [byteV]; omega] at hvh
    subst hvh
    by_cases hlt : k < pl.length
    · have hkd : decide (k < pl.length) = true := by simp [hlt]
      have hki : (0 : Int) ≤ k ∧ (k : Int) < pl.length := by omega
      obtain ⟨-, a9, c9, e9, hc9⟩ := HR.out
      obtain ⟨rfl, rfl⟩ : a3 = a9 ∧ c3 = c9 := by injection e9 with x1 x2 x3; exact ⟨x1, x3⟩
      obtain ⟨rbk, roff, rfl, -, hcc⟩ := hc9 k hlt
      obtain ⟨st, hst⟩ : ∃ st, st = pl.getD k 0 := ⟨_, rfl⟩
      rw [← hst] at hcc
      have y0 := hcc 0 (by omega); have y1 := hcc 1 (by omega); have y2 := hcc 2 (by omega); have y3 := hcc 3 (by omega)
      rw [Nat.add_zero] at y0
      have HTK : Hid ((pl.take (k + 1)).map least = (pl.take k).map least ++ [least st]) := by
        show _ = _
        rw [List.take_succ_eq_append_getElem hlt, List.map_append, hst]
        simp [List.getD_eq_getElem?_getD, hlt]
      clear hc9 e9 hcc hst
      have hb9 := (Below.refl wr.heap.size wr).alloc (Nat.le_refl _) (.cells (WS st) 54)
      have HLE := hide (least_any st (wr.alloc (.cells (WS st) 54)) (HT.out.agree (Agree.of_all (K := fun _ => True) (HB.out.trans (hb9.mono HB.out.size))) trivial))
      have HB9 := hide hb9
      clear hb9
      unfold SV at HLE
      go_wp2_with fail
      refine HLE.out.mono ?_
      rintro e w4 ⟨rfl, hb4⟩
      have hb94 : Below wr.heap.size wr w4 := HB9.out.trans (hb4.mono (by simp))
      have hb5 := (Below.refl w4.heap.size w4).alloc (Nat.le_refl _) (.cells #[.int .u8 (least st)] 5)
      have hO5 := (HO.out.keep hb94).keep hb5
      have hgW4 : gW ≤ w4.heap.size := by rw [HGW.out]; exact Nat.le_trans HB.out.size hb94.size
      obtain ⟨v', W', hr, ho, ha⟩ := run_appendG 29 5 29 (.int .u8 0) 1 Tryz.underlying29 infoB8 (by omega) rfl hO5 ⟨w4.heap.size, 0, none⟩ 1 [.int .u8 (least st)] (by simp)
        (World.news_of_block (Blk.newAt (w := w4) rfl #[.int .u8 (least st)] 5)) (fun y hy => by simp at hy; subst hy; rfl) (by simp [byteV]; omega) (by simp; omega)
      have HB' := hide ((HB.out.trans (hb94.mono HB.out.size)).trans ((hb5.mono (show W.heap.size ≤ w4.heap.size from HGW.out ▸ hgW4)).trans (ha.below.mono (Nat.le_of_eq HGW.out.symm))))
      have HR' : Hid (SetsRow W' (.slice (some ⟨rbk, roff, none⟩) pl.length c3) pl) := by
        obtain ⟨q0, qa, qc, qe, qh⟩ := (HR.out.below hb94).below hb5
        injection qe with q1 q2 q3
        subst q1 q3
        refine ⟨q0, _, _, rfl, fun j hj => ?_⟩
        obtain ⟨qb, qo, qe2, qlt, qcell⟩ := qh j hj
        refine ⟨qb, qo, qe2, Nat.lt_of_lt_of_le qlt ha.size, fun i hi => ha.cell (qcell i hi) (by simp)⟩
      have HO' : Hid (OwnG W' gW 5 (.int .u8 0) v' (byteV ((pl.take (k + 1)).map least))) := by
        show OwnG _ _ _ _ _ _
        rw [HTK.out, show byteV ((pl.take k).map least ++ [least st]) = byteV ((pl.take k).map least) ++ [.int .u8 (least st)] from by simp [byteV]]
        exact ho
      obtain ⟨a', m', c', rfl⟩ : ∃ a m c, v' = Value.slice a m c := by
        obtain ⟨a, c, e, -⟩ := ho.slice
        exact ⟨a, _, c, e⟩
      rw [show leastV (bytesOf st) = .tuple #[.int .u8 (least st), .bool (!(bytesOf st).isEmpty)] from rfl]
      clear hb94 hb5 hO5 ho ha HLE y0 y1 y2 y3 HO HR hb4 hgW4
      go_wp2_with (refine wpList_append_run rfl _ _ _ rfl _ _ _ rfl rfl hr ?_)
      exact ⟨⟨k + 1, by omega, by go_num, HO', HB', HR'⟩, by simp [intOf]; omega⟩
    · obtain rfl : k = pl.length := by omega
      have hkd : decide (pl.length < pl.length) = false := by simp
      have hO := HO.out
      rw [List.take_length] at hO
      clear hlt
      obtain ⟨hs, hhs⟩ : ∃ hs, hs = pl.map least := ⟨_, rfl⟩
      rw [← hhs] at hO
      have hrs : r.size ≤ 20000 := by have := size_minD r; omega
      obtain ⟨he0, hk1⟩ := bs_start (g := 200) hw hrs (by omega)
      have HBF := hide (show bldF 200 (pl.map least) r 0 = bldA 200 hs 201 ⟨[r], 1⟩ [] from by rw [← hhs]; unfold bldF; rw [he0]; rfl)
      have hba := (Below.refl wr.heap.size wr).alloc (Nat.le_refl _) (.cells #[PT b0] 26)
      have hbb := (Below.refl (wr.alloc (.cells #[PT b0] 26)).heap.size (wr.alloc (.cells #[PT b0] 26))).alloc (Nat.le_refl _) (.cells #[] 41)
      have hWs := HB.out.size
      have hSt : StW W ((wr.alloc (.cells #[PT b0] 26)).alloc (.cells #[] 41)) hs ⟨[r], 1⟩ 0 ⟨[r], 1⟩ (.slice (some ⟨wr.heap.size, 0, none⟩) 1 1) (.slice ah pl.length ch) (.slice (some ⟨wr.heap.size + 1, 0, none⟩) 0 0) [(b0, r)] [] [] := by
        have hrw := own_empty (w := wr.alloc (.cells #[PT b0] 26)) (B := W.heap.size) (E := 41) (z := .slice none 0 0) (by simp; omega)
        rw [show (wr.alloc (.cells #[PT b0] 26)).heap.size = wr.heap.size + 1 from by simp] at hrw
        refine ⟨?_, fun p hp => ?_, rfl, ?_, hrw, rfl, fun j hj => by simp at hj, hk1, ?_, rfl, Nat.zero_le _, ⟨201, by omega, rfl⟩⟩
        · exact (OwnG.keep (W := wr.alloc (.cells #[PT b0] 26)) (.inr ⟨wr.heap.size, 1, #[PT b0], rfl, hWs, Blk.newAt rfl _ _, by simp [ptrs], by unfold maxLen; omega, by simp [ptrs]⟩) hbb)
        · simp at hp; subst hp
          exact ((H.out.keep HB.out).keep hba).keep hbb
        · exact ((HGW.out ▸ hO).keep hba).keep hbb
        · exact (HB.out.trans (hba.mono hWs)).trans (hbb.mono (by simp; omega))
      have hhl : hs.length ≤ 256 := by rw [hhs]; simpa using hplen
      have h256 : ∀ b ∈ hs, b < 256 := fun b hb => by
        rw [hhs] at hb
        obtain ⟨p, -, rfl⟩ := List.mem_map.1 hb
        exact least_lt p
      have hpe : pl.length = hs.length := by rw [hhs]; simp
      have HHS := hide hhs
      have H256 := hide h256
      have HPE := hide hpe
      clear hba hbb hO HO HB HR hhs he0 hk1 h256 hpe hWs
      go_wp2
      go_loopw [13, 14, 15] (fun A R c wr => ∃ (q : Nat) (s1 : Bs) (ps : List (Nat × RE)) (vrs : List Value) (rows : List (List Nat)), c = .int .i64 q ∧ Hid (StW W wr hs ⟨[r], 1⟩ q s1 A (.slice ah pl.length ch) R ps vrs rows)) (fun _ _ c _ => 1000 - (intOf c).toNat)
      case atStart => exact ⟨0, _, _, _, _, rfl, hSt⟩
      case round =>
        clear hSt
        obtain ⟨q, s1, ps, vrs, rows, rfl, HS⟩ := hrel
        have SW := HS.out
        obtain ⟨va, vc, hva, -⟩ := SW.all.slice
        have hpsl : ps.length = s1.S.length := by rw [← SW.S]; simp
        rw [ptrs_length, hpsl] at hva
        subst hva
        obtain ⟨n1, hn1⟩ : ∃ n, n = s1.S.length := ⟨_, rfl⟩
        have hq200 : s1.S.length ≤ 200 := by have := SW.ok.t; have := SW.ok.g; omega
        rw [← hn1] at HS hpsl hq200 ⊢
        have HN1 := hide hn1
        have HPSL := hide hpsl
        obtain ⟨vra, vrc, hvr, -⟩ := SW.rw.slice
        rw [SW.rl, SW.len] at hvr
        subst hvr
        by_cases hlt : q < n1
        · have hkd : decide (q < n1) = true := by simp [hlt]
          have SW := HS.out
          have hq1 : q < s1.S.length := by rw [← HN1.out]; exact hlt
          obtain ⟨x, hx⟩ : ∃ x, x = s1.S.getD q rNothing := ⟨_, rfl⟩
          have hxm : x ∈ s1.S := by rw [hx, List.getD_eq_getElem?_getD, List.getElem?_eq_getElem hq1]; exact List.getElem_mem hq1
          have hxw := SW.ok.wf x hxm
          have hxs := SW.ok.low x hxm
          have hxc : x.cnt ≤ 1000000 := by have := size_minD x; omega
          have hbr := (Below.refl wr.heap.size wr).alloc (Nat.le_refl _) (.cells #[] 3)
          have hWr := SW.below.size
          have hR0 : SrW W wr (wr.alloc (.cells #[] 3)) x hs s1 0 s1 (.slice va n1 vc) (.slice ah pl.length ch) (.slice vra q vrc) (.slice (some ⟨wr.heap.size, 0, none⟩) 0 0) ps vrs [] :=
            ⟨SW.all.keep hbr, fun p hp => (SW.elem p hp).keep hbr, SW.S, SW.hd.keep hbr, SW.rw.keep hbr, fun k c hk => hk.below hbr hk.lt, own_empty (Nat.le_refl _), SW.ok, .refl _, SW.below.trans (hbr.mono hWr), hbr.size, rfl, rfl⟩
          have HX := hide hx
          have HXM := hide hxm
          obtain ⟨Wq, hWq⟩ : ∃ Wq, Wq = wr := ⟨_, rfl⟩
          have hxq : s1.S[q]? = some x := by rw [hx, List.getD_eq_getElem?_getD, List.getElem?_eq_getElem hq1]; rfl
          have HXQ := hide hxq
          clear SW hn1 hpsl hx hxm hbr hxs hxq
          subst hWq
          go_wp2
          go_loopw [13, 16, 54] (fun A v c wr => ∃ (j : Nat) (s2 : Bs) (ps : List (Nat × RE)) (acc : List Nat), j ≤ hs.length ∧ c = .int .i64 j ∧ Hid (SrW W Wq wr x hs s1 j s2 A (.slice ah pl.length ch) (.slice vra q vrc) v ps vrs acc)) (fun _ _ c _ => hs.length - (intOf c).toNat)
          case atStart => exact ⟨0, _, _, _, Nat.zero_le _, rfl, hR0⟩
          case round =>
            clear hR0
            obtain ⟨j, s2, ps2, acc, hj, rfl, HR⟩ := hrel
            have RW := HR.out
            obtain ⟨va2, vc2, hva2, -⟩ := RW.all.slice
            have hpsl2 : ps2.length = s2.S.length := by rw [← RW.S]; simp
            rw [ptrs_length, hpsl2] at hva2
            subst hva2
            obtain ⟨n2, hn2⟩ : ∃ n, n = s2.S.length := ⟨_, rfl⟩
            have hn200 : s2.S.length ≤ 200 := by have := RW.ok.t; have := RW.ok.g; omega
            rw [← hn2] at HR hpsl2 hn200 ⊢
            have HN2 := hide hn2
            have HPSL2 := hide hpsl2
            obtain ⟨vw, vwc, hvw, -⟩ := RW.row.slice
            rw [show (intV acc).length = j from by simp [intV, RW.len]] at hvw
            subst hvw
            by_cases hlt2 : j < hs.length
            · have hkd2 : decide (j < hs.length) = true := by simp [hlt2]
              have hkd2' : decide (j < pl.length) = true := by rw [HPE.out]; simp [hlt2]
              have hji : (0 : Int) ≤ j ∧ (j : Int) < pl.length := by rw [HPE.out]; omega
              have hbj : (byteV hs)[j]? = some (.int .u8 (hs.getD j 0 : Nat)) := by simp [byteV, List.getD_eq_getElem?_getD, hlt2]
              obtain ⟨g1, cap1, e1, -, -, cHd⟩ := RW.hd.cell hbj
              obtain ⟨rfl, -⟩ : ah = some ⟨g1, 0, none⟩ ∧ True := by injection e1 with x1 x2 x3; exact ⟨x1, trivial⟩
              have hbb : hs.getD j 0 < 256 := H256.out _ (by simp [List.getD_eq_getElem?_getD, hlt2])
              obtain ⟨hb, hhb⟩ : ∃ b, b = hs.getD j 0 := ⟨_, rfl⟩
              rw [← hhb] at cHd hbb
              have hxq2 : s2.S[q]? = some x := by
                obtain ⟨l', e⟩ := RW.le.S
                rw [e, List.getElem?_append_left hq1]; exact HXQ.out
              have hq2 : q < ps2.length := by rw [hpsl2, HN2.out]; exact (List.getElem?_eq_some_iff.1 hxq2).1
              have hpx : (ps2[q]).2 = x := by
                have h1 : (ps2.map Prod.snd)[q]? = some x := by rw [RW.S]; exact hxq2
                rw [List.getElem?_map, List.getElem?_eq_getElem hq2] at h1
                simpa using h1
              obtain ⟨gA, capA, eA, -, -, cA⟩ := RW.all.cell (j := q) (x := PT (ps2[q]).1) (by simp [ptrs, hq2])
              obtain ⟨rfl, -⟩ : va2 = some ⟨gA, 0, none⟩ ∧ True := by injection eA with x1 x2 x3; exact ⟨x1, trivial⟩
              have hre : ReAt wr (ps2[q]).1 x := by
                have := RW.elem ps2[q] (List.getElem_mem hq2)
                rwa [hpx] at this
              generalize (ps2[q]).1 = xp at *
              have hTw : TabAt wr := HT.out.agree (Agree.of_all (K := fun _ => True) RW.below) trivial
              have HBY := hide (By_any hb hbb x xp wr hxw (fits_cnt hb x hxw hxc) hre hTw)
              have HHB := hide hhb
              have HYW := hide (wf_by hb hxw)
              have hqi : (0 : Int) ≤ q ∧ (q : Int) < n2 := by omega
              have hWrs : W.heap.size ≤ wr.heap.size := RW.below.size
              unfold PT at HBY cA
              clear hbj e1 eA hre hTw hpx hxq2 hhb RW hn2 hpsl2
              go_wp2_with fail
              refine HBY.out.mono ?_
              rintro e w5 ⟨c, rfl, hc5, hb5⟩
              have HC5 := hide hc5
              have HR5 := hide (HR.out.keep hb5)
              clear hc5 hb5 HBY cA cHd HR
              obtain ⟨y, hy⟩ : ∃ y, y = rBy hb x := ⟨_, rfl⟩
              rw [← hy] at HC5 HYW
              have HY := hide hy
              clear hy
              go_wp2
              go_loopw [20, 66] (fun t c wr => ∃ m : Nat, m ≤ n2 ∧ c = .int .i64 m ∧ t = .int .i64 (posI (posL y (s2.S.take m))) ∧ Hid (Below w5.heap.size w5 wr)) (fun _ c _ => n2 - (intOf c).toNat)
              case atStart => exact ⟨0, by omega, rfl, rfl, Below.refl _ _⟩
              case round =>
                obtain ⟨m, hm, rfl, rfl, HB5⟩ := hrel
                have R6 := HR5.out.keep HB5.out
                by_cases hlm : m < n2
                · have hkd3 : decide (m < n2) = true := by simp [hlm]
                  have hmi : (0 : Int) ≤ m ∧ (m : Int) < n2 := by omega
                  have hm2 : m < ps2.length := by rw [HPSL2.out]; exact hlm
                  have hmS : m < s2.S.length := by rw [← HN2.out]; exact hlm
                  obtain ⟨gB, capB, eB, -, -, cB⟩ := R6.all.cell (j := m) (x := PT (ps2[m]).1) (by simp [ptrs, hm2])
                  obtain rfl : gA = gB := by injection eB with x1 x2 x3; injection x1 with x1; injection x1
                  have hpm : (ps2[m]).2 = s2.S[m] := by
                    have h1 : (ps2.map Prod.snd)[m]? = some s2.S[m] := by rw [R6.S]; exact List.getElem?_eq_getElem hmS
                    rw [List.getElem?_map, List.getElem?_eq_getElem hm2] at h1
                    simpa using h1
                  have hrm : ReAt wr (ps2[m]).1 s2.S[m] := by
                    have := R6.elem ps2[m] (List.getElem_mem hm2)
                    rwa [hpm] at this
                  generalize (ps2[m]).1 = pm at *
                  have hTw : TabAt wr := HT.out.agree (Agree.of_all (K := fun _ => True) R6.below) trivial
                  have HSM := hide (same_re s2.S[m] y pm c wr (R6.ok.wf _ (List.getElem_mem hmS)).k HYW.out.k hrm (HC5.out.keep HB5.out) hTw)
                  have hps := posI_step R6.ok.apart (x := y) hmS
                  have HPS := hide hps
                  unfold PT at HSM cB
                  by_cases hk : s2.S[m].key = y.key
                  · have e1 : (lexN s2.S[m].key y.key == 0) = true := by rw [hk, lexN_self]; rfl
                    rw [e1] at HSM
                    have HK := hide hk
                    clear hk e1 hps hrm hTw hpm eB R6
                    go_wp2_with fail
                    refine HSM.out.mono ?_
                    rintro e w6 ⟨rfl, hm6⟩
                    have HB6 := hide (HB5.out.trans (hm6.below.mono HB5.out.size))
                    clear hm6 HSM
                    go_wp2
                    exact ⟨⟨m + 1, by omega, by go_num, by rw [HPS.out, if_pos HK.out], HB6.out⟩, by simp [intOf]; omega⟩
                  · have e1 : (lexN s2.S[m].key y.key == 0) = false := beq_eq_false_iff_ne.2 fun h => hk (lexN_zero _ _ h)
                    rw [e1] at HSM
                    have HK := hide hk
                    clear hk e1 hps hrm hTw hpm eB R6
                    go_wp2_with fail
                    refine HSM.out.mono ?_
                    rintro e w6 ⟨rfl, hm6⟩
                    have HB6 := hide (HB5.out.trans (hm6.below.mono HB5.out.size))
                    clear hm6 HSM
                    go_wp2
                    exact ⟨⟨m + 1, by omega, by go_num, by rw [HPS.out, if_neg HK.out], HB6.out⟩, by simp [intOf]; omega⟩
                · obtain rfl : m = n2 := by omega
                  have hkd3 : decide (m < m) = false := by simp
                  have hall : s2.S.take m = s2.S := List.take_of_length_le (by rw [← HN2.out]; exact Nat.le_refl _)
                  rw [hall]
                  have HR6 := hide R6
                  have HC6 := hide (HC5.out.keep HB5.out)
                  clear R6 hall HC5 HR5
                  cases hpo : posL y s2.S with
                  | some qq =>
                    have hneg : decide ((qq : Int) < 0) = false := decide_eq_false (by omega)
                    obtain ⟨hqq, hkq⟩ := posL_some hpo
                    have hys : y.size ≤ 20000 := by
                      have e := key_inj (HR6.out.ok.wf _ (List.getElem_mem hqq)).k HYW.out.k hkq
                      rw [← e]; exact HR6.out.ok.low _ (List.getElem_mem hqq)
                    have heq := HR6.out.eq
                    rw [rowA_drop hlt2, ← HHB.out, ← HY.out, fnd_old hys hpo] at heq
                    have heq : rowA 200 x hs s1 [] = rowA 200 x (hs.drop (j + 1)) s2 (acc ++ [qq]) := heq
                    obtain ⟨v', W5, hr, hnew⟩ := HR6.out.place (q := qq) hWr (by rw [HR6.out.len]; omega) heq
                    obtain ⟨a', m', c', rfl⟩ : ∃ a m c, v' = Value.slice a m c := by
                      obtain ⟨a, c, e, -⟩ := hnew.row.slice
                      exact ⟨a, _, c, e⟩
                    have HNEW := hide hnew
                    clear hnew heq hys hkq hpo
                    show Code.wp _ _ _ _ _
                    go_wp2_with (refine wpList_append_run rfl _ _ _ rfl _ _ _ rfl rfl hr ?_)
                    exact ⟨⟨j + 1, s2, ps2, acc ++ [qq], by omega, by go_num, HNEW.out⟩, by simp [intOf]; omega⟩
                  | none =>
                    have hneg : decide ((-1 : Int) < 0) = true := by decide
                    obtain ⟨v', W5, hr, q1, q2, q3, q4, q5, q6, q7, q8⟩ := HR6.out.push HC6.out (by rw [HPSL2.out]; omega)
                    obtain ⟨a', c', hv', -⟩ := q1.slice
                    rw [ptrs_length, List.length_append, HPSL2.out] at hv'
                    simp only [List.length_cons, List.length_nil, Nat.zero_add] at hv'
                    subst hv'
                    have HQ1 := hide q1
                    have HQ2 := hide q2
                    have HQ3 := hide q3
                    have HQ4 := hide q4
                    have HQ5 := hide q5
                    have HQ6 := hide q6
                    have HQ7 := hide q7
                    have HQ8 := hide q8
                    have HPO := hide hpo
                    have HSZ := hide (size_any c y W5 (q2 (c, y) (by simp)))
                    clear q1 q2 q3 q4 q5 q6 q7 q8 hpo
                    unfold PT at hr HSZ
                    have hfail : ((200 : Int) < (m : Int) + 1 ∨ 20000 < y.size) → (bldF 200 (pl.map least) r 0).2 = none := fun hor => by
                      have hf : ∃ s', fnd 200 s2 y = (s', none) := by
                        rcases fnd_ways HR6.out.ok HYW.out with ⟨q', hp', -⟩ | ⟨-, -, hn⟩ | ⟨-, h1, h2, -⟩
                        · rw [HPO.out] at hp'; cases hp'
                        · exact ⟨(fnd 200 s2 y).1, by rw [← hn]⟩
                        · rw [← HN2.out] at h1; omega
                      obtain ⟨s', hf⟩ := hf
                      have heq := HR6.out.eq
                      rw [rowA_drop hlt2, ← HHB.out, ← HY.out, hf] at heq
                      have heq : rowA 200 x hs s1 [] = (s', none) := heq
                      rw [HX.out] at heq
                      rw [HBF.out, HS.out.fail hq1 heq]
                    have HFAIL := hide hfail
                    clear hfail
                    by_cases hbig : 200 < m + 1
                    · have hd1 : decide ((m : Int) + 1 > 200) = true := decide_eq_true (by omega)
                      go_wp2_with (refine wpList_append_run rfl _ _ _ rfl _ _ _ rfl rfl hr ?_)
                      refine bodyPost_ret (v := .tuple #[.slice none 0 0, .slice none 0 0, .slice none 0 0, .bool false]) (by simp [results, Tryz.results11, go_sem]) rfl ?_
                      exact ⟨pl, HP1.out, HP2.out, HQ7.out, .inl ⟨HFAIL.out (.inl (by omega)), rfl⟩⟩
                    · have hd1 : decide ((m : Int) + 1 > 200) = false := decide_eq_false (by omega)
                      go_wp2_with (first | (refine wpList_append_run rfl _ _ _ rfl _ _ _ rfl rfl hr ?_) | fail)
                      refine HSZ.out.mono ?_
                      rintro e w7 ⟨rfl, rfl⟩
                      by_cases hsz : 20000 < y.size
                      · have hd2 : decide ((y.size : Int) > 20000) = true := decide_eq_true (by omega)
                        go_wp2
                        refine bodyPost_ret (v := .tuple #[.slice none 0 0, .slice none 0 0, .slice none 0 0, .bool false]) (by simp [results, Tryz.results11, go_sem]) rfl ?_
                        exact ⟨pl, HP1.out, HP2.out, HQ7.out, .inl ⟨HFAIL.out (.inr hsz), rfl⟩⟩
                      · have hd2 : decide ((y.size : Int) > 20000) = false := decide_eq_false (by omega)
                        have hfy : fnd 200 s2 y = (⟨s2.S ++ [y], s2.t + 1⟩, some s2.S.length) := by
                          rcases fnd_ways HR6.out.ok HYW.out with ⟨q', hp', -⟩ | ⟨-, hh, -⟩ | ⟨-, -, -, he⟩
                          · rw [HPO.out] at hp'; cases hp'
                          · rw [← HN2.out] at hh; omega
                          · exact he
                        obtain ⟨k1, k2, -, -, -, k6⟩ := fnd_ok HR6.out.ok HYW.out hfy
                        have heq := HR6.out.eq
                        rw [rowA_drop hlt2, ← HHB.out, ← HY.out, hfy] at heq
                        have heq : rowA 200 x hs s1 [] = rowA 200 x (hs.drop (j + 1)) ⟨s2.S ++ [y], s2.t + 1⟩ (acc ++ [s2.S.length]) := heq
                        have heq2 : rowA 200 x hs s1 [] = rowA 200 x (hs.drop j) ⟨s2.S ++ [y], s2.t + 1⟩ acc := by
                          rw [heq, rowA_drop hlt2, ← HHB.out, ← HY.out, fnd_old (by omega) k6]
                        have hnew0 : SrW W Wq w7 x hs s1 j ⟨s2.S ++ [y], s2.t + 1⟩ (.slice a' (m + 1) c') (.slice (some ⟨g1, 0, none⟩) pl.length ch) (.slice vra q vrc) (.slice vw j vwc) (ps2 ++ [(c, y)]) vrs acc :=
                          ⟨HQ1.out, HQ2.out, by rw [List.map_append, HR6.out.S]; rfl, HQ3.out, HQ4.out, HQ5.out, HQ6.out, k1, HR6.out.le.trans k2, HQ7.out, HQ8.out, HR6.out.len, heq2⟩
                        rw [← HN2.out] at heq
                        obtain ⟨v', W8, hr8, hnew⟩ := hnew0.place (q := m) hWr (by rw [HR6.out.len]; omega) heq
                        obtain ⟨a8, m8, c8, rfl⟩ : ∃ a m c, v' = Value.slice a m c := by
                          obtain ⟨a, c, e, -⟩ := hnew.row.slice
                          exact ⟨a, _, c, e⟩
                        have HNEW := hide hnew
                        clear hnew hnew0 heq heq2 hfy k1 k2 k6
                        go_wp2_with (refine wpList_append_run rfl _ _ _ rfl _ _ _ rfl rfl hr8 ?_)
                        exact ⟨⟨j + 1, _, _, _, by omega, by go_num, HNEW.out⟩, by simp [intOf]; omega⟩
            · obtain rfl : j = hs.length := by omega
              have hkd2 : decide (hs.length < hs.length) = false := by simp
              have hkd2' : decide (hs.length < pl.length) = false := by rw [HPE.out]; simp
              have heq := RW.eq
              rw [List.drop_length] at heq
              have heq : rowA 200 x hs s1 [] = (s2, some acc) := heq
              have HEQ := hide heq
              clear heq hn2 hpsl2
              have RW := HR.out
              obtain ⟨j1, j2, j3⟩ := HS.out.next hq1 (by rw [← HX.out]; exact HEQ.out)
              have hb4 := (Below.refl wr.heap.size wr).alloc (Nat.le_refl _) (.cells #[.slice vw hs.length vwc] 41)
              have R4 := RW.keep hb4
              obtain ⟨v', W5, hr, ho, ha⟩ := run_appendG 30 41 30 (.slice none 0 0) 24 Tryz.underlying30 infoRow (by omega) rfl R4.rw ⟨wr.heap.size, 0, none⟩ 1 [.slice vw hs.length vwc] (by simp)
                (World.news_of_block (Blk.newAt (w := wr) rfl #[.slice vw hs.length vwc] 41)) (fun y hy => by simp at hy; subst hy; rfl) (by rw [HS.out.rl, HS.out.len]; simp; omega) (by have := RW.below.size; simp; omega)
              have hlr := HS.out.rl
              have hln := HS.out.len
              have hnew : StW W W5 hs ⟨[r], 1⟩ (q + 1) s2 (.slice va2 n2 vc2) (.slice ah pl.length ch) v' ps2 (vrs ++ [.slice vw hs.length vwc]) (rows ++ [acc]) := by
                refine ⟨R4.all.app ha (by decide), fun p hp => (R4.elem p hp).app ha (by decide) app_slice_pt, R4.S, R4.hd.app ha (by decide), ho, by simp [hlr], fun i hi => ?_, j1, R4.below.trans ha.below, by simp [hln], ?_, j3⟩
                · simp at hi
                  by_cases hlt : i < rows.length
                  · rw [show (vrs ++ [Value.slice vw hs.length vwc]).getD i (.slice none 0 0) = vrs.getD i (.slice none 0 0) from by simp [List.getD_eq_getElem?_getD, List.getElem?_append_left (show i < vrs.length by rw [hlr]; exact hlt)],
                      show (rows ++ [acc]).getD i [] = rows.getD i [] from by simp [List.getD_eq_getElem?_getD, List.getElem?_append_left hlt]]
                    rcases HS.out.row i hlt with h | ⟨g, cap, cur, e, k1, k2, k3⟩
                    · exact .inl h
                    · exact .inr ⟨g, cap, cur, e, k1, ha.blk (R4.ints g cur k2) (by decide), k3⟩
                  · have e : i = rows.length := by omega
                    subst e
                    rw [show (vrs ++ [Value.slice vw hs.length vwc]).getD rows.length (.slice none 0 0) = .slice vw hs.length vwc from by rw [← hlr]; simp [List.getD_eq_getElem?_getD], show (rows ++ [acc]).getD rows.length [] = acc from by simp [List.getD_eq_getElem?_getD]]
                    exact (R4.row.lower hWr).app ha (by decide)
                · have := j2.len; omega
              obtain ⟨a', m', c', rfl⟩ : ∃ a m c, v' = Value.slice a m c := by
                obtain ⟨a, c, e, -⟩ := ho.slice
                exact ⟨a, _, c, e⟩
              have HNEW := hide hnew
              clear hnew ho ha R4 hb4 j1 j2 j3 RW hlr hln
              go_wp2_with (refine wpList_append_run rfl _ _ _ rfl _ _ _ rfl rfl hr ?_)
              exact ⟨⟨q + 1, _, _, _, _, by go_num, HNEW.out⟩, by simp [intOf]; omega⟩
        · have hkd : decide (q < n1) = false := by simp [hlt]
          have hdone := SW.done (by rw [← hn1]; exact hlt)
          have HDN := hide hdone
          clear hdone hn1 SW hpsl
          go_wp2
          refine bodyPost_ret (v := .tuple #[.slice va n1 vc, .slice ah pl.length ch, .slice vra q vrc, .bool true]) (by simp [results, Tryz.results11, go_sem]) rfl ?_
          have hql : rows.length = q := HS.out.len
          refine ⟨pl, HP1.out, HP2.out, HS.out.below, .inr ⟨s1, rows, _, _, _, ps, vrs, by rw [HBF.out, HDN.out], rfl, ?_⟩⟩
          rw [hql, ← HHS.out]; exact HS.out
end Go.Proofs.YtaljhelldobghaaGreatDoor
/- DfaBuilds: the states of any expression, by the page, step by step. -/
namespace Go.Proofs.YtaljhelldobghaaGreatDoor
set_option maxRecDepth 100000
set_option linter.unusedSimpArgs false
set_option linter.unusedVariables false
open Go.RowKit

theorem x_convV (ρ : Operand → Value) (d : Option Tmp) (x : Operand) (t : TypeId) (pos : String) (af : Array Edge) (g : Option (Nat × Bool)) (V : Value) (l : List Nat) (b cap : Nat) (hx : ρ x = .slice (some ⟨b, 0, none⟩) l.length cap) (w : World) (hc : ∀ (j : Nat) u, (byteV l)[j]? = some u → w.cell? ⟨b, j, none⟩ = some u) :
    (execOp ρ { dst := d, op := .convert 29 9 x, type := t, pos := pos, after := af, guard := g }).run Tryz.prog w = .ok (.value (.string (strB l))) w := by
  have h : (convert 29 9 (.slice (some ⟨b, 0, none⟩) l.length cap)).run Tryz.prog w = .ok (.string (strB l)) w := by
    refine run_convert_bytes_arg _ 29 5 Tryz.underlying29 Tryz.underlying5 b 0 _ cap (l.map fun x : Nat => (x : Int)) (by simp) (fun i hi => ?_) 9 Tryz.underlying9
    rw [Nat.zero_add]
    refine hc i _ ?_
    simp [byteV, List.getD_eq_getElem?_getD, hi]
  simp [go_sem, hx, h]
theorem x_strSame (ρ : Operand → Value) (d : Option Tmp) (x y : Operand) (t : TypeId) (pos : String) (af : Array Edge) (g : Option (Nat × Bool)) (u : ByteArray) (hx : ρ x = .string u) (hy : ρ y = .string u) (w : World) :
    (execOp ρ { dst := d, op := .binOp .neq 9 x y 9, type := t, pos := pos, after := af, guard := g }).run Tryz.prog w = .ok (.value (.bool false)) w := by
  simp [go_sem, hx, hy]
theorem x_intSame (ρ : Operand → Value) (d : Option Tmp) (x y : Operand) (t : TypeId) (pos : String) (af : Array Edge) (g : Option (Nat × Bool)) (u : Int) (hx : ρ x = .int .i64 u) (hy : ρ y = .int .i64 u) (w : World) :
    (execOp ρ { dst := d, op := .binOp .neq 3 x y 3, type := t, pos := pos, after := af, guard := g }).run Tryz.prog w = .ok (.value (.bool false)) w := by
  simp [go_sem, hx, hy]
theorem x_errSame (ρ : Operand → Value) (d : Option Tmp) (x y : Operand) (t : TypeId) (pos : String) (af : Array Edge) (g : Option (Nat × Bool)) (u : Int) (hx : ρ x = .int .i64 u) (hy : ρ y = .int .i64 u) (w : World) :
    (execOp ρ { dst := d, op := .binOp .neq 36 x y 36, type := t, pos := pos, after := af, guard := g }).run Tryz.prog w = .ok (.value (.bool false)) w := by
  simp [go_sem, hx, hy]

theorem x_idxA (ρ : Operand → Value) (d : Option Tmp) (x y : Operand) (t : TypeId) (pos : String) (af : Array Edge) (g : Option (Nat × Bool)) (b len cap n : Nat) (hx : ρ x = .slice (some ⟨b, 0, none⟩) len cap) (hy : ρ y = .int .i64 n) (h1 : n < len) (w : World) :
    (execOp ρ { dst := d, op := .indexAddr 28 x y, type := t, pos := pos, after := af, guard := g }).run Tryz.prog w = .ok (.value (.pointer (some ⟨b, n, none⟩))) w := by
  simp [go_sem, hx, hy, h1]
theorem x_idxI (ρ : Operand → Value) (d : Option Tmp) (x y : Operand) (t : TypeId) (pos : String) (af : Array Edge) (g : Option (Nat × Bool)) (b len cap n : Nat) (hx : ρ x = .slice (some ⟨b, 0, none⟩) len cap) (hy : ρ y = .int .i64 n) (h1 : n < len) (w : World) :
    (execOp ρ { dst := d, op := .indexAddr 41 x y, type := t, pos := pos, after := af, guard := g }).run Tryz.prog w = .ok (.value (.pointer (some ⟨b, n, none⟩))) w := by
  simp [go_sem, hx, hy, h1]
theorem x_boolSame (ρ : Operand → Value) (d : Option Tmp) (x y : Operand) (t : TypeId) (pos : String) (af : Array Edge) (g : Option (Nat × Bool)) (u : Bool) (hx : ρ x = .bool u) (hy : ρ y = .bool u) (w : World) :
    (execOp ρ { dst := d, op := .binOp .neq 4 x y 4, type := t, pos := pos, after := af, guard := g }).run Tryz.prog w = .ok (.value (.bool false)) w := by
  cases u <;> simp [go_sem, hx, hy]

theorem intV_get (l : List Nat) (i : Nat) (h : i < l.length) : (intV l)[i]? = some (.int .i64 ((l.getD i 0 : Nat) : Int)) := by
  simp [intV, List.getD_eq_getElem?_getD, h]

/-- What Build comes to by as many as there are, and by one less. -/
theorem bld_unique {r : RE} {pl pl' : List (BitVec 256)} (h : pl.Perm (refL (r.sts false))) (h' : pl'.Perm (refL (r.sts false))) (hs : pl.Pairwise fun x y => least x ≤ least y) (hs' : pl'.Pairwise fun x y => least x ≤ least y) : pl' = pl :=
  parts_one h' h (fun _ _ _ _ => Iff.rfl) hs' hs

set_option maxHeartbeats 4000000 in
theorem dfaBuilds_any (cs : List Value) (s : SHP) (w : World) (hs : ShC w cs s) (hT : TabAt w) :
    Calls Tryz.prog 3 #[ShVal cs] w fun e w' => e = .returned (.bool true) ∧ Below w.heap.size w w' := by
  have HC := hide hs
  have HT := hide hT
  obtain ⟨kv, hcs, hrow, -⟩ := hs.open
  obtain ⟨-, a, cap, rfl, -⟩ := hrow.at
  have HCS := hide hcs
  have hv0 : ShVal cs = .agg #[.int .i64 s.op, .int .u8 s.lo, .int .u8 s.hi, .string s.text, .slice a s.kids.length cap] := by rw [hcs]; rfl
  rw [hv0]
  have HV0 := hide hv0
  clear hs hT hrow hcs hv0
  obtain ⟨B, hB⟩ : ∃ B, B = w.heap.size := ⟨_, rfl⟩
  go_enter Tryz.func3, Tryz.ntmps3
  go_wp2_with fail
  have hb0 : Below B w (w.alloc (.cells #[.int .i64 s.op, .int .u8 s.lo, .int .u8 s.hi, .string s.text, .slice a s.kids.length cap] 24)) := (Below.refl _ _).alloc (Nat.le_of_eq hB) _
  have hbx : Blk (w.alloc (.cells #[.int .i64 s.op, .int .u8 s.lo, .int .u8 s.hi, .string s.text, .slice a s.kids.length cap] 24)) B #[.int .i64 s.op, .int .u8 s.lo, .int .u8 s.hi, .string s.text, .slice a s.kids.length cap] 24 := Blk.newAt hB _ _
  refine (head6_any _ (HT.out.agree (Agree.of_all (K := fun _ => True) (hB ▸ hb0)) trivial)).mono ?_
  rintro e w1 ⟨rfl, hb1⟩
  have hbx1 := hbx.below hb1 hbx.lt
  have HX1 := hide hbx1
  have HB1 := hide (hb0.trans (hb1.mono (by simp; omega)))
  have HB := hide hB
  rw [← hB]
  clear hb0 hbx hb1 hB
  have xB := hbx1
  have x0 := xB.cell 0; have x1 := xB.cell 1; have x2 := xB.cell 2; have x3 := xB.cell 3; have x4 := xB.cell 4
  simp only [List.getElem?_toArray, List.getElem?_cons_zero, List.getElem?_cons_succ] at x0 x1 x2 x3 x4
  clear xB
  clear hbx1
  have hfew := few_any s _ w1 (HC.out.keep (HB.out ▸ HB1.out))
  rw [HV0.out] at hfew
  have HFEW := hide hfew
  clear hfew
  go_wp2_with fail
  refine HFEW.out.mono ?_
  rintro e w2 ⟨few, rfl, hfw, hb2⟩
  have hsB1 : B ≤ w1.heap.size := by have := HX1.out.lt; omega
  have HB2 := hide (HB1.out.trans (hb2.mono hsB1))
  have hbx2 := HX1.out.below hb2 HX1.out.lt
  have HX2 := hide hbx2
  have HFW := hide hfw
  clear hb2 hfw HFEW x0 x1 x2 x3 x4 HX1 HB1
  cases few
  · clear hbx2
    go_wp2
    go_ret
    exact ⟨rfl, HB.out ▸ HB2.out⟩
  obtain ⟨htx, hnd⟩ := HFW.out rfl
  clear HFW
  have xB := hbx2
  have x0 := xB.cell 0; have x1 := xB.cell 1; have x2 := xB.cell 2; have x3 := xB.cell 3; have x4 := xB.cell 4
  simp only [List.getElem?_toArray, List.getElem?_cons_zero, List.getElem?_cons_succ] at x0 x1 x2 x3 x4
  clear xB
  clear hbx2
  have hsB2 : B ≤ w2.heap.size := by have := HX2.out.lt; omega
  have hmk := make_any s _ w2 (HC.out.keep (HB.out ▸ HB2.out)) htx hnd (HT.out.agree (Agree.of_all (K := fun _ => True) (HB.out ▸ HB2.out)) trivial)
  rw [HV0.out] at hmk
  have HMK := hide hmk
  clear hmk
  go_wp2_with fail
  refine HMK.out.mono ?_
  rintro e w3 ⟨rb, rfl, hr3, hb3⟩
  have HB3 := hide (HB2.out.trans (hb3.mono hsB2))
  have HR3 := hide hr3
  have hsB3 : B ≤ w3.heap.size := by have := hb3.size; omega
  have hwf := s.wf
  have hcnt : s.re.cnt ≤ 660 := by have := s.cnt htx; omega
  clear x0 x1 x2 x3 x4 HX2 HB2 HMK hsB2 hsB1 hb3 hr3
  have HST := hide (states_any s.re rb w3 HR3.out hwf hcnt (HT.out.agree (Agree.of_all (K := fun _ => True) (HB.out ▸ HB3.out)) trivial))
  unfold PT at HST
  try unfold PT
  go_wp2_with fail
  refine HST.out.mono ?_
  rintro e w4 ⟨pl, hp1, hp2, hb4, hh⟩
  have HB4 := hide (HB3.out.trans (hb4.mono hsB3))
  have HR4 := hide (HR3.out.keep hb4)
  have hsB4 : B ≤ w4.heap.size := Nat.le_trans hsB3 hb4.size
  have HP1 := hide hp1
  have HP2 := hide hp2
  have HT4 := hide (HT.out.agree (Agree.of_all (K := fun _ => True) (HB.out ▸ HB4.out)) trivial)
  clear hb4 hp1 hp2 HST HR3
  rcases hh with ⟨hnone, rfl⟩ | ⟨st, rows, vA, vh, vR, ps, vrs, hbld, rfl, hst⟩
  · have HNONE := hide hnone
    clear hnone
    go_wp2_with fail
    refine (grant_any 200 w4 (by omega)).mono ?_
    rintro e w5 ⟨bud, rfl, hbd, hbl, hb5⟩
    rw [show max (200 : Int) 0 = 200 from by omega] at hbd
    have HB5 := hide (HB4.out.trans (hb5.mono hsB4))
    have hwb : B ≤ bud := Nat.le_trans hsB4 hbl
    have hsB5 : B ≤ w5.heap.size := Nat.le_trans hsB4 hb5.size
    have HBU := hide (build_new s.re rb w5 (HR4.out.keep hb5) hwf bud 200 hbd (by omega) (by omega) (HT.out.agree (Agree.of_all (K := fun _ => True) (HB.out ▸ HB5.out)) trivial))
    clear hbd hbl hb5
    unfold PT at HBU
    try unfold PT
    go_wp2_with fail
    refine HBU.out.mono ?_
    rintro e w6 ⟨pl', hq1, hq2, hl, hh⟩
    obtain rfl := bld_unique HP1.out hq1 HP2.out hq2
    have HB6 := hide (HB5.out.trans (hl.below hsB5 hwb))
    rcases hh with ⟨-, rfl, hbu, hok⟩ | ⟨sb, rows, p, hh, -⟩
    · have HUD := hide (used_any bud 200 _ w6 hbu)
      have hle : usedI (bldF 200 (pl'.map least) s.re 0).1.t ≤ 200 := hok.2
      generalize usedI (bldF 200 (pl'.map least) s.re 0).1.t = us at *
      have hud : decide (us ≤ 200) = true := decide_eq_true hle
      clear hl hbu hok HBU hq1 hq2
      unfold PT at HUD
      go_wp2_with fail
      refine HUD.out.mono ?_
      rintro e w7 ⟨rfl, rfl⟩
      go_wp2
      go_ret
      exact ⟨rfl, HB.out ▸ HB6.out⟩
    · have := HNONE.out
      rw [hh] at this
      cases this
  · have hwr := hwf
    obtain ⟨-, hro, hrn, -, hn0⟩ := bldF_ok hwf (by omega) hbld
    have hip : IsPart (s.re.sts false) pl := (isPart_ref (s.re.sts false)).perm HP1.out
    have HIP := hide hip
    have hpl0 : 0 < pl.length := by have := (head_of hip (b := 0) (by omega)).1; omega
    obtain ⟨hall, helem, hS, hhd, hrw, hrl, hrow, hbok, -, hlen, hle, -⟩ := hst
    have hbt := hbok.t
    have hbg := hbok.g
    obtain ⟨n, hn⟩ : ∃ n, n = st.S.length := ⟨_, rfl⟩
    have hpn : ps.length = n := by rw [hn, ← hS]; simp
    have hrn2 : rows.length = n := by omega
    have hn200 : n ≤ 200 := by omega
    have hn1 : 0 < n := by omega
    have hst2 : st.t = n := by omega
    obtain ⟨m, hm⟩ : ∃ m, m = pl.length := ⟨_, rfl⟩
    have hm0 : 0 < m := by omega
    have hm256 : m ≤ 256 := by have := parts_256 hip; omega
    obtain ⟨ga, ca, rfl, -, hgal, -, hca⟩ := hall.at (by simp [ptrs]; omega)
    obtain ⟨gh, ch, rfl, -, hghl, -, hch⟩ := hhd.at (by simp [byteV]; omega)
    obtain ⟨gr, cr, rfl, -, hgrl, -, hcr⟩ := hrw.at (by omega)
    rw [show (ptrs ps).length = n from by simp [ptrs]; exact hpn] at *
    rw [show (byteV (pl.map least)).length = m from by simp [byteV]; exact hm.symm] at *
    rw [show vrs.length = n from by omega]
    have HM := hide hm
    have HVL := hide (show vrs.length = n from by omega)
    have HN := hide hn
    have HCA := hide hca
    have HCH := hide hch
    have HCR := hide hcr
    have HROW := hide hrow
    have HEL := hide helem
    have HRO := hide hro
    have HSS := hide hS
    have HBLD := hide hbld
    have HPN := hide hpn
    have HRN := hide hrn2
    clear hall hhd hrw hrl hrow hbok hlen hle hca hch hcr helem hro hrn hn0 hip hS hbld hpn hpl0 hm hn hbt hbg
    go_wp2_with fail
    refine (grant_any n w4 (by omega)).mono ?_
    rintro e w5 ⟨bud, rfl, hbd, hbl, hb5⟩
    rw [show max (n : Int) 0 = n from by omega] at hbd
    have HB5 := hide (HB4.out.trans (hb5.mono hsB4))
    have HQ5 := hide hb5
    have hwb : B ≤ bud := Nat.le_trans hsB4 hbl
    have hsB5 : B ≤ w5.heap.size := Nat.le_trans hsB4 hb5.size
    have HBU := hide (build_new s.re rb w5 (HR4.out.keep hb5) hwf bud n hbd (by omega) (by omega) (HT.out.agree (Agree.of_all (K := fun _ => True) (HB.out ▸ HB5.out)) trivial))
    clear hbd hb5
    unfold PT at HBU
    try unfold PT
    go_wp2_with fail
    refine HBU.out.mono ?_
    rintro e w6 ⟨pl', hq1, hq2, hl, hh⟩
    obtain rfl := (bld_unique HP1.out hq1 HP2.out hq2).symm
    have hoth := bldF_other (g' := n) hwf (by omega) HBLD.out (by have := HN.out; omega)
    rcases hh with ⟨hno, -⟩ | ⟨s2, rows2, p, hb2, rfl, hpl, hd, hbu, ht⟩
    · rw [hoth] at hno
      cases hno
    rw [hoth] at hb2
    obtain ⟨rfl, rfl⟩ : st = s2 ∧ rows = rows2 := by injection hb2 with e1 e2; injection e2 with e2; exact ⟨e1, e2⟩
    have HB6 := hide (HB5.out.trans (hl.below hsB5 hwb))
    have HQ6 := hide (HQ5.out.trans (hl.below HQ5.out.size hbl))
    have HD6 := hide hd
    have HBU6 := hide hbu
    clear hoth hb2 ht hpl hd hbu hl hq1 hq2 HBU HQ5 hbl
    go_wp2
    obtain ⟨S, hSd⟩ : ∃ S : World → Prop, S = fun W => Below w6.heap.size { w6 with drawn := w6.drawn + 1 } W := ⟨_, rfl⟩
    have hS : S { w6 with drawn := w6.drawn + 1 } := by rw [hSd]; exact Below.refl _ _
    have hkeep : ∀ W, S W → Below w4.heap.size w4 W := fun W h => by
      rw [hSd] at h
      have h1 : Below w6.heap.size w6 { w6 with drawn := w6.drawn + 1 } := ⟨rfl, rfl, rfl, Nat.le_refl _, fun _ _ => rfl⟩
      exact HQ6.out.trans ((h1.trans h).mono HQ6.out.size)
    have h1 : Below w6.heap.size w6 { w6 with drawn := w6.drawn + 1 } := ⟨rfl, rfl, rfl, Nat.le_refl _, fun _ _ => rfl⟩
    have HDW := hide (HD6.out.keep h1)
    have HBW := hide (HBU6.out.below h1 HBU6.out.blk.lt)
    have hWs : w6.heap.size = ({ w6 with drawn := w6.drawn + 1 } : World).heap.size := rfl
    have hbS : ∀ W, Below ({ w6 with drawn := w6.drawn + 1 } : World).heap.size { w6 with drawn := w6.drawn + 1 } W → S W := fun W h => by rw [hSd]; exact h
    clear hSd h1 hWs
    have hml : m = (pl.map least).length := by simp; exact HM.out
    have hcv : ∀ w, S w → ∀ (j : Nat) u, (byteV (pl.map least))[j]? = some u → w.cell? ⟨gh, j, none⟩ = some u := fun w hw j u hj => by
      have hcl := HCH.out j u hj
      rw [← hcl]
      exact World.cell?_of_block (w := w4) ((hkeep w hw).block gh (World.block_lt_of_cell? _ _ hcl))
    refine wp_region_noPanic (wp_region_held (S := S) (by kernel_rfl) ?_)
    show wpAnyH _ _ _ _ _ 24 #[false, false, false, false, false, false, false, false, false, false, false, false, false, false, false, false, false, false, false, false, false, false, false, false] _ _
    generalize ({ w6 with drawn := w6.drawn + 1 } : World) = W at hS hbS HDW HBW ⊢
    have HLN := hide HDW.out.len
    rw [← HN.out] at HLN
    have HUD := hide (used_any bud n _ W HBW.out)
    rw [hst2, show usedI (n : Int) = n from by unfold usedI; rw [if_neg (by omega)]] at HUD
    have HHE := hide HDW.out.heads
    refine h_take 0 (.int .i64 0) rfl (by kernel_rfl) (by kernel_rfl) (by kernel_rfl) rfl (fun w hw => x_move _ _ _ _ _ _ _ _ rfl w) hS ?_
    simp only [Act.put, List.setIfInBounds_toArray, List.set_cons_succ, List.set_cons_zero]
    refine h_take 1 (.bool false) rfl (by kernel_rfl) (by kernel_rfl) (by kernel_rfl) rfl (fun w hw => x_errSame _ _ _ _ _ _ _ _ 0 rfl rfl w) hS ?_
    simp only [Act.put, List.setIfInBounds_toArray, List.set_cons_succ, List.set_cons_zero]
    refine h_take 2 (.bool false) rfl (by kernel_rfl) (by kernel_rfl) (by kernel_rfl) rfl (fun w hw => x_move _ _ _ _ _ _ _ _ rfl w) hS ?_
    simp only [Act.put, List.setIfInBounds_toArray, List.set_cons_succ, List.set_cons_zero]
    refine h_take 3 (PT p) rfl (by kernel_rfl) (by kernel_rfl) (by kernel_rfl) rfl (fun w hw => x_move _ _ _ _ _ _ _ _ rfl w) hS ?_
    simp only [Act.put, List.setIfInBounds_toArray, List.set_cons_succ, List.set_cons_zero]
    refine h_take 5 (.slice (some ⟨ga, 0, none⟩) n ca) rfl (by kernel_rfl) (by kernel_rfl) (by kernel_rfl) rfl (fun w hw => x_move _ _ _ _ _ _ _ _ rfl w) hS ?_
    simp only [Act.put, List.setIfInBounds_toArray, List.set_cons_succ, List.set_cons_zero]
    refine h_take 6 (.int .i64 n) rfl (by kernel_rfl) (by kernel_rfl) (by kernel_rfl) rfl (fun w hw => x_lenP _ _ _ _ _ _ _ _ _ _ rfl w) hS ?_
    simp only [Act.put, List.setIfInBounds_toArray, List.set_cons_succ, List.set_cons_zero]
    refine h_callE 4 15 #[PT p] (fun v w' => v = .int .i64 n ∧ w' = W) rfl (by kernel_rfl) rfl (x_call1 _ _ _ _ _ _ _ _ _ _ rfl rfl (enters_of Tryz.func15 (by kernel_rfl) rfl) _) (HLN.out.mono fun e w' h => ⟨_, h.1, rfl, h.2⟩) (fun v w' h => by rw [h.2]; exact hS) ?_
    rintro v4 w7 ⟨rfl, rfl⟩
    simp only [Act.put, List.setIfInBounds_toArray, List.set_cons_succ, List.set_cons_zero]
    refine h_take 7 (.bool false) rfl (by kernel_rfl) (by kernel_rfl) (by kernel_rfl) rfl (fun w hw => x_intSame _ _ _ _ _ _ _ _ n rfl rfl w) hS ?_
    simp only [Act.put, List.setIfInBounds_toArray, List.set_cons_succ, List.set_cons_zero]
    refine h_take 8 (.bool false) rfl (by kernel_rfl) (by kernel_rfl) (by kernel_rfl) rfl (fun w hw => x_pick _ _ _ _ _ _ _ _ _ false (.bool true) (.bool false) rfl rfl rfl w) hS ?_
    simp only [Act.put, List.setIfInBounds_toArray, List.set_cons_succ, List.set_cons_zero]
    refine h_take 9 (.bool false) rfl (by kernel_rfl) (by kernel_rfl) (by kernel_rfl) rfl (fun w hw => x_move _ _ _ _ _ _ _ _ rfl w) hS ?_
    simp only [Act.put, List.setIfInBounds_toArray, List.set_cons_succ, List.set_cons_zero]
    refine h_take 10 (PT bud) rfl (by kernel_rfl) (by kernel_rfl) (by kernel_rfl) rfl (fun w hw => x_move _ _ _ _ _ _ _ _ rfl w) hS ?_
    simp only [Act.put, List.setIfInBounds_toArray, List.set_cons_succ, List.set_cons_zero]
    refine h_take 12 (.slice (some ⟨ga, 0, none⟩) n ca) rfl (by kernel_rfl) (by kernel_rfl) (by kernel_rfl) rfl (fun w hw => x_move _ _ _ _ _ _ _ _ rfl w) hS ?_
    simp only [Act.put, List.setIfInBounds_toArray, List.set_cons_succ, List.set_cons_zero]
    refine h_take 13 (.int .i64 n) rfl (by kernel_rfl) (by kernel_rfl) (by kernel_rfl) rfl (fun w hw => x_lenP _ _ _ _ _ _ _ _ _ _ rfl w) hS ?_
    simp only [Act.put, List.setIfInBounds_toArray, List.set_cons_succ, List.set_cons_zero]
    refine h_callE 11 14 #[PT bud] (fun v w' => v = .int .i64 n ∧ w' = w7) rfl (by kernel_rfl) rfl (x_call1 _ _ _ _ _ _ _ _ _ _ rfl rfl (enters_of Tryz.func14 (by kernel_rfl) rfl) _) (HUD.out.mono fun e w' h => ⟨_, h.1, rfl, h.2⟩) (fun v w' h => by rw [h.2]; exact hS) ?_
    rintro v5 w8 ⟨rfl, rfl⟩
    simp only [Act.put, List.setIfInBounds_toArray, List.set_cons_succ, List.set_cons_zero]
    refine h_take 14 (.bool false) rfl (by kernel_rfl) (by kernel_rfl) (by kernel_rfl) rfl (fun w hw => x_intSame _ _ _ _ _ _ _ _ n rfl rfl w) hS ?_
    simp only [Act.put, List.setIfInBounds_toArray, List.set_cons_succ, List.set_cons_zero]
    refine h_take 15 (.bool false) rfl (by kernel_rfl) (by kernel_rfl) (by kernel_rfl) rfl (fun w hw => x_pick _ _ _ _ _ _ _ _ _ false (.bool true) (.bool false) rfl rfl rfl w) hS ?_
    simp only [Act.put, List.setIfInBounds_toArray, List.set_cons_succ, List.set_cons_zero]
    refine h_take 16 (.bool false) rfl (by kernel_rfl) (by kernel_rfl) (by kernel_rfl) rfl (fun w hw => x_move _ _ _ _ _ _ _ _ rfl w) hS ?_
    simp only [Act.put, List.setIfInBounds_toArray, List.set_cons_succ, List.set_cons_zero]
    refine h_take 17 (PT p) rfl (by kernel_rfl) (by kernel_rfl) (by kernel_rfl) rfl (fun w hw => x_move _ _ _ _ _ _ _ _ rfl w) hS ?_
    simp only [Act.put, List.setIfInBounds_toArray, List.set_cons_succ, List.set_cons_zero]
    refine h_take 20 (.slice (some ⟨gh, 0, none⟩) m ch) rfl (by kernel_rfl) (by kernel_rfl) (by kernel_rfl) rfl (fun w hw => x_move _ _ _ _ _ _ _ _ rfl w) hS ?_
    simp only [Act.put, List.setIfInBounds_toArray, List.set_cons_succ, List.set_cons_zero]
    refine h_take 21 (.string (strB (pl.map least))) rfl (by kernel_rfl) (by kernel_rfl) (by kernel_rfl) rfl (fun w hw => x_convV _ _ _ _ _ _ _ (.slice none 0 0) (pl.map least) gh ch (by rw [hml]; rfl) w (hcv w hw)) hS ?_
    simp only [Act.put, List.setIfInBounds_toArray, List.set_cons_succ, List.set_cons_zero]
    refine h_callE 18 16 #[PT p] (fun v w' => OwnG w' w8.heap.size 5 (.int .u8 0) v (byteV (pl.map least)) ∧ Below w8.heap.size w8 w') rfl (by kernel_rfl) rfl (x_call1 _ _ _ _ _ _ _ _ _ _ rfl rfl (enters_of Tryz.func16 (by kernel_rfl) rfl) _) (HHE.out.mono fun e w' ⟨v, h1, h2, h3⟩ => ⟨_, h1, h2, h3⟩) (fun v w' h => hbS _ h.2) ?_
    rintro v6 w9 ⟨ho9, hb9⟩
    simp only [Act.put, List.setIfInBounds_toArray, List.set_cons_succ, List.set_cons_zero]
    have hS9 := hbS _ hb9
    obtain ⟨g9, c9, rfl, -, -, -, hc9⟩ := ho9.at (by simp [byteV]; rw [← HM.out]; exact hm0)
    rw [show (byteV (pl.map least)).length = (pl.map least).length from by simp [byteV]]
    refine h_alloc 19 (.string (strB (pl.map least))) w9 rfl (by kernel_rfl) rfl (x_convV _ _ _ _ _ _ _ (.slice none 0 0) (pl.map least) g9 c9 rfl w9 hc9) hS9 ?_
    simp only [Act.put, List.setIfInBounds_toArray, List.set_cons_succ, List.set_cons_zero]
    refine h_take 22 (.bool false) rfl (by kernel_rfl) (by kernel_rfl) (by kernel_rfl) rfl (fun w hw => x_strSame _ _ _ _ _ _ _ _ _ rfl rfl w) hS9 ?_
    simp only [Act.put, List.setIfInBounds_toArray, List.set_cons_succ, List.set_cons_zero]
    refine h_take 23 (.bool false) rfl (by kernel_rfl) (by kernel_rfl) (by kernel_rfl) rfl (fun w hw => x_pick _ _ _ _ _ _ _ _ _ false (.bool true) (.bool false) rfl rfl rfl w) hS9 ?_
    simp only [Act.put, List.setIfInBounds_toArray, List.set_cons_succ, List.set_cons_zero]
    refine wpAnyH_done (by kernel_rfl) ?_ _
    refine NoPanic.normal ?_
    have HQ9 := hide (hkeep _ hS9)
    have HD9 := hide (HDW.out.keep hb9)
    have HBU9 := hide (HBW.out.below hb9 HBW.out.blk.lt)
    have HB9 := hide (HB4.out.trans (HQ9.out.mono hsB4))
    clear hc9 ho9 hb9 hS9 hS hbS hkeep hcv hml HLN HUD HHE HDW HBW HD6 HBU6 HQ6 HB6 HB5
    go_wp2
    go_loopw [90] (fun c wr => ∃ (q : Nat), q ≤ n ∧ c = .int .i64 q ∧ Hid (Below w9.heap.size w9 wr)) (fun c _ => n - (intOf c).toNat)
    case atStart => exact ⟨0, by omega, rfl, Below.refl _ _⟩
    case round =>
      obtain ⟨q, hq, rfl, HBI⟩ := hrel
      by_cases hqn : q < n
      · have hkd : decide (q < n) = true := by simp [hqn]
        have hii : (0 : Int) ≤ q ∧ (q : Int) < n := by omega
        have HQI := hide (HQ9.out.trans (HBI.out.mono HQ9.out.size))
        obtain ⟨g1, c1, e1, -, -, -, hc1⟩ := (HROW.out q (by rw [HRN.out]; exact hqn)).at (by rw [show (intV (rows.getD q [])).length = (rows.getD q []).length from by simp [intV], (HRO.out.2 q (by rw [HRN.out]; exact hqn)).len, List.length_map, ← HM.out]; exact hm0)
        rw [show (intV (rows.getD q [])).length = m from by rw [show (intV (rows.getD q [])).length = (rows.getD q []).length from by simp [intV], (HRO.out.2 q (by rw [HRN.out]; exact hqn)).len, List.length_map, ← HM.out]] at e1
        have hc0 : wr.cell? ⟨gr, q, none⟩ = some (.slice (some ⟨g1, 0, none⟩) m c1) := by
          have hcl := HCR.out q (.slice (some ⟨g1, 0, none⟩) m c1) (by
            rw [← e1, List.getD_eq_getElem?_getD]
            have hvl : q < vrs.length := by have := HVL.out; omega
            simp [hvl])
          rw [← hcl]
          exact World.cell?_of_block (w := w4) (HQI.out.block gr (World.block_lt_of_cell? _ _ hcl))
        have HC1 := hide hc1
        clear e1 hc1
        go_wp2
        clear hc0
        obtain ⟨pb, hpb⟩ : ∃ pb, pb = (ps.getD q (0, rNothing)).1 := ⟨_, rfl⟩
        obtain ⟨y, hy⟩ : ∃ y, y = (st.S.getD q rNothing).null := ⟨_, rfl⟩
        have hpl2 : q < ps.length := by rw [HPN.out]; exact hqn
        have hsq : st.S.getD q rNothing = (ps.getD q (0, rNothing)).2 := by
          rw [← HSS.out]
          simp [List.getD_eq_getElem?_getD, hpl2]
        have hre : ReAt w4 pb (st.S.getD q rNothing) := by
          rw [hsq, hpb]
          exact HEL.out _ (by simp [List.getD_eq_getElem?_getD, hpl2])
        obtain ⟨C, hC⟩ : ∃ C : World → Prop, C = fun W => Below wr.heap.size wr W := ⟨_, rfl⟩
        have hcb : ∀ W, C W → Below wr.heap.size wr W := fun W h => by rw [hC] at h; exact h
        have hG : Grows C := fun W W' h hb => by rw [hC] at h ⊢; exact h.trans (hb.mono h.size)
        have hyb : yesB (st.S.map RE.null) rows.length q = y := by
          rw [show rows.length = st.S.length from by rw [HRN.out]; exact HN.out, yesB_null, hy]
          unfold yesN
          rw [decide_eq_true (by have := HN.out; omega), Bool.true_and, Int.toNat_natCast]
        have hq1 : ∀ W, C W → Calls Tryz.prog 17 #[PT p, .int .i64 q] W fun e w' => e = .returned (.bool y) ∧ Below W.heap.size W w' := fun W hW => by
          refine (dyes_all p _ _ rows _ _ _ q W (HD9.out.keep (HBI.out.trans ((hcb W hW).mono HBI.out.size))).at' (by rw [List.length_map, HRN.out]; exact HN.out.symm)).mono ?_
          rintro e w' ⟨rfl, rfl⟩
          rw [hyb]
          exact ⟨rfl, Below.refl _ _⟩
        have hq2 : ∀ W, C W → Calls Tryz.prog 18 #[PT pb] W fun e w' => e = .returned (.bool y) ∧ Below W.heap.size W w' := fun W hW => by
          refine (null_any pb _ W (hre.keep (HQI.out.trans ((hcb W hW).mono HQI.out.size)))).mono ?_
          rintro e w' ⟨rfl, rfl⟩
          rw [hy]
          exact ⟨rfl, Below.refl _ _⟩
        have hqc : ∀ W, C W → W.cell? ⟨ga, q, none⟩ = some (PT pb) := fun W hW => by
          have hb := HQI.out.trans ((hcb W hW).mono HQI.out.size)
          have hcl := HCA.out q (PT pb) (by rw [hpb]; simp [ptrs, List.getD_eq_getElem?_getD, hpl2])
          rw [← hcl]
          exact World.cell?_of_block (w := w4) (hb.block ga (World.block_lt_of_cell? _ _ hcl))
        have HCS : Hid (C { wr with drawn := wr.drawn + 1 }) := by
          rw [hC]
          exact ⟨rfl, rfl, rfl, Nat.le_refl _, fun _ _ => rfl⟩
        have HCB := hide hcb
        clear hC hcb hpb hy hpl2 hsq hyb
        refine w_lit (C := C) (by kernel_rfl) (by kernel_rfl) HCS.out ?_
        refine w_value (PT p) (by kernel_rfl) (fun w hw => x_move _ _ _ _ _ _ _ _ rfl w) ?_
        simp only [Act.put, List.setIfInBounds_toArray, List.set_cons_succ, List.set_cons_zero]
        refine w_value (.int .i64 q) (by kernel_rfl) (fun w hw => x_move _ _ _ _ _ _ _ _ rfl w) ?_
        simp only [Act.put, List.setIfInBounds_toArray, List.set_cons_succ, List.set_cons_zero]
        refine w_call hG 17 #[PT p, .int .i64 q] (.bool y) (by kernel_rfl) (fun w => x_call2 _ _ _ _ _ _ _ _ _ _ _ _ _ rfl rfl rfl (enters_of Tryz.func17 (by kernel_rfl) rfl) w) (fun w hw => hq1 w hw) ?_
        simp only [Act.put, List.setIfInBounds_toArray, List.set_cons_succ, List.set_cons_zero]
        refine w_value (.slice (some ⟨ga, 0, none⟩) n ca) (by kernel_rfl) (fun w hw => x_move _ _ _ _ _ _ _ _ rfl w) ?_
        simp only [Act.put, List.setIfInBounds_toArray, List.set_cons_succ, List.set_cons_zero]
        refine w_value (.int .i64 q) (by kernel_rfl) (fun w hw => x_move _ _ _ _ _ _ _ _ rfl w) ?_
        simp only [Act.put, List.setIfInBounds_toArray, List.set_cons_succ, List.set_cons_zero]
        refine w_value (.pointer (some ⟨ga, q, none⟩)) (by kernel_rfl) (fun w hw => x_idxA _ _ _ _ _ _ _ _ ga n ca q rfl rfl hqn w) ?_
        simp only [Act.put, List.setIfInBounds_toArray, List.set_cons_succ, List.set_cons_zero]
        refine w_value (PT pb) (by kernel_rfl) (fun w hw => x_loadP _ _ _ _ _ _ _ ga q _ rfl w (hqc w hw)) ?_
        simp only [Act.put, List.setIfInBounds_toArray, List.set_cons_succ, List.set_cons_zero]
        refine w_call hG 18 #[PT pb] (.bool y) (by kernel_rfl) (fun w => x_call1 _ _ _ _ _ _ _ _ _ _ rfl rfl (enters_of Tryz.func18 (by kernel_rfl) rfl) w) (fun w hw => hq2 w hw) ?_
        simp only [Act.put, List.setIfInBounds_toArray, List.set_cons_succ, List.set_cons_zero]
        refine w_value (.bool false) (by kernel_rfl) (fun w hw => x_boolSame _ _ _ _ _ _ _ _ y rfl rfl w) ?_
        simp only [Act.put, List.setIfInBounds_toArray, List.set_cons_succ, List.set_cons_zero]
        refine w_nil ?_
        intro W hW
        have HB2 := hide (HBI.out.trans ((HCB.out W hW).mono HBI.out.size))
        clear hG hq1 hq2 hqc HCS HCB hre HQI HBI
        go_wp2
        go_loopw [106] (fun c wr => ∃ (i : Nat), i ≤ m ∧ c = .int .i64 i ∧ Hid (Below w9.heap.size w9 wr)) (fun c _ => m - (intOf c).toNat)
        case atStart => exact ⟨0, by omega, rfl, HB2⟩
        case round =>
          clear HB2
          obtain ⟨i, hi, rfl, HBI⟩ := hrel
          by_cases him : i < m
          · have hkd2 : decide (i < m) = true := by simp [him]
            have hii2 : (0 : Int) ≤ i ∧ (i : Int) < m := by omega
            have HQI := hide (HQ9.out.trans (HBI.out.mono HQ9.out.size))
            obtain ⟨lb, hlb⟩ : ∃ lb, lb = (pl.map least).getD i 0 := ⟨_, rfl⟩
            have hipl : i < pl.length := by rw [← HM.out]; exact him
            have hc0 : wr.cell? ⟨gh, i, none⟩ = some (.int .u8 lb) := by
              have hcl := HCH.out i (.int .u8 lb) (by rw [hlb]; simp [byteV, List.getD_eq_getElem?_getD, hipl])
              rw [← hcl]
              exact World.cell?_of_block (w := w4) (HQI.out.block gh (World.block_lt_of_cell? _ _ hcl))
            have HLB := hide hlb
            clear hlb
            go_wp2
            clear hc0
            obtain ⟨sv, hsv⟩ : ∃ sv, sv = (((rows.getD q []).getD i 0 : Nat) : Int) := ⟨_, rfl⟩
            obtain ⟨hid2, hlb2⟩ := idx_least HIP.out hipl
            have hlb := HLB.out
            rw [← hlb] at hid2 hlb2
            have hrq : (rows.getD q []).length = m := by rw [(HRO.out.2 q (by rw [HRN.out]; exact hqn)).len, List.length_map, ← HM.out]
            have hsv2 : stepN rows (idxF pl pl.length) q lb = sv := by
              unfold stepN
              rw [hid2, if_pos (by have := HRN.out; omega), Int.toNat_natCast, hsv]
            obtain ⟨C, hC⟩ : ∃ C : World → Prop, C = fun W => Below wr.heap.size wr W := ⟨_, rfl⟩
            have hcb : ∀ W, C W → Below wr.heap.size wr W := fun W h => by rw [hC] at h; exact h
            have hG : Grows C := fun W W' h hb => by rw [hC] at h ⊢; exact h.trans (hb.mono h.size)
            have hfit := HD9.out.ok.fit
            have hq1 : ∀ W, C W → Calls Tryz.prog 19 #[PT p, .int .i64 q, .int .u8 lb] W fun e w' => e = .returned (.int .i64 sv) ∧ Below W.heap.size W w' := fun W hW => by
              rw [← hsv2]; exact dstep_all p _ _ rows _ _ _ q lb W (HD9.out.keep (HBI.out.trans ((hcb W hW).mono HBI.out.size))).at' hlb2 (hfit lb hlb2)
            have hqc : ∀ W, C W → W.cell? ⟨g1, i, none⟩ = some (.int .i64 sv) := fun W hW => by
              have hb := HQI.out.trans ((hcb W hW).mono HQI.out.size)
              have hcl := HC1.out i (.int .i64 sv) (by rw [hsv]; exact intV_get _ _ (by omega))
              rw [← hcl]
              exact World.cell?_of_block (w := w4) (hb.block g1 (World.block_lt_of_cell? _ _ hcl))
            have HCS : Hid (C { wr with drawn := wr.drawn + 1 }) := by
              rw [hC]
              exact ⟨rfl, rfl, rfl, Nat.le_refl _, fun _ _ => rfl⟩
            have HCB := hide hcb
            clear hC hcb hsv hlb hid2 hsv2 hfit hrq HLB
            refine w_lit (C := C) (by kernel_rfl) (by kernel_rfl) HCS.out ?_
            refine w_value (PT p) (by kernel_rfl) (fun w hw => x_move _ _ _ _ _ _ _ _ rfl w) ?_
            simp only [Act.put, List.setIfInBounds_toArray, List.set_cons_succ, List.set_cons_zero]
            refine w_value (.int .i64 q) (by kernel_rfl) (fun w hw => x_move _ _ _ _ _ _ _ _ rfl w) ?_
            simp only [Act.put, List.setIfInBounds_toArray, List.set_cons_succ, List.set_cons_zero]
            refine w_value (.int .u8 lb) (by kernel_rfl) (fun w hw => x_move _ _ _ _ _ _ _ _ rfl w) ?_
            simp only [Act.put, List.setIfInBounds_toArray, List.set_cons_succ, List.set_cons_zero]
            refine w_call hG 19 #[PT p, .int .i64 q, .int .u8 lb] (.int .i64 sv) (by kernel_rfl) (fun w => x_call3 _ _ _ _ _ _ _ _ _ _ _ _ _ _ _ _ rfl rfl rfl rfl (enters_of Tryz.func19 (by kernel_rfl) rfl) w) (fun w hw => hq1 w hw) ?_
            simp only [Act.put, List.setIfInBounds_toArray, List.set_cons_succ, List.set_cons_zero]
            refine w_value (.slice (some ⟨g1, 0, none⟩) m c1) (by kernel_rfl) (fun w hw => x_move _ _ _ _ _ _ _ _ rfl w) ?_
            simp only [Act.put, List.setIfInBounds_toArray, List.set_cons_succ, List.set_cons_zero]
            refine w_value (.int .i64 i) (by kernel_rfl) (fun w hw => x_move _ _ _ _ _ _ _ _ rfl w) ?_
            simp only [Act.put, List.setIfInBounds_toArray, List.set_cons_succ, List.set_cons_zero]
            refine w_value (.pointer (some ⟨g1, i, none⟩)) (by kernel_rfl) (fun w hw => x_idxI _ _ _ _ _ _ _ _ g1 m c1 i rfl rfl him w) ?_
            simp only [Act.put, List.setIfInBounds_toArray, List.set_cons_succ, List.set_cons_zero]
            refine w_value (.int .i64 sv) (by kernel_rfl) (fun w hw => x_loadInt _ _ _ _ _ _ _ g1 i _ rfl w (hqc w hw)) ?_
            simp only [Act.put, List.setIfInBounds_toArray, List.set_cons_succ, List.set_cons_zero]
            refine w_value (.bool false) (by kernel_rfl) (fun w hw => x_intSame _ _ _ _ _ _ _ _ sv rfl rfl w) ?_
            simp only [Act.put, List.setIfInBounds_toArray, List.set_cons_succ, List.set_cons_zero]
            refine w_nil ?_
            intro W hW
            have HB2 := hide (HBI.out.trans ((HCB.out W hW).mono HBI.out.size))
            clear hG hq1 hqc HCS HCB HQI HBI
            go_wp2
            exact ⟨⟨i + 1, by omega, by go_num, HB2.out⟩, by simp [intOf]; omega⟩
          · have hkd2 : decide (i < m) = false := by simp [him]
            go_wp2
            exact ⟨⟨q + 1, by omega, by go_num, HBI⟩, by simp [intOf]; omega⟩
      · have hkd : decide (q < n) = false := by simp [hqn]
        have HF := hide (HB9.out.trans (HBI.out.mono (Nat.le_trans hsB4 HQ9.out.size)))
        have HQI := hide (HQ9.out.trans (HBI.out.mono HQ9.out.size))
        have HDI := hide (HD9.out.keep HBI.out)
        have hsBr : B ≤ wr.heap.size := by have := HBI.out.size; have := HB9.out.size; have := HQ9.out.size; omega
        have hsub : IntKind.i64.wrap ((n : Int) - 1) = (n : Int) - 1 := by simp [IntKind.wrap, IntKind.signed, IntKind.bits]; omega
        go_wp2_with fail
        refine (grant_any ((n : Int) - 1) wr (by omega)).mono ?_
        rintro e wa ⟨bud2, rfl, hbd, hbl, hba⟩
        rw [show max ((n : Int) - 1) 0 = (n : Int) - 1 from by omega] at hbd
        have HBA := hide (HF.out.trans (hba.mono hsBr))
        have hsBa : B ≤ wa.heap.size := Nat.le_trans hsBr hba.size
        have hwb2 : B ≤ bud2 := Nat.le_trans hsBr hbl
        have HDA := hide (HDI.out.keep hba)
        have HGA := hide hba
        have HBU2 := hide (build_new s.re rb wa (HR4.out.keep (HQI.out.trans (hba.mono HQI.out.size))) hwf bud2 ((n : Int) - 1) hbd (by omega) (by omega) (HT.out.agree (Agree.of_all (K := fun _ => True) (HB.out ▸ HBA.out)) trivial))
        clear hbd hba
        unfold PT at HBU2
        try unfold PT
        go_wp2_with fail
        refine HBU2.out.mono ?_
        rintro e wb ⟨pl', hq1, hq2, hl, hh⟩
        obtain rfl := (bld_unique HP1.out hq1 HP2.out hq2).symm
        have hless := bldF_less hwf (by omega) HBLD.out
        rw [← HN.out] at hless
        rcases hh with ⟨-, rfl, hbu, hok⟩ | ⟨s2, rows2, p2, hb2, -⟩
        · have HBB := hide (HBA.out.trans (hl.below hsBa hwb2))
          have HDB := hide (HDI.out.keep (HGA.out.trans (hl.below HGA.out.size hbl)))
          have HUD := hide (used_any bud2 _ _ wb hbu)
          have hle : usedI (bldF ((n : Int) - 1) (pl.map least) s.re 0).1.t ≤ (n : Int) - 1 := hok.2
          generalize usedI (bldF ((n : Int) - 1) (pl.map least) s.re 0).1.t = us at *
          have hud : decide (us ≤ (n : Int) - 1) = true := decide_eq_true hle
          have HS1 := hide (dstep_off p _ _ rows _ _ _ (-1) 97 wb HDB.out.at' (by omega))
          have HS2 := hide (dstep_off p _ _ rows _ _ _ n 97 wb HDB.out.at' (by rw [HRN.out]; omega))
          have HY1 := hide (dyes_off p _ _ rows _ _ _ (-1) wb HDB.out.at' (by omega))
          clear hl hbu hok HBU2 hq1 hq2 hless hle HDI HDA HGA HQI HF HBI
          unfold PT at HUD HS1 HS2 HY1
          go_wp2_with fail
          refine HUD.out.mono ?_
          rintro e wc ⟨rfl, rfl⟩
          go_wp2_with fail
          refine HS1.out.mono ?_
          rintro e wd ⟨rfl, rfl⟩
          go_wp2_with fail
          refine HS2.out.mono ?_
          rintro e we ⟨rfl, rfl⟩
          go_wp2_with fail
          refine HY1.out.mono ?_
          rintro e wf ⟨rfl, rfl⟩
          go_wp2
          go_ret
          exact ⟨rfl, HB.out ▸ HBB.out⟩
        · rw [hb2] at hless
          cases hless
theorem dfaBuilds_all (v : Value) (s : SHP) (w : World) (hv : ∃ cs, v = ShVal cs ∧ ShC w cs s) (hT : TabAt w) :
    Calls Tryz.prog 3 #[v] w fun e w' => e = .returned (.bool true) ∧ Below w.heap.size w w' := by
  obtain ⟨cs, rfl, hs⟩ := hv
  exact dfaBuilds_any cs s w hs hT
end Go.Proofs.YtaljhelldobghaaGreatDoor
/- DfaBuilds: Build comes to the page's own states, step by step. Conditions: the table of math/bits holds what its initialiser lays (the card ties that to the program's text). -/
namespace Go.Proofs.YtaljhelldobghaaGreatDoor
set_option maxRecDepth 100000
open Go.ChangeShapes Go.WideShapes Go.ChangeAt Go.WideMaps Go.WideElems Go.RowKit

set_option maxRecDepth 100000 in
theorem dfaBuilds_lifted (os : Os) (started : os.Started) (H : Type) (enc : TypeId × Value → H) :
    ReturnsInHanded {} Tryz.checked os 3 .any (fun w args => (Rows.dfaBuildsSpec.pre enc Tryz.prog Tryz.f3 [] false w args ∧ laidMetH Tryz.prog [("math/bits.deBruijn64tab", Rows.laid_math_bits_deBruijn64tab)] w) ∧ sizedMet enc Tryz.prog Tryz.f3 (OpenSpec.ofChange Rows.dfaBuildsSpec) false w args)
      (Rows.dfaBuildsSpec.post enc Tryz.prog Tryz.f3 false true false false) := by
  refine returnsInHanded_of_change_and (C := Tryz.checked) (X := fun w _ => laidMetH Tryz.prog [("math/bits.deBruijn64tab", Rows.laid_math_bits_deBruijn64tab)] w) (fun _ _ _ hh h => h.of_heap hh) own started (by kernel_rfl) Tryz.func3
    (ChangeSpec.witness_shaped (enc := enc) (C := Tryz.checked) (os := os) (X := fun w _ => laidMetH Tryz.prog [("math/bits.deBruijn64tab", Rows.laid_math_bits_deBruijn64tab)] w) false (World.doorLaid Tryz.prog 400 os)
      #[.agg #[.int .i64 0, .int .u8 0, .int .u8 0, .string ⟨#[]⟩, .slice none 0 0]] 8 rfl (World.shaped_of_RefB (by kernel_rfl) (by kernel_rfl)) (by kernel_rfl) (by kernel_rfl) (by kernel_rfl) (door_met os _)) ?_
  intro W base args ds gs before hval0 hW _ _ hL _
  have hval : ∀ (j : Nat) t v, Tryz.f3.params[j]? = some t → args[j]? = some v → Value.okWide Tryz.prog W .any base t v := hval0
  have hW' := hW
  obtain ⟨p, q, hA0, hV, rfl, hfz, hnd⟩ := hW
  have hA : DataW.TrodAll enc Tryz.prog W 0 (fun _ => true) true Tryz.f3.params.toList args.toList ds p := hA0
  rw [Tryz.params3] at hA hval
  obtain ⟨v0, d0, rfl, rfl, h0⟩ := trodAll_one hA
  obtain ⟨rfl, rfl⟩ := trodVars_none hV
  have k0 := h0
  have lt0 : ∀ x ∈ p, x.block < W.heap.size := by obtain ⟨m, hm⟩ := k0; exact DataW.trod_lt m _ _ _ hm
  obtain ⟨z0, hz0⟩ := open_shape (hval 0 24 v0 rfl rfl) h0
  have hT := tab_of_laid hL
  clear hA0 hval0
  refine (dfaBuilds_all v0 z0 W hz0 hT).mono fun e W' ⟨he, hb⟩ => ?_
  subst he
  exact ⟨_, rfl, _, _, _, [], _, [], hW', trodAll_mk1 (shut_bool Tryz.underlying4 _), trodAll_mk1 (Below.trod laidOut (by kernel_rfl) (of_decide_eq_true (by kernel_rfl)) k0 hb lt0), rfl, hb.frame _, fun h => by cases h⟩

theorem dfaBuilds_said : Rows.DfaBuildsSaid :=
  OpenClaim.holds_of_wide 3 Tryz.f3 rfl rfl rfl rfl rfl rfl rfl ⟨rfl, rfl, rfl, rfl, rfl⟩ rfl rfl rfl rfl rfl (by kernel_rfl) Tryz.func3 (by kernel_rfl)
    (of_decide_eq_true (by kernel_rfl)) (by unfold Func.isWrapper; first | (rw [if_pos (by decide +kernel)]; kernel_rfl) | (rw [if_neg (by decide +kernel)]; exact ⟨rfl, rfl⟩))
    (fun os started H enc _ => dfaBuilds_lifted os started H enc)

theorem dfaBuilds_card : Rows.DfaBuildsCardSaid :=
  Claim7.holds_tied_plain_at .later [] [.data] true Rows.dfaBuildsCard.stood.harness false
    dfaBuilds_said (fun _ h => by cases h) (by kernel_rfl) (fun _ h => by cases h) dfaBuilds_row_tie rfl ⟨rfl, rfl⟩ (by kernel_rfl) rfl
    (fun f fn hf hfn => by
      obtain rfl : f = 3 := Option.some.inj ((show Tryz.prog.funcNamed "periscope/periscopelaw06.DfaBuilds" = some 3 by kernel_rfl).symm.trans hf) |>.symm
      obtain rfl : fn = Tryz.f3 := (Option.some.inj (Tryz.func3.symm.trans hfn)).symm
      exact ⟨by kernel_rfl, fun j t ht => by
        rw [Tryz.params3] at ht
        have hm : t ∈ [24] := by simpa using Array.mem_of_getElem? ht
        have hall : ([24].all fun u => !Tryz.prog.wantsStandIn u) = true := by kernel_rfl
        exact (show Tryz.prog.wantsStandIn t = false by simpa using List.all_eq_true.1 hall t hm)⟩)
    (by kernel_rfl)
#print axioms dfaBuilds_card
end Go.Proofs.YtaljhelldobghaaGreatDoor
