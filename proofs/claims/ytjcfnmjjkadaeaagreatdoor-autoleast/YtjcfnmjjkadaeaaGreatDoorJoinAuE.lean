/- Texts of this claim put together: DfaM, MathFit, AuD, AuE. -/
import Derived.Test.YtjcfnmjjkadaeaaGreatDoorJoinDfaJ
import Derived.Laws.OwnMore
import Derived.Lib.SliceRun
import Derived.Test.YtjcfnmjjkadaeaaGreatDoorJoinMathDfa
import Derived.Test.YtjcfnmjjkadaeaaGreatDoorJoinAuC
/- Heads: a row of their own. -/
namespace Go.Proofs.YtjcfnmjjkadaeaaGreatDoor
set_option maxRecDepth 100000
set_option linter.unusedSimpArgs false
set_option linter.unusedVariables false
open Go.RowKit

theorem clone_bytes (v : Value) (l : List Nat) (w : World) (h : OwnG w 0 5 (.int .u8 0) v (byteV l)) (h0 : 0 < l.length) (hl : l.length ≤ 1000000) :
    Calls Tryz.prog 55 #[v] w fun e w' => ∃ v', e = .returned v' ∧ OwnG w' w.heap.size 5 (.int .u8 0) v' (byteV l) ∧ Below w.heap.size w w' := by
  have hbl : (byteV l).length = l.length := by simp [byteV]
  obtain ⟨g, cap, rfl, -, hg, hcap, hc⟩ := h.at (by rw [hbl]; exact h0)
  rw [hbl] at hcap ⊢
  have hb1 := (Below.refl w.heap.size w).alloc (Nat.le_refl _) (.cells #[] 5)
  have hblk := Blk.newAt (w := w) rfl #[] 5
  have hown : OwnG (w.alloc (.cells #[] 5)) w.heap.size 5 (.int .u8 0) (.slice (some ⟨w.heap.size, 0, none⟩) 0 0) [] := .inr ⟨w.heap.size, 0, #[], rfl, Nat.le_refl _, hblk, by simp, by unfold maxLen; omega, by simp⟩
  obtain ⟨v', W', hr, ho, ha⟩ := run_appendG 38 5 38 (.int .u8 0) 1 Tryz.underlying38 infoB8 (by omega) rfl hown ⟨g, 0, none⟩ cap (byteV l) (by rw [hbl]; exact h0)
    (fun j u hj => by
      rw [Go.WideShapes.add_plain, Nat.zero_add]
      have := hc j u hj
      rw [← this]
      exact World.cell?_of_block (w := w) (hb1.block g hg)) (fun u hu => by
        obtain ⟨x, -, rfl⟩ := List.mem_map.1 hu
        rfl) (by rw [hbl]; simp; omega) (by simp)
  rw [hbl] at hr
  rw [List.nil_append] at ho
  have HO := hide ho
  have HB := hide ((hb1.mono (Nat.le_refl _)).trans ha.below)
  obtain ⟨av, cv, rfl, -⟩ := ho.slice
  rw [hbl] at HO hr
  clear ho ha hown hblk hb1 hc h
  have hne := Go.Lib.run_eql_slice_nil (P := Tryz.prog) w 38 5 (some ⟨g, 0, none⟩) l.length cap 0 0 Tryz.underlying38
  go_enter Tryz.func55, Tryz.ntmps55
  go_wp2_with (refine wpList_append_run rfl _ _ _ rfl _ _ _ rfl rfl hr ?_)
  go_ret
  exact ⟨_, rfl, HO.out, HB.out⟩
theorem DfaR.heads {W : World} {p : Nat} {r : RE} {pl : List (BitVec 256)} {S : List RE} {rows : List (List Nat)} (h : DfaR W p r pl S rows) :
    Calls Tryz.prog 15 #[PT p] W fun e w' => ∃ v', e = .returned v' ∧ OwnG w' W.heap.size 5 (.int .u8 0) v' (byteV (pl.map least)) ∧ Below W.heap.size W w' := by
  obtain ⟨vh, vn, vy, vs, h1, h2, -⟩ := h.at'.ex
  have hpl : pl.length ≤ 256 := parts_256 h.ok.part
  have hp0 : 0 < pl.length := by have := (head_of h.ok.part (b := 0) (by omega)).1; omega
  have HC := hide (clone_bytes vh (pl.map least) W h2 (by simpa using hp0) (by simp; omega))
  have c0 := h1.cell 0
  rw [dfaC_0] at c0
  obtain ⟨av, cv, rfl, -⟩ := h2.slice
  clear h h1 h2
  unfold PT
  go_enter Tryz.func15, Tryz.ntmps15
  go_wp2_with fail
  refine HC.out.mono ?_
  rintro e w1 ⟨v', rfl, ho, hb⟩
  obtain ⟨a1, c1, rfl, -⟩ := ho.slice
  have HO := hide ho
  have HB := hide hb
  clear ho hb HC
  go_wp2
  go_ret
  exact ⟨_, rfl, HO.out, HB.out⟩
end Go.Proofs.YtjcfnmjjkadaeaaGreatDoor
/- Build does not fail where all that stands behind bytes lies in a short list. Mathematics alone. -/
namespace Go.Proofs.YtjcfnmjjkadaeaaGreatDoor
set_option maxRecDepth 100000
set_option linter.unusedSimpArgs false
set_option linter.unusedVariables false

theorem pigeon : ∀ (l L : List (List Nat)), l.Nodup → (∀ x ∈ l, x ∈ L) → l.length ≤ L.length
  | [], _, _, _ => Nat.zero_le _
  | x :: l, L, hn, hs => by
    obtain ⟨h1, h2⟩ := List.nodup_cons.1 hn
    have hx := hs x (by simp)
    have h3 := pigeon l (L.erase x) h2 fun y hy => (List.mem_erase_of_ne (fun (e : y = x) => h1 (by rw [← e]; exact hy))).2 (hs y (by simp [hy]))
    have h4 := List.length_erase_of_mem hx
    have h5 := List.length_pos_of_mem hx
    rw [List.length_cons]
    omega
/-- A short list that holds an expression and all that stands behind bytes. -/
structure FitsL (g : Int) (L : List RE) : Prop where
  len : (L.length : Int) ≤ g
  wf : ∀ x ∈ L, Wf x
  low : ∀ x ∈ L, x.size ≤ 20000
  by' : ∀ x ∈ L, ∀ b, rBy b x ∈ L
theorem fnd_fits {g : Int} {L : List RE} (hL : FitsL g L) {s : Bs} (hok : BsOk g s) (hS : ∀ y ∈ s.S, y ∈ L) {x : RE} (hx : x ∈ L) : ∃ s1 q, fnd g s x = (s1, some q) ∧ BsOk g s1 ∧ ∀ y ∈ s1.S, y ∈ L := by
  have hlow := hL.low x hx
  cases hp : posL x s.S with
  | some q =>
    refine ⟨s, q, ?_, hok, hS⟩
    unfold fnd
    rw [if_neg (by omega), hp]
  | none =>
    have hS2 : ∀ y ∈ s.S ++ [x], y ∈ L := fun y hy => by
      rcases List.mem_append.1 hy with hy | hy
      · exact hS y hy
      · rcases List.mem_singleton.1 hy with rfl; exact hx
    have hn : ((s.S ++ [x]).map RE.key).Nodup := by
      rw [List.Nodup, List.pairwise_map, List.pairwise_append]
      refine ⟨hok.apart, by simp, fun a ha b hb => ?_⟩
      rcases List.mem_singleton.1 hb with rfl
      exact posL_none hp a ha
    have h1 := pigeon _ (L.map RE.key) hn fun k hk => by
      obtain ⟨y, hy, rfl⟩ := List.mem_map.1 hk
      exact List.mem_map.2 ⟨y, hS2 y hy, rfl⟩
    simp only [List.length_map, List.length_append, List.length_cons, List.length_nil] at h1
    have ht := hok.t
    have hg := hL.len
    have e : aft g s.t 1 = (s.t + 1, true) := by unfold aft; rw [if_neg (by omega), if_neg (by omega), if_neg (by omega)]
    have hf : fnd g s x = (⟨s.S ++ [x], s.t + 1⟩, some s.S.length) := by
      unfold fnd
      rw [if_neg (by omega), hp, e]
      simp
    exact ⟨_, _, hf, (fnd_ok hok (hL.wf x hx) hf).1, hS2⟩
theorem rowA_fits {g : Int} {L : List RE} (hL : FitsL g L) {x : RE} (hx : x ∈ L) : ∀ (hs : List Nat) (s : Bs) (acc : List Nat), BsOk g s → (∀ y ∈ s.S, y ∈ L) → ∃ s1 row, rowA g x hs s acc = (s1, some row) ∧ BsOk g s1 ∧ (∀ y ∈ s1.S, y ∈ L) ∧ s.S.length ≤ s1.S.length
  | [], s, acc, hok, hS => ⟨s, acc, rfl, hok, hS, Nat.le_refl _⟩
  | b :: hs, s, acc, hok, hS => by
    obtain ⟨s1, q, h1, h2, h3⟩ := fnd_fits hL hok hS (hL.by' x hx b)
    obtain ⟨s2, row, h4, h5, h6, h7⟩ := rowA_fits hL hx hs s1 (acc ++ [q]) h2 h3
    refine ⟨s2, row, ?_, h5, h6, Nat.le_trans (fnd_ok hok (hL.wf _ (hL.by' x hx b)) h1).2.1.len h7⟩
    rw [rowA, h1]
    exact h4
theorem len_fits {g : Int} {L : List RE} (hL : FitsL g L) {s : Bs} (hok : BsOk g s) (hS : ∀ y ∈ s.S, y ∈ L) : (s.S.length : Int) ≤ g := by
  have := hok.t
  have := hok.g
  omega
theorem bldA_fits {g : Int} {L : List RE} (hL : FitsL g L) (hs : List Nat) : ∀ (n : Nat) (s : Bs) (rows : List (List Nat)), BsOk g s → (∀ y ∈ s.S, y ∈ L) → rows.length ≤ s.S.length → g < n + rows.length → ∃ s1 rows1, bldA g hs n s rows = (s1, some rows1)
  | 0, s, rows, hok, hS, hr, hn => by
    have := len_fits hL hok hS
    omega
  | n + 1, s, rows, hok, hS, hr, hn => by
    rw [bldA]
    by_cases hlt : rows.length < s.S.length
    · rw [if_pos hlt]
      have hm : s.S.getD rows.length rNothing ∈ L := by
        rw [List.getD_eq_getElem?_getD, List.getElem?_eq_getElem hlt]
        exact hS _ (List.getElem_mem hlt)
      obtain ⟨s1, row, h1, h2, h3, h4⟩ := rowA_fits hL hm hs s [] hok hS
      rw [h1]
      exact bldA_fits hL hs n s1 (rows ++ [row]) h2 h3 (by simp; omega) (by simp; omega)
    · rw [if_neg hlt]
      exact ⟨_, _, rfl⟩
theorem bldF_fits {g : Int} {L : List RE} (hL : FitsL g L) (hg : 0 ≤ g) (hs : List Nat) {r : RE} (hr : r ∈ L) : ∃ s rows, bldF g hs r 0 = (s, some rows) := by
  have h0 : BsOk g ⟨[], 0⟩ := ⟨by simp, by simp, by simp, rfl, hg⟩
  obtain ⟨s1, q, h1, h2, h3⟩ := fnd_fits hL h0 (by simp) hr
  unfold bldF
  rw [h1]
  exact bldA_fits hL hs _ s1 [] h2 h3 (Nat.zero_le _) (by simp; omega)
end Go.Proofs.YtjcfnmjjkadaeaaGreatDoor
/- auto.Witness: the least text of an expression. -/
namespace Go.Proofs.YtjcfnmjjkadaeaaGreatDoor
set_option maxRecDepth 100000
set_option linter.unusedSimpArgs false
set_option linter.unusedVariables false
open Go.RowKit Go.Shelf

/-- What Witness answers. -/
def WitP (g : Int) (r : RE) (e : Ending) : Prop :=
  ((∃ hs, (bldF g hs r 0).2 = none) ∧ e = .returned (.tuple #[.string ⟨#[]⟩, .bool false, .int .i64 5])) ∨
  (∃ w, By w ∧ r.lang w ∧ (∀ u, By u → r.lang u → leW w u) ∧ e = .returned (.tuple #[.string (strB w), .bool true, .int .i64 0])) ∨
  ((∀ u, By u → ¬ r.lang u) ∧ e = .returned (.tuple #[.string ⟨#[]⟩, .bool false, .int .i64 0]))
/-- Where all lies in a short list, no budget is wanting. -/
theorem WitP.fits {g : Int} {r : RE} {e : Ending} (h : WitP g r e) {L : List RE} (hL : FitsL g L) (hg : 0 ≤ g) (hr : r ∈ L) :
    (∃ w, By w ∧ r.lang w ∧ (∀ u, By u → r.lang u → leW w u) ∧ e = .returned (.tuple #[.string (strB w), .bool true, .int .i64 0])) ∨ ((∀ u, By u → ¬ r.lang u) ∧ e = .returned (.tuple #[.string ⟨#[]⟩, .bool false, .int .i64 0])) := by
  rcases h with ⟨⟨hs, hn⟩, -⟩ | h
  · obtain ⟨s, rows, e⟩ := bldF_fits hL hg hs hr
    rw [e] at hn
    cases hn
  · exact h
set_option maxHeartbeats 2000000 in
theorem witness_new (r : RE) (b0 : Nat) (w : World) (h : ReAt w b0 r) (hw : Wf r) (bud : Nat) (g : Int) (hb : BudAt w bud g 0) (hg : 0 ≤ g) (hg2 : g < 1000000) (hT : TabAt w) :
    Calls Tryz.prog 22 #[PT b0, PT bud] w fun e w' => WitP g r e ∧ ∀ n, n ≤ w.heap.size → n ≤ bud → Below n w w' := by
  have HBD := hide (build_new r b0 w h hw bud g hb hg hg2 hT)
  clear h hb hT
  unfold PT at HBD ⊢
  go_enter Tryz.func22, Tryz.ntmps22
  go_wp2_with fail
  refine HBD.out.mono ?_
  rintro e w1 ⟨pl, h1, h2, h3, h4⟩
  have HL : Hid (∀ n, n ≤ w.heap.size → n ≤ bud → Below n w w1) := fun n a b => h3.below a b
  clear HBD h1 h3
  rcases h4 with ⟨hno, rfl, -⟩ | ⟨s, rows, p, hbl, rfl, -, hd, -, hst⟩
  · have HNO := hide hno
    clear h2 hno
    go_wp2
    refine bodyPost_ret (v := .tuple #[.string ⟨#[]⟩, .bool false, .int .i64 5]) (by simp [results, Tryz.results22, go_sem]) rfl ⟨.inl ⟨⟨_, HNO.out⟩, rfl⟩, HL.out⟩
  · have hok := hd.ok
    have hp := hok.part
    have hpl : pl.length ≤ 256 := parts_256 hp
    have hp0 : 0 < pl.length := by have := (head_of hp (b := 0) (by omega)).1; omega
    obtain ⟨hbs, -⟩ := bldF_ok hw hg hbl
    have hlen := hok.len
    obtain ⟨hm, hml⟩ := bldF_metT hbl (heads_lt hp h2) (fun x hx => by
      obtain ⟨q, -, rfl⟩ := List.mem_map.1 hx
      exact least_lt q)
    have hsh := shortest_any p (pl.map least) (idxF pl pl.length) rows (s.S.map RE.null) 0 (.slice none 0 0) w1 hd.at' (by cases pl with
        | nil => simp at hp0
        | cons a b => simp) (fun x hx => by
      obtain ⟨q, -, rfl⟩ := List.mem_map.1 hx
      exact least_lt q) (fun q hq => (hok.rows.2 q hq).len) (fun i hi => by
        have hi : i < pl.length := by simpa using hi
        rw [head_getD hi]; exact idxF_head hp hi) (by rw [List.length_map, hlen]) (by have a1 := hbs.t; have a2 := hbs.g; omega) (by simpa using hpl) _ hm (bldF_met hbl).1 (by omega) (fun W hW => (hd.keep hW).heads)
    have HSH := hide hsh
    have HOK := hide hok
    have HS := hide h2
    have HBL := hide hbl
    clear hsh hok hp hpl hp0 hbs hlen hm hml h2 hbl hd hst
    unfold PT at HSH
    go_wp2_with fail
    refine HSH.out.mono ?_
    rintro e w2 ⟨hsp, hb2⟩
    have HB2 : Hid (∀ n, n ≤ w.heap.size → n ≤ bud → Below n w w2) := fun n a b => (HL.out n a b).trans (hb2.mono (Nat.le_trans a (HL.out n a b).size))
    rcases short_lang HOK.out HS.out HBL.out hsp with ⟨u, u1, u2, u3, rfl⟩ | ⟨u1, rfl⟩
    · clear hsp hb2 HSH
      obtain ⟨us, hus⟩ : ∃ us, us = strB u := ⟨_, rfl⟩
      rw [← hus]
      have HUS := hide hus
      have HU : Hid (r.lang u) := u2
      have HU3 := hide u3
      clear hus u2 u3
      go_wp2
      refine bodyPost_ret (v := .tuple #[.string us, .bool true, .int .i64 0]) (by simp [results, Tryz.results22, go_sem]) rfl ⟨.inr (.inl ⟨u, u1, HU.out, HU3.out, by rw [HUS.out]⟩), HB2.out⟩
    · have HU := hide u1
      clear hsp hb2 HSH u1
      go_wp2
      refine bodyPost_ret (v := .tuple #[.string ⟨#[]⟩, .bool false, .int .i64 0]) (by simp [results, Tryz.results22, go_sem]) rfl ⟨.inr (.inr ⟨HU.out, rfl⟩), HB2.out⟩
end Go.Proofs.YtjcfnmjjkadaeaaGreatDoor
/- auto.Outside, Shared, Unlike. -/
namespace Go.Proofs.YtjcfnmjjkadaeaaGreatDoor
set_option maxRecDepth 100000
set_option linter.unusedSimpArgs false
set_option linter.unusedVariables false
open Go.RowKit Go.Shelf

set_option maxHeartbeats 2000000 in
/-- Texts of the one that the other hasn't. -/
theorem outside_new (rx ry : RE) (x y : Nat) (w : World) (hx : ReAt w x rx) (hy : ReAt w y ry) (wx : Wf rx) (wy : Wf ry) (bud : Nat) (g : Int) (hb : BudAt w bud g 0) (hg : 0 ≤ g) (hg2 : g < 1000000) (hT : TabAt w) :
    Calls Tryz.prog 25 #[PT x, PT y, PT bud] w fun e w' => WitP g (rBut rx ry) e ∧ ∀ n, n ≤ w.heap.size → n ≤ bud → Below n w w' := by
  have HB := hide hb
  have HT := hide hT
  have HBT := hide (but_any x y rx ry w hx hy wx.k wy.k hT)
  clear hx hy hb hT
  unfold PT at HBT ⊢
  go_enter Tryz.func25, Tryz.ntmps25
  go_wp2_with fail
  refine HBT.out.mono ?_
  rintro e w1 ⟨c, rfl, hc, hb1⟩
  have HB1 := hide hb1
  have HW := hide (witness_new (rBut rx ry) c w1 hc (wf_but wx wy) bud g (HB.out.below hb1 HB.out.blk.lt) hg hg2 (HT.out.agree (Agree.of_all (K := fun _ => True) hb1) trivial))
  clear HBT hc hb1
  unfold PT at HW
  go_wp2_with fail
  refine HW.out.mono ?_
  rintro e w2 ⟨hp, hf⟩
  have HF : Hid (∀ n, n ≤ w.heap.size → n ≤ bud → Below n w w2) := fun n a b => (HB1.out.mono a).trans (hf n (Nat.le_trans a HB1.out.size) b)
  clear HW hf
  rcases hp with ⟨hno, rfl⟩ | ⟨u, u1, u2, u3, rfl⟩ | ⟨u1, rfl⟩
  · have HNO := hide hno
    clear hno
    go_wp2
    refine bodyPost_ret (v := .tuple #[.string ⟨#[]⟩, .bool false, .int .i64 5]) (by simp [results, Tryz.results25, go_sem]) rfl ⟨.inl ⟨HNO.out, rfl⟩, HF.out⟩
  · obtain ⟨us, hus⟩ : ∃ us, us = strB u := ⟨_, rfl⟩
    rw [← hus]
    have HUS := hide hus
    have HU : Hid ((rBut rx ry).lang u) := u2
    have HU3 := hide u3
    clear hus u2 u3
    go_wp2
    refine bodyPost_ret (v := .tuple #[.string us, .bool true, .int .i64 0]) (by simp [results, Tryz.results25, go_sem]) rfl ⟨.inr (.inl ⟨u, u1, HU.out, HU3.out, by rw [HUS.out]⟩), HF.out⟩
  · have HU := hide u1
    clear u1
    go_wp2
    refine bodyPost_ret (v := .tuple #[.string ⟨#[]⟩, .bool false, .int .i64 0]) (by simp [results, Tryz.results25, go_sem]) rfl ⟨.inr (.inr ⟨HU.out, rfl⟩), HF.out⟩
set_option maxHeartbeats 2000000 in
/-- Texts of one alone. -/
theorem unlike_new (rx ry : RE) (x y : Nat) (w : World) (hx : ReAt w x rx) (hy : ReAt w y ry) (wx : Wf rx) (wy : Wf ry) (hlen : (flatL 4 [rBut rx ry, rBut ry rx]).length ≤ 1099511627776) (bud : Nat) (g : Int) (hb : BudAt w bud g 0) (hg : 0 ≤ g) (hg2 : g < 1000000) (hT : TabAt w) :
    Calls Tryz.prog 27 #[PT x, PT y, PT bud] w fun e w' => WitP g (rAny [rBut rx ry, rBut ry rx]) e ∧ ∀ n, n ≤ w.heap.size → n ≤ bud → Below n w w' := by
  have HB := hide hb
  have HT := hide hT
  have HX := hide hx
  have HY := hide hy
  have HLN := hide hlen
  have hwf : ∀ r ∈ [rBut rx ry, rBut ry rx], Wf r := fun r hr => by
    rcases List.mem_cons.1 hr with rfl | hr
    · exact wf_but wx wy
    · rcases List.mem_singleton.1 hr with rfl; exact wf_but wy wx
  have HWF := hide hwf
  have HBT := hide (but_any x y rx ry w hx hy wx.k wy.k hT)
  clear hx hy hb hT hlen hwf
  unfold PT at HBT ⊢
  go_enter Tryz.func27, Tryz.ntmps27
  go_wp2_with fail
  refine HBT.out.mono ?_
  rintro e w1 ⟨c, rfl, hc, hb1⟩
  have HB1 := hide hb1
  have HC := hide hc
  have HBT2 := hide (but_any y x ry rx w1 (HY.out.keep hb1) (HX.out.keep hb1) wy.k wx.k (HT.out.agree (Agree.of_all (K := fun _ => True) hb1) trivial))
  clear HBT hc hb1
  unfold PT at HBT2
  go_wp2_with fail
  refine HBT2.out.mono ?_
  rintro e w2 ⟨c2, rfl, hc2, hb2⟩
  have HB2 : Hid (Below w.heap.size w w2) := HB1.out.trans (hb2.mono HB1.out.size)
  obtain ⟨w3, hw3⟩ : ∃ w3, w2.alloc (.cells #[PT c, PT c2] 30) = w3 := ⟨_, rfl⟩
  have hb3 : Below w2.heap.size w2 w3 := by rw [← hw3]; exact (Below.refl _ _).alloc (Nat.le_refl _) _
  have HB3 : Hid (Below w.heap.size w w3) := HB2.out.trans (hb3.mono HB2.out.size)
  have hrow : ResRow w3 (.slice (some ⟨w2.heap.size, 0, none⟩) 2 2) [rBut rx ry, rBut ry rx] := resRow_two (by rw [← hw3]; exact Blk.newAt rfl _ _) ((HC.out.keep hb2).keep hb3) (hc2.keep hb3) (fun h => h)
  have HAN := hide (any_re [rBut rx ry, rBut ry rx] _ w3 hrow HWF.out (by simp) HLN.out (HT.out.agree (Agree.of_all (K := fun _ => True) HB3.out) trivial))
  unfold PT at hw3 HAN
  clear HBT2 hc2 hb2 hb3 hrow
  go_wp2_with fail
  refine HAN.out.mono ?_
  rintro e w4 ⟨c4, rfl, hc4, hb4⟩
  have HBL : Hid (Below w.heap.size w w4) := HB3.out.trans (hb4.mono HB3.out.size)
  have HW := hide (witness_new (rAny [rBut rx ry, rBut ry rx]) c4 w4 hc4 (wf_any HWF.out) bud g (HB.out.below HBL.out HB.out.blk.lt) hg hg2 (HT.out.agree (Agree.of_all (K := fun _ => True) HBL.out) trivial))
  clear HAN hc4 hb4 hw3
  unfold PT at HW
  go_wp2_with fail
  refine HW.out.mono ?_
  rintro e wz ⟨hp, hf⟩
  have HF : Hid (∀ n, n ≤ w.heap.size → n ≤ bud → Below n w wz) := fun n a b => (HBL.out.mono a).trans (hf n (Nat.le_trans a HBL.out.size) b)
  clear HW hf
  rcases hp with ⟨hno, rfl⟩ | ⟨u, u1, u2, u3, rfl⟩ | ⟨u1, rfl⟩
  · have HNO := hide hno
    clear hno
    go_wp2
    refine bodyPost_ret (v := .tuple #[.string ⟨#[]⟩, .bool false, .int .i64 5]) (by simp [results, Tryz.results27, go_sem]) rfl ⟨.inl ⟨HNO.out, rfl⟩, HF.out⟩
  · obtain ⟨us, hus⟩ : ∃ us, us = strB u := ⟨_, rfl⟩
    rw [← hus]
    have HUS := hide hus
    have HU : Hid ((rAny [rBut rx ry, rBut ry rx]).lang u) := u2
    have HU3 := hide u3
    clear hus u2 u3
    go_wp2
    refine bodyPost_ret (v := .tuple #[.string us, .bool true, .int .i64 0]) (by simp [results, Tryz.results27, go_sem]) rfl ⟨.inr (.inl ⟨u, u1, HU.out, HU3.out, by rw [HUS.out]⟩), HF.out⟩
  · have HU := hide u1
    clear u1
    go_wp2
    refine bodyPost_ret (v := .tuple #[.string ⟨#[]⟩, .bool false, .int .i64 0]) (by simp [results, Tryz.results27, go_sem]) rfl ⟨.inr (.inr ⟨HU.out, rfl⟩), HF.out⟩
end Go.Proofs.YtjcfnmjjkadaeaaGreatDoor
