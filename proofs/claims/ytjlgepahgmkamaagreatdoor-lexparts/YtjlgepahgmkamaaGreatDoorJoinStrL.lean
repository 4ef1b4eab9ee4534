/- Texts of this claim put together: TwC, TwD, TwE, TwF, TwG, StrL. -/
import Derived.Test.YtjlgepahgmkamaaGreatDoorJoinTwB
/- appendRuns of package text: a set's runs as they are written. -/
namespace Go.Proofs.YtjlgepahgmkamaaGreatDoor
set_option maxRecDepth 100000
set_option linter.unusedSimpArgs false
set_option linter.unusedVariables false
open Go.RowKit Go.Shelf
attribute [local go_sem] Oper.semAt_some

/-- A run as it is written. -/
def runW (x : Nat × Nat) : List Nat := byteW x.1 ++ if x.1 < x.2 then 45 :: byteW x.2 else []
def runsW (l : List (Nat × Nat)) : List Nat := l.flatMap runW
theorem runsW_snoc (l : List (Nat × Nat)) (x : Nat × Nat) : runsW (l ++ [x]) = runsW l ++ runW x := by simp [runsW]
theorem runW_len (x : Nat × Nat) : (runW x).length ≤ 9 := by
  have h1 := (byteW_len x.1).2
  have h2 := (byteW_len x.2).2
  unfold runW
  rw [List.length_append]
  split <;> simp <;> omega
theorem runsW_len (l : List (Nat × Nat)) : (runsW l).length ≤ 9 * l.length := by
  induction l with
  | nil => simp [runsW]
  | cons x l ih =>
    have h := runW_len x
    have e : runsW (x :: l) = runW x ++ runsW l := by simp [runsW]
    rw [e, List.length_append, List.length_cons]
    omega
theorem runs_lt256 (s : BitVec 256) : ∀ x ∈ runsOf s, x.1 < 256 ∧ x.2 < 256 := fun x hx => by
  have h : ∀ y ∈ rnB (runsOf s), y < 256 := rnB_lt s
  exact ⟨h x.1 (List.mem_flatMap.2 ⟨x, hx, by simp⟩), h x.2 (List.mem_flatMap.2 ⟨x, hx, by simp⟩)⟩
/-- As GB, but for one block more. -/
structure GX (N : Nat) (w w' : World) (v v' : Value) : Prop where
  os : w'.os = w.os
  tape : w'.tape = w.tape
  output : w'.output = w.output
  size : w.heap.size ≤ w'.heap.size
  block : ∀ k, k < w.heap.size → some k ≠ v.ownBlock → k ≠ N → w'.heap[k]? = w.heap[k]?
  own : v'.ownBlock = v.ownBlock ∨ ∃ g, v'.ownBlock = some g ∧ w.heap.size ≤ g
  drawn : w.drawn ≤ w'.drawn
theorem GX.of {N : Nat} {w w' : World} {v v' : Value} (h : GB w w' v v') : GX N w w' v v' := ⟨h.grown.os, h.grown.tape, h.grown.output, h.grown.size, fun k hk hn _ => h.grown.block k hk hn, h.own, h.drawn⟩
theorem GX.set {N : Nat} (w : World) (v u : Value) : GX N w (w.setCell ⟨N, 0, none⟩ u) v v := ⟨rfl, rfl, rfl, by simp [World.setCell], fun k _ _ hk => Below.heap_setCell _ _ _ _ hk, .inl rfl, Nat.le_refl _⟩
theorem GX.step {N : Nat} {w w' : World} (v : Value) (h : Below w.heap.size w w') (hd : w.drawn ≤ w'.drawn) : GX N w w' v v := ⟨h.os, h.tape, h.output, h.size, fun k hk _ _ => h.block k hk, .inl rfl, hd⟩
theorem GX.trans {N : Nat} {w w1 w2 : World} {v v1 v2 : Value} (h : GX N w w1 v v1) (k : GX N w1 w2 v1 v2) : GX N w w2 v v2 := by
  refine ⟨k.os.trans h.os, k.tape.trans h.tape, k.output.trans h.output, Nat.le_trans h.size k.size, fun i hi hn hN => ?_, ?_, Nat.le_trans h.drawn k.drawn⟩
  · have hs := h.size
    rw [k.block i (by omega) ?_ hN, h.block i hi hn hN]
    intro e
    rcases h.own with h1 | ⟨g, h1, h2⟩
    · exact hn (e.trans h1)
    · rw [h1] at e; injection e; omega
  · have hs := h.size
    rcases k.own with h1 | ⟨g, h1, h2⟩
    · rcases h.own with h3 | ⟨g, h3, h4⟩
      · exact .inl (h1.trans h3)
      · exact .inr ⟨g, h1.trans h3, h4⟩
    · exact .inr ⟨g, h1, by omega⟩
/-- The row in its box N, and what was done since (W, v'). -/
structure BW (N base n : Nat) (xs : List Value) (l : List Nat) (W : World) (v' : Value) (V : Value) (X : World) : Prop where
  box : Blk X N #[V] 71
  own : OwnU X base V (n + l.length) (xs ++ byteV l)
  gx : GX N W X v' V
  ne : V.ownBlock ≠ some N
  base : base ≤ X.heap.size
theorem BW.ne' {N base n : Nat} {xs : List Value} {l : List Nat} {W X : World} {v' V V' : Value} (h : BW N base n xs l W v' V X) (k : V'.ownBlock = V.ownBlock ∨ ∃ g, V'.ownBlock = some g ∧ X.heap.size ≤ g) : V'.ownBlock ≠ some N := fun e => by
  rcases k with h1 | ⟨g, h1, h2⟩
  · exact h.ne (h1.symm.trans e)
  · rw [e] at h1; injection h1 with h1; have := h.box.lt; omega
/-- Something was written, and laid into the box. -/
theorem BW.put {N base n : Nat} {xs : List Value} {l m : List Nat} {W X Y : World} {v' V V' : Value} (h : BW N base n xs l W v' V X) (k : AW X base V (n + l.length) (xs ++ byteV l) m V' Y) : BW N base n xs (l ++ m) W v' V' (Y.setCell ⟨N, 0, none⟩ V') := by
  have hne := h.ne' k.gb.own
  have hb : Blk Y N #[V] 71 := (k.gb.grown.block N h.box.lt (fun e => h.ne e.symm)).trans h.box
  refine ⟨hb.set 0 V', ?_, (h.gx.trans (GX.of k.gb)).trans (GX.set _ _ _), hne, by simpa [World.setCell] using k.base⟩
  have := k.own
  rw [byteV_append, List.length_append, ← List.append_assoc, ← Nat.add_assoc]
  exact this.keep fun g hg => Below.heap_setCell _ _ _ _ (fun e => hne (by rw [hg]; exact congrArg some e))

set_option maxHeartbeats 2000000 in
theorem textRuns_in (s : BitVec 256) (v : Value) (n base : Nat) (xs : List Value) (w : World) (hv : OwnU w base v n xs) (hn : n ≤ 1000000000000) (hG : 1 < base) (hbase : base ≤ w.heap.size) (hT : TabAt w) :
    CallsIn Fence.wide 0 Tryz.prog 78 #[v, SV s] w fun e w' => ∃ V, e = .returned V ∧ AW w base v n xs (runsW (runsOf s)) V w' := by
  obtain ⟨ad, ln, cap, rfl⟩ : ∃ ad ln cap, v = .slice ad ln cap := by
    rcases hv.2 with ⟨rfl, -⟩ | ⟨g, cap, cur, t, rfl, -⟩ <;> exact ⟨_, _, _, rfl⟩
  refine callsIn_of_wp_marks Tryz.func78 rfl trivial ?_ rfl
  simp only [Tryz.ntmps78, List.size_toArray, List.length_nil, List.length_cons, Nat.reduceSub, Nat.reduceAdd, Array.replicate_succ, Array.replicate_zero, List.push_toArray, List.append_toArray, List.nil_append, List.cons_append]
  gi_wp2_with fail
  refine ⟨trivial, rfl, ?_⟩
  refine (callsIn_wide.2 (runs_any s _)).mono ?_
  rintro e w5 ⟨rfl, rfl⟩
  gi_wp2
  refine wpIn_world (fun W => Blk W w.heap.size #[.slice ad ln cap] 71 ∧ Blk W (w.heap.size + 1) (WS s) 62 ∧ Blk W (w.heap.size + 2) (WS s) 62 ∧ Below w.heap.size w W ∧ w.drawn ≤ W.drawn) ⟨?_, ?_, ?_, ?_, ?_⟩ ?_
  · exact ((Blk.newAt rfl _ _).alloc _).alloc _
  · exact (Blk.newAt (by simp) _ _).alloc _
  · exact Blk.newAt (by simp) _ _
  · exact (((Below.refl _ _).alloc (Nat.le_refl _) _).alloc (by simp) _).alloc (by simp; omega) _
  · exact Nat.le_refl _
  rintro W0 ⟨k0, k1, k2, hbel, hdw⟩
  have hT0 : TabAt W0 := hT.agree (Agree.of_all (K := fun _ => True) hbel) trivial
  have HT := hide hT0
  have HB := hide hbel
  have zk := k2.lt
  have hv0 : OwnU W0 base (.slice ad ln cap) n xs := hv.keep fun g hg => hbel.block g (hv.own_lt hg).2
  have hvo : ∀ g, (Value.slice ad ln cap).ownBlock = some g → base ≤ g ∧ g < w.heap.size := fun g hg => hv.own_lt hg
  have hr256 := runs_le s
  have hrw := runsW_len (runsOf s)
  have hrl : ∀ x ∈ runsOf s, x.1 < 256 ∧ x.2 < 256 := fun x hx => runs_lt256 s x hx
  clear hT hT0 hbel hv
  generalize hN : w.heap.size = N at *
  refine wpIn_rangeM (gf := 103) (lb := #[.pointer (some ⟨N + 1 + 1, 0, none⟩)]) rfl enters_runs (encs := fun x : Nat × Nat => #[.int .u8 x.1, .int .u8 x.2]) (xs := runsOf s)
    (own := fun k => k = N + 2 ∨ k = 1)
    (fun W1 hb => runs1_any s _ W1 (k2.below hb zk) (HT.out.agree (Agree.of_all (K := fun _ => True) hb) trivial)) (fun _ => rfl)
    (fun pre M W => M N ∧ ∃ v', Blk W N #[v'] 71 ∧ OwnU W base v' (n + (runsW pre).length) (xs ++ byteV (runsW pre)) ∧ (∀ g, v'.ownBlock = some g → M g) ∧ (v'.ownBlock = (Value.slice ad ln cap).ownBlock ∨ ∃ g, v'.ownBlock = some g ∧ N < g))
    (fun _ _ _ _ => False)
    (fun _ M A B h ha => ⟨h.1, h.2.choose, h.2.choose_spec.1.agree ha h.1, h.2.choose_spec.2.1.keep (fun g hg => ha.block g (h.2.choose_spec.2.1.own_lt hg).2 (h.2.choose_spec.2.2.1 g hg)), h.2.choose_spec.2.2⟩)
    (fun _ _ M A B h ha => h)
    (fun k => k = N ∨ (Value.slice ad ln cap).ownBlock = some k) (fun k hk => by rcases hk with rfl | hk; exact k0.lt; have := hvo k hk; omega)
    (fun k hk => by
      rcases hk with rfl | rfl
      · exact ⟨fun h => by rcases h with h | h; omega; have := hvo _ h; omega, zk⟩
      · exact ⟨fun h => by rcases h with h | h; omega; have := hvo _ h; omega, by omega⟩)
    ⟨.inl rfl, _, k0, by simpa [byteV, runsW] using hv0, fun g hg => .inr hg, .inl rfl⟩
    (fun x => { tmps := #[.slice ad ln cap, SV s, .pointer (some ⟨N, 0, none⟩), .pointer (some ⟨N + 1, 0, none⟩), .slice none 0 0, .int .u8 x.1, .int .u8 x.2, SV s, .func (.func 103) #[] #[.pointer (some ⟨N + 1 + 1, 0, none⟩)],
        .int .u8 x.1, .int .u8 x.2, undef, undef, undef, undef, undef, undef, undef, undef, undef, undef, undef, undef], defers := [] }) ?assign ?body ?done ?stop
  case assign =>
    intro l x W K hK
    gi_wp2
    exact hK
  case body =>
    rintro l pre x M W hpre ⟨m1, v', b1, ho, hom, hor⟩ hM
    have hxm : x ∈ runsOf s := hpre.subset (by simp)
    obtain ⟨hx1, hx2⟩ := hrl x hxm
    have hpl : pre.length < (runsOf s).length := by have := hpre.length_le; simp at this; omega
    have hpw := runsW_len pre
    have hne : v'.ownBlock ≠ some N := fun e => by
      rcases hor with h | ⟨g, h, hg⟩
      · have := hvo N (h.symm.trans e); omega
      · rw [e] at h; injection h; omega
    obtain ⟨ad', ln', cap', rfl⟩ : ∃ ad ln cap, v' = .slice ad ln cap := by
      rcases ho.2 with ⟨rfl, -⟩ | ⟨g, cap, cur, t, rfl, -⟩ <;> exact ⟨_, _, _, rfl⟩
    obtain ⟨n1, hn1⟩ : ∃ n1, n1 = n + (runsW pre).length := ⟨_, rfl⟩
    obtain ⟨xs1, hxs1⟩ : ∃ xs1, xs1 = xs ++ byteV (runsW pre) := ⟨_, rfl⟩
    have hbW : base ≤ W.heap.size := by have := b1.lt; omega
    have hB0 : BW N base n1 xs1 [] W (.slice ad' ln' cap') (.slice ad' ln' cap') W := ⟨b1, by rw [hn1, hxs1]; simpa [byteV] using ho, ⟨rfl, rfl, rfl, Nat.le_refl _, fun _ _ _ _ => rfl, .inl rfl, Nat.le_refl _⟩, hne, hbW⟩
    have e1 := b1.cell 0
    simp only [List.getElem?_toArray, List.getElem?_cons_zero] at e1
    have hn1b : n1 ≤ 1000000003000 := by omega
    have hab := appendByte_any x.1 hx1 (.slice ad' ln' cap') n1 base xs1 W (by rw [hn1, hxs1]; exact ho) hbW (by omega)
    have HAB := hide hab
    have HB0 := hide hB0
    have HNE := hide hN
    -- at the end of a round
    have HEND : Hid (∀ V X, BW N base n1 xs1 (runW x) W (.slice ad' ln' cap') V X → ∃ M', Foot M M' W X ∧ M' N ∧ ∃ v', Blk X N #[v'] 71 ∧ OwnU X base v' (n + (runsW (pre ++ [x])).length) (xs ++ byteV (runsW (pre ++ [x]))) ∧ (∀ g, v'.ownBlock = some g → M' g) ∧ (v'.ownBlock = (Value.slice ad ln cap).ownBlock ∨ ∃ g, v'.ownBlock = some g ∧ N < g)) := fun V X hX => by
      have hNW := b1.lt
      refine ⟨fun k => M k ∨ V.ownBlock = some k, ⟨fun k hk => ?_, ?_⟩, .inl m1, V, hX.box, ?_, fun g hg => .inr hg, ?_⟩
      · rcases hk with hk | hk
        · exact ⟨.inl hk, by have := hM k hk; have := hX.gx.size; omega⟩
        · refine ⟨?_, (hX.own.own_lt hk).2⟩
          rcases hX.gx.own with h | ⟨g, h, h2⟩
          · exact .inl (hom k (h.symm.trans hk))
          · rw [h] at hk; injection hk with hk; exact .inr (by omega)
      · exact ⟨hX.gx.os, hX.gx.tape, hX.gx.output, hX.gx.size, fun k hk hn => hX.gx.block k hk (fun e => hn (hom k e.symm)) (fun e => hn (e ▸ m1)), hX.gx.drawn⟩
      · have := hX.own
        rw [hn1, hxs1] at this
        rw [runsW_snoc, byteV_append, List.length_append, ← List.append_assoc, ← Nat.add_assoc]
        exact this
      · rcases hX.gx.own with h | ⟨g, h, h2⟩
        · rw [h]; exact hor
        · exact .inr ⟨g, h, by omega⟩
    clear hab hB0 ho hN hn1 hxs1 hom hor hM hpre hxm hrl
    gi_wp2_with fail
    refine ⟨trivial, rfl, ?_⟩
    refine (callsIn_wide.2 HAB.out).mono ?_
    rintro e W1 ⟨V1, rfl, hA1⟩
    have hP1 := HB0.out.put (l := []) (by simpa [byteV] using hA1)
    obtain ⟨a1, c1, rfl⟩ := hA1.slice
    have HP1 := hide hP1
    have hb1 : Blk W1 N #[.slice ad' ln' cap'] 71 := (hA1.gb.grown.block N b1.lt (fun e => hne e.symm)).trans b1
    have e2 := hb1.cell 0
    have f2 := hb1.frozen 0
    simp only [List.getElem?_toArray, List.getElem?_cons_zero] at e2
    obtain ⟨W2, hW2⟩ : ∃ W2, W2 = W1.setCell ⟨N, 0, none⟩ (.slice a1 (n1 + (byteW x.1).length) c1) := ⟨_, rfl⟩
    have ew2 : W1.setCell ⟨N, 0, none⟩ (.slice a1 (n1 + (byteW x.1).length) c1) = W2 := hW2.symm
    rw [← hW2] at HP1
    have e3 := HP1.out.box.cell 0
    simp only [List.getElem?_toArray, List.getElem?_cons_zero] at e3
    clear hA1 hP1 hb1 HAB hW2 e1
    by_cases hlt : x.1 < x.2
    · have hd1 : decide ((x.1 : Int) < x.2) = true := by simp; omega
      have hd2 : decide (x.1 < x.2) = true := by simp [hlt]
      have hbl := (byteW_len x.1).2
      have hb3 := (Below.refl W2.heap.size W2).alloc (Nat.le_refl _) (.cells #[.int .u8 45] 5)
      have hst : AW W2 base (.slice a1 (n1 + (byteW x.1).length) c1) (n1 + ([] ++ byteW x.1).length) (xs1 ++ byteV ([] ++ byteW x.1)) [] (.slice a1 (n1 + (byteW x.1).length) c1) W2 := AW.start HP1.out.own HP1.out.base
      obtain ⟨V3, W3, hr3, hA3⟩ := (hst.step hb3 (Nat.le_refl _)).app 71 W2.heap.size #[] [45] (Blk.newAt rfl _ _) (by simp) (by simp; omega)
      simp only [List.length_cons, List.length_nil, Nat.zero_add] at hr3
      have hab := appendByte_any x.2 hx2 V3 _ base _ W3 hA3.own hA3.base (by simp; omega)
      obtain ⟨a3, c3, rfl⟩ := hA3.slice
      have HAB := hide hab
      have HA3 := hide hA3
      have HRW : Hid (runW x = [] ++ byteW x.1 ++ ([] ++ [45] ++ byteW x.2)) := by show _ = _; unfold runW; rw [if_pos hlt]; simp
      clear hb3 hst hab hA3 hlt
      gi_wp2_with (refine wpListIn_append_run rfl _ _ _ rfl _ _ _ rfl rfl hr3 ?_)
      refine ⟨trivial, rfl, ?_⟩
      refine (callsIn_wide.2 HAB.out).mono ?_
      rintro e W4 ⟨V4, rfl, hA4⟩
      have hA5 := HA3.out.more hA4
      have hP5 := HP1.out.put hA5
      obtain ⟨a4, c4, rfl⟩ := hA4.slice
      rw [← HRW.out] at hP5
      have HP5 := hide hP5
      have hb4 : Blk W4 N #[.slice a1 (n1 + (byteW x.1).length) c1] 71 := (hA5.gb.grown.block N HP1.out.box.lt (fun e => HP1.out.ne e.symm)).trans HP1.out.box
      have e4 := hb4.cell 0
      have f4 := hb4.frozen 0
      simp only [List.getElem?_toArray, List.getElem?_cons_zero] at e4
      clear hA4 hA5 hP5 hb4 HAB HA3 e3
      gi_wp2
      exact HEND.out _ _ HP5.out
    · have hd1 : decide ((x.1 : Int) < x.2) = false := by simp; omega
      have hd2 : decide (x.1 < x.2) = false := by simp; omega
      have HRW : Hid (runW x = [] ++ byteW x.1) := by show _ = _; unfold runW; rw [if_neg hlt]; simp
      rw [← HRW.out] at HP1
      clear hlt
      gi_wp2
      exact HEND.out _ _ HP1.out
  case done =>
    rintro D M' W ⟨m1, v', b1, ho, hom, hor⟩ hF hD hK hn
    have e1 := b1.cell 0
    simp only [List.getElem?_toArray, List.getElem?_cons_zero] at e1
    obtain ⟨ad', ln', cap', rfl⟩ : ∃ ad ln cap, v' = .slice ad ln cap := by
      rcases ho.2 with ⟨rfl, -⟩ | ⟨g, cap, cur, t, rfl, -⟩ <;> exact ⟨_, _, _, rfl⟩
    have HF := hide hF
    have HK := hide hK
    have HO := hide ho
    have HNE := hide hN
    clear hF hK ho hN
    gi_wp2
    refine leave_mark HK.out (results_tmp rfl _ _ _) ⟨_, rfl, ?_, ⟨?_, ?_, Nat.le_trans hdw HF.out.agree.drawn⟩, ?_⟩
    · refine HO.out.keep fun g hg => World.putObj_heap_other ?_
      rintro rfl
      exact hn (hom _ hg)
    · have hb : Below N w W0 := HB.out
      refine ⟨HF.out.agree.os.trans hb.os, HF.out.agree.tape.trans hb.tape, HF.out.agree.output.trans hb.output, ?_, fun k hk hne => ?_⟩
      · rw [World.putObj_size]; exact Nat.le_trans hb.size HF.out.agree.size
      · have hk' : k < N := by rw [← HNE.out]; exact hk
        rw [World.putObj_heap_other (by omega), HF.out.agree.block k (by omega) (fun h => by rcases h with h | h; omega; exact hne h.symm), hb.block k hk']
    · rcases hor with h | ⟨g, h, hg⟩
      · exact .inl h
      · exact .inr ⟨g, h, by rw [HNE.out]; omega⟩
    · have := b1.lt
      rw [World.putObj_size]; omega
  case stop =>
    rintro D c pre M' W hp h
    exact h.elim
theorem textRuns_any (s : BitVec 256) (v : Value) (n base : Nat) (xs : List Value) (w : World) (hv : OwnU w base v n xs) (hn : n ≤ 1000000000000) (hG : 1 < base) (hbase : base ≤ w.heap.size) (hT : TabAt w) :
    Calls Tryz.prog 78 #[v, SV s] w fun e w' => ∃ V, e = .returned V ∧ AW w base v n xs (runsW (runsOf s)) V w' := callsIn_wide.1 (textRuns_in s v n base xs w hv hn hG hbase hT)
end Go.Proofs.YtjlgepahgmkamaaGreatDoor
/- appendClass: a set as it is written. -/
namespace Go.Proofs.YtjlgepahgmkamaaGreatDoor
set_option maxRecDepth 100000
set_option linter.unusedSimpArgs false
set_option linter.unusedVariables false
open Go.RowKit Go.Shelf

/-- A set as it is written. -/
def classW (s : BitVec 256) : List Nat :=
  if card s = 1 then runsW (runsOf s) else if card s = 256 then [46] else if 128 < card s then [91, 94] ++ runsW (runsOf (~~~s)) ++ [93] else [91] ++ runsW (runsOf s) ++ [93]

section
variable {ops : Array Oper} {Q : Exit → Act → World → Prop} {a : Act} {w : World} {oi : Oper} {rest : List Oper} {K : Act → World → Prop}
theorem op_val {i : Nat} {v : Value} {w' : World} (hi : ops.toList.drop i = oi :: rest) (hw : Region.wanted oi (yielded ops a.tmps) = true) (hv : (execOp a.eval oi).run Tryz.prog w = .ok (.value v) w') (hK : K (a.put oi.dst v) w') : wpOp Tryz.prog ops Q i K a w := by
  unfold wpOp
  simp only [at_drop hi, hw, if_true]
  refine .inl ?_
  unfold Oper.wp
  rw [hv, Oper.upon_value]; exact hK
theorem op_wp {i : Nat} (hi : ops.toList.drop i = oi :: rest) (hw : Region.wanted oi (yielded ops a.tmps) = true) (h : oi.wp Tryz.prog a w K Q) : wpOp Tryz.prog ops Q i K a w := by
  unfold wpOp
  simp only [at_drop hi, hw, if_true]
  exact .inl h
theorem op_ent {i : Nat} {f : FuncId} {vs : Array Value} (hi : ops.toList.drop i = oi :: rest) (hw : Region.wanted oi (yielded ops a.tmps) = true) (hv : (execOp a.eval oi).run Tryz.prog w = .ok (.enter f vs) w) (hc : Calls Tryz.prog f vs w fun e w' => ∃ v, e = .returned v ∧ K (a.put oi.dst v) w') : wpOp Tryz.prog ops Q i K a w := by
  unfold wpOp
  simp only [at_drop hi, hw, if_true]
  refine .inl ?_
  unfold Oper.wp
  rw [hv, Oper.upon_enter]
  refine hc.mono ?_
  rintro e w' ⟨v, rfl, h⟩
  exact h
end
theorem x_buildC (ρ : Operand → Value) (d : Option Tmp) (t : TypeId) (pos : String) (af : Array Edge) (g : Option (Nat × Bool)) (c : Nat) (hx : ρ (.const (.int .u8 c)) = .int .u8 c) (w : World) :
    (execOp ρ { dst := d, op := .buildSlice 71 1 #[(0, .const (.int .u8 c))], type := t, pos := pos, after := af, guard := g }).run Tryz.prog w = .ok (.value (.slice (some ⟨w.heap.size, 0, none⟩) 1 1)) (w.alloc (.cells #[.int .u8 c] 5)) := by
  simp [go_sem, hx]

/-- The row, the set in its box B, bytes that were laid. -/
structure CW (w : World) (base : Nat) (v : Value) (n : Nat) (xs : List Value) (B : Nat) (s : BitVec 256) (l : List Nat) (V : Value) (ls : List (Nat × Nat)) (W : World) : Prop where
  aw : AW w base v n xs l V W
  box : Blk W B (WS s) 62
  ne : V.ownBlock ≠ some B
  lit : ∀ x ∈ ls, Blk W x.2 #[.int .u8 x.1] 5 ∧ V.ownBlock ≠ some x.2
  tab : TabAt W
  low : 1 < base
section
variable {w W W' : World} {base n B : Nat} {v V V' : Value} {xs : List Value} {s : BitVec 256} {l m : List Nat} {ls : List (Nat × Nat)}
theorem CW.step (h : CW w base v n xs B s l V ls W) (hb : Below W.heap.size W W') (hd : W.drawn ≤ W'.drawn) : CW w base v n xs B s l V ls W' :=
  ⟨h.aw.step hb hd, h.box.below hb h.box.lt, h.ne, fun x hx => ⟨(h.lit x hx).1.below hb (h.lit x hx).1.lt, (h.lit x hx).2⟩, h.tab.agree (Agree.of_all (K := fun _ => True) hb) trivial, h.low⟩
theorem CW.lay (h : CW w base v n xs B s l V ls W) (c : Nat) : CW w base v n xs B s l V ((c, W.heap.size) :: ls) (W.alloc (.cells #[.int .u8 c] 5)) := by
  have h2 := h.step ((Below.refl W.heap.size W).alloc (Nat.le_refl _) (.cells #[.int .u8 c] 5)) (Nat.le_refl _)
  refine ⟨h2.aw, h2.box, h2.ne, fun x hx => ?_, h2.tab, h2.low⟩
  rcases List.mem_cons.1 hx with rfl | hx
  · exact ⟨Blk.newAt rfl _ _, fun e => by have := (h.aw.own.own_lt e).2; simp at this⟩
  · exact h2.lit x hx
theorem CW.more (h : CW w base v n xs B s l V ls W) (k : AW W base V (n + l.length) (xs ++ byteV l) m V' W') : CW w base v n xs B s (l ++ m) V' ls W' := by
  have hne : ∀ g, g < W.heap.size → V.ownBlock ≠ some g → V'.ownBlock ≠ some g := fun g hg hn e => by
    rcases k.gb.own with h1 | ⟨g', h1, h2⟩
    · exact hn (h1.symm.trans e)
    · rw [e] at h1; injection h1 with h1; omega
  refine ⟨h.aw.more k, (k.gb.grown.block B h.box.lt (fun e => h.ne e.symm)).trans h.box, hne B h.box.lt h.ne, fun x hx => ?_, ?_, h.low⟩
  · obtain ⟨h1, h2⟩ := h.lit x hx
    exact ⟨(k.gb.grown.block x.2 h1.lt (fun e => h2 e.symm)).trans h1, hne x.2 h1.lt h2⟩
  · intro j hj
    have hc := h.tab j hj
    rw [← hc]
    refine World.cell?_of_block (w := W) (k.gb.grown.block _ (World.block_lt_of_cell? _ _ hc) fun e => ?_)
    have := (h.aw.own.own_lt e.symm).1
    have := h.low
    simp at *; omega
theorem CW.app (h : CW w base v n xs B s l V ls W) (c g : Nat) (hm : (c, g) ∈ ls) (hl : n + l.length + 1 ≤ 140737488355328) :
    ∃ V' W', (Builtin.append_ #[71, 71] 71 #[V, .slice (some ⟨g, 0, none⟩) 1 1]).run Tryz.prog W = .ok V' W' ∧ CW w base v n xs B s (l ++ [c]) V' ls W' := by
  have hst : AW W base V (n + l.length) (xs ++ byteV l) [] V W := AW.start h.aw.own h.aw.base
  obtain ⟨V', W', hr, hA⟩ := hst.app 71 g #[] [c] (h.lit _ hm).1 (by simp) (by simp; omega)
  exact ⟨V', W', hr, h.more hA⟩
theorem CW.appS (h : CW w base v n xs B s l V ls W) (t : ByteArray) (m : List Nat) (hm : bytesN t = m) (h0 : 0 < m.length) (hl : n + l.length + m.length ≤ 140737488355328) :
    ∃ V' W', (Builtin.append_ #[71, 9] 71 #[V, .string t]).run Tryz.prog W = .ok V' W' ∧ CW w base v n xs B s (l ++ m) V' ls W' := by
  have hst : AW W base V (n + l.length) (xs ++ byteV l) [] V W := AW.start h.aw.own h.aw.base
  obtain ⟨V', W', hr, hA⟩ := hst.appS 71 t m hm h0 (by simp; omega)
  exact ⟨V', W', hr, h.more hA⟩
end
set_option maxHeartbeats 400000 in
theorem notD_any (s : BitVec 256) (w : World) :
    Calls Tryz.prog 76 #[SV s] w fun e w' => e = .returned (SV (~~~s)) ∧ Below w.heap.size w w' ∧ w.drawn ≤ w'.drawn := by
  go_enter Tryz.func76, Tryz.ntmps76
  go_wp2
  refine wp_loop_rounds 5 ?_
  rw [rounds_succ]; go_wp2
  rw [rounds_succ]; go_wp2
  rw [rounds_succ]; go_wp2
  rw [rounds_succ]; go_wp2
  rw [rounds_succ]; go_wp2
  simp only [bits_not_wd s 0 (by omega), bits_not_wd s 1 (by omega), bits_not_wd s 2 (by omega), bits_not_wd s 3 (by omega)]
  exact bodyPost_ret (v := SV (~~~s)) (by simp [results, Tryz.results76, go_sem]) rfl ⟨rfl, ((Below.refl _ _).alloc (Nat.le_refl _) _).alloc (by simp) _, Nat.le_refl _⟩

set_option maxHeartbeats 400000 in
theorem lenD_any (s : BitVec 256) (w : World) :
    Calls Tryz.prog 77 #[SV s] w fun e w' => e = .returned (.int .i64 (card s)) ∧ Below w.heap.size w w' ∧ w.drawn ≤ w'.drawn := by
  obtain ⟨n0, h0⟩ : ∃ n, n = ds 2 64 (wd s 0) := ⟨_, rfl⟩
  obtain ⟨n1, h1⟩ : ∃ n, n = ds 2 64 (wd s 1) := ⟨_, rfl⟩
  obtain ⟨n2, h2⟩ : ∃ n, n = ds 2 64 (wd s 2) := ⟨_, rfl⟩
  obtain ⟨n3, h3⟩ : ∃ n, n = ds 2 64 (wd s 3) := ⟨_, rfl⟩
  have b0 : n0 ≤ 64 := by rw [h0]; exact ds2_le _ _
  have b1 : n1 ≤ 64 := by rw [h1]; exact ds2_le _ _
  have b2 : n2 ≤ 64 := by rw [h2]; exact ds2_le _ _
  have b3 : n3 ≤ 64 := by rw [h3]; exact ds2_le _ _
  have c0 := ones_any (wd s 0) (wd_lt s 0)
  have c1 := ones_any (wd s 1) (wd_lt s 1)
  have c2 := ones_any (wd s 2) (wd_lt s 2)
  have c3 := ones_any (wd s 3) (wd_lt s 3)
  have hsum : Hid (card s = n0 + n1 + n2 + n3) := by rw [h0, h1, h2, h3]; rfl
  rw [← h0] at c0; rw [← h1] at c1; rw [← h2] at c2; rw [← h3] at c3
  clear h0 h1 h2 h3
  have C0 : Hid (∀ (w : World), Calls Tryz.prog 97 #[.int .u64 (wd s 0)] w fun e w' => e = .returned (.int .i64 n0) ∧ w' = w) := c0
  have C1 : Hid (∀ (w : World), Calls Tryz.prog 97 #[.int .u64 (wd s 1)] w fun e w' => e = .returned (.int .i64 n1) ∧ w' = w) := c1
  have C2 : Hid (∀ (w : World), Calls Tryz.prog 97 #[.int .u64 (wd s 2)] w fun e w' => e = .returned (.int .i64 n2) ∧ w' = w) := c2
  have C3 : Hid (∀ (w : World), Calls Tryz.prog 97 #[.int .u64 (wd s 3)] w fun e w' => e = .returned (.int .i64 n3) ∧ w' = w) := c3
  clear c0 c1 c2 c3
  have i0 := idx4 (wd s 0) (wd s 1) (wd s 2) (wd s 3) 0 (by omega)
  have i1 := idx4 (wd s 0) (wd s 1) (wd s 2) (wd s 3) 1 (by omega)
  have i2 := idx4 (wd s 0) (wd s 1) (wd s 2) (wd s 3) 2 (by omega)
  have i3 := idx4 (wd s 0) (wd s 1) (wd s 2) (wd s 3) 3 (by omega)
  simp only [List.getD_cons_zero, List.getD_cons_succ, Int.cast_ofNat_Int] at i0 i1 i2 i3
  go_enter Tryz.func77, Tryz.ntmps77
  go_wp2
  refine wp_loop_rounds 5 ?_
  rw [rounds_succ]; go_wp2_with fail; refine (C0.out _).mono ?_; rintro e w1 ⟨rfl, rfl⟩; go_wp2
  rw [rounds_succ]; go_wp2_with fail; refine (C1.out _).mono ?_; rintro e w1 ⟨rfl, rfl⟩; go_wp2
  rw [rounds_succ]; go_wp2_with fail; refine (C2.out _).mono ?_; rintro e w1 ⟨rfl, rfl⟩; go_wp2
  rw [rounds_succ]; go_wp2_with fail; refine (C3.out _).mono ?_; rintro e w1 ⟨rfl, rfl⟩; go_wp2
  rw [rounds_succ]; go_wp2
  go_ret
  exact ⟨ret_int (by have := hsum.out; omega), (Below.refl _ _).alloc (Nat.le_refl _) _, Nat.le_refl _⟩

set_option maxHeartbeats 4000000 in
theorem appendClass_any (s : BitVec 256) (v : Value) (n base : Nat) (xs : List Value) (w : World) (hv : OwnU w base v n xs) (hn : n ≤ 900000000000) (hG : 1 < base) (hbase : base ≤ w.heap.size) (hT : TabAt w) :
    Calls Tryz.prog 59 #[v, SV s] w fun e w' => ∃ V, e = .returned V ∧ AW w base v n xs (classW s) V w' := by
  obtain ⟨a0, cp0, rfl⟩ := hv.slice
  obtain ⟨L, hL⟩ : ∃ L, L = classW s := ⟨_, rfl⟩
  rw [← hL]
  obtain ⟨B, hB⟩ : ∃ B, B = w.heap.size := ⟨_, rfl⟩
  have hb0 := (Below.refl w.heap.size w).alloc (Nat.le_refl _) (.cells (WS s) 62)
  have hC0 : CW w base (.slice a0 n cp0) n xs B s [] (.slice a0 n cp0) [] (w.alloc (.cells (WS s) 62)) :=
    ⟨(AW.start hv hbase).step hb0 (Nat.le_refl _), Blk.newAt hB _ _, fun e => by have := (hv.own_lt e).2; omega, fun x hx => by simp at hx, hT.agree (Agree.of_all (K := fun _ => True) hb0) trivial, hG⟩
  have hln := lenD_any s (w.alloc (.cells (WS s) 62))
  have HC0 := hide hC0
  have HLN := hide hln
  have HBB := hide hB
  have HLL := hide hL
  have hr1 := runs_le s
  have hr2 := runs_le (~~~s)
  have hw1 := runsW_len (runsOf s)
  have hw2 := runsW_len (runsOf (~~~s))
  obtain ⟨cd, hcd⟩ : ∃ cd, cd = card s := ⟨_, rfl⟩
  rw [← hcd] at HLN
  clear hL hb0 hC0 hln hv hT
  unfold SV at HLN ⊢
  unfold WS at HLN HC0
  go_enter Tryz.func59, Tryz.ntmps59
  go_wp2_with fail
  rw [← hB]
  clear hB
  refine HLN.out.mono ?_
  rintro e w1 ⟨rfl, hb1, hd1⟩
  have HC1 := hide (HC0.out.step hb1 hd1)
  have hbx := HC1.out.box
  have b0 := hbx.cell 0; have b1 := hbx.cell 1; have b2 := hbx.cell 2; have b3 := hbx.cell 3
  simp only [WS, List.getElem?_toArray, List.getElem?_cons_zero, List.getElem?_cons_succ] at b0 b1 b2 b3
  clear hb1 hd1 HLN HC0 hbx
  by_cases h1 : cd = 1
  · have k1 : ((cd : Int) == 1) = true := by simp [h1]
    have HE : Hid (L = [] ++ runsW (runsOf s)) := by show _ = _; rw [HLL.out]; unfold classW; rw [← hcd, if_pos h1]; rfl
    have hab := textRuns_any s (.slice a0 n cp0) n base xs w1 (by simpa [byteV] using HC1.out.aw.own) (by omega) hG HC1.out.aw.base HC1.out.tab
    have HAB := hide hab
    clear hab h1 hcd
    unfold SV at HAB
    go_wp2_with fail
    refine HAB.out.mono ?_
    rintro e w2 ⟨V, rfl, hA⟩
    have HC2 := hide (HC1.out.more (l := []) (by simpa [byteV] using hA))
    obtain ⟨a1, c1, rfl⟩ := hA.slice
    clear hA HAB b0 b1 b2 b3
    go_wp2
    go_ret
    exact ⟨_, rfl, by rw [HE.out]; exact HC2.out.aw⟩
  have k1 : ((cd : Int) == 1) = false := beq_eq_false_iff_ne.2 (by omega)
  by_cases h2 : cd = 256
  · have k2 : ((cd : Int) == 256) = true := by simp [h2]
    have HE : Hid (L = [] ++ [46]) := by show _ = _; rw [HLL.out]; unfold classW; rw [← hcd, if_neg h1, if_pos h2]; rfl
    obtain ⟨V, W, hr, hC2⟩ := (HC1.out.lay 46).app 46 w1.heap.size (by simp) (by simp; omega)
    have HC2 := hide hC2
    obtain ⟨a1, c1, rfl⟩ := hC2.aw.slice
    clear hC2 h1 hcd b0 b1 b2 b3
    go_wp2_with (refine wpList_append_run rfl _ _ _ rfl _ _ _ rfl rfl hr ?_)
    go_ret
    exact ⟨_, rfl, by rw [HE.out]; exact HC2.out.aw⟩
  have k2 : ((cd : Int) == 256) = false := beq_eq_false_iff_ne.2 (by omega)
  by_cases h3 : 128 < cd
  · have k3 : decide ((128 : Int) < cd) = true := by simp; omega
    have k4 : decide (128 < cd) = true := by simp [h3]
    have HE : Hid (L = [] ++ [91, 94] ++ runsW (runsOf (~~~s)) ++ [93]) := by show _ = _; rw [HLL.out]; unfold classW; rw [← hcd, if_neg h1, if_neg h2, if_pos h3]; rfl
    have HLEN : Hid ((runsW (runsOf (~~~s))).length ≤ 2304) := by show _ ≤ _; omega
    clear h1 h2 h3 hcd b0 b1 b2 b3
    go_wp2
    have c0 := HC1.out.step (⟨rfl, rfl, rfl, Nat.le_refl _, fun _ _ => rfl⟩ : Below w1.heap.size w1 { w1 with drawn := w1.drawn + 1 }) (Nat.le_succ _)
    refine wp_region_noPanic (wp_region_held (S := fun W => Blk W B (WS s) 62) (by kernel_rfl) ?_)
    show wpAnyH _ _ _ _ _ 8 #[false, false, false, false, false, false, false, false] _ _
    generalize ({ w1 with drawn := w1.drawn + 1 } : World) = W0 at c0 ⊢
    refine h_take 0 (.slice a0 n cp0) rfl (by kernel_rfl) (by kernel_rfl) (by kernel_rfl) rfl (fun w hw => x_move _ _ _ _ _ _ _ _ rfl w) c0.box ?_
    simp only [Act.put, List.setIfInBounds_toArray, List.set_cons_succ, List.set_cons_zero]
    refine h_take 2 (SV s) rfl (by kernel_rfl) (by kernel_rfl) (by kernel_rfl) rfl (fun w hw => x_loadSet _ _ _ _ _ _ _ _ s rfl w hw) c0.box ?_
    simp only [Act.put, List.setIfInBounds_toArray, List.set_cons_succ, List.set_cons_zero]
    refine wpAnyH_all (rs := [1, 5]) (by kernel_rfl) (by simp) ?_
    intro i hi
    simp only [List.mem_cons, List.not_mem_nil, or_false] at hi
    rcases hi with rfl | rfl
    · obtain ⟨v2, W3, hr4, c1⟩ := (c0).appS ⟨#[91, 94]⟩ [91, 94] (by decide +kernel) (by simp) (by simp; omega)
      refine op_wp (i := 1) rfl rfl (wp_append_known _ _ _ rfl _ _ _ rfl rfl hr4 ⟨(c1).box, ?_⟩)
      simp only [Act.put, List.setIfInBounds_toArray, List.set_cons_succ, List.set_cons_zero]
      refine wpAnyH_all (rs := [3, 5]) (by kernel_rfl) (by simp) ?_
      intro i hi
      simp only [List.mem_cons, List.not_mem_nil, or_false] at hi
      rcases hi with rfl | rfl
      · refine op_ent (i := 3) rfl rfl (x_call1 _ _ _ _ _ _ _ _ _ _ rfl rfl (enters_of Tryz.func76 (by kernel_rfl) rfl) _) ((notD_any s _).mono ?_)
        rintro e W6 ⟨rfl, hb7, hd⟩
        have c5 := (c1).step hb7 hd
        refine ⟨_, rfl, (c5).box, ?_⟩
        simp only [Act.put, List.setIfInBounds_toArray, List.set_cons_succ, List.set_cons_zero]
        refine wpAnyH_all (rs := [4, 5]) (by kernel_rfl) (by simp) ?_
        intro i hi
        simp only [List.mem_cons, List.not_mem_nil, or_false] at hi
        rcases hi with rfl | rfl
        · refine op_ent (i := 4) rfl rfl (x_call2 _ _ _ _ _ _ _ _ _ _ _ _ _ rfl rfl rfl (enters_of Tryz.func78 (by kernel_rfl) rfl) _) ((textRuns_any (~~~s) _ _ base _ _ (c5).aw.own (by simp; omega) hG (c5).aw.base (c5).tab).mono ?_)
          rintro e W10 ⟨v9, rfl, ha11⟩
          have c8 := (c5).more ha11
          refine ⟨_, rfl, (c8).box, ?_⟩
          simp only [Act.put, List.setIfInBounds_toArray, List.set_cons_succ, List.set_cons_zero]
          refine wpAnyH_all (rs := [5]) (by kernel_rfl) (by simp) ?_
          intro i hi
          simp only [List.mem_cons, List.not_mem_nil, or_false] at hi
          subst hi
          refine op_val (i := 5) rfl rfl (x_buildC _ _ _ _ _ _ 93 rfl _) ⟨(c8).box.alloc _, ?_⟩
          simp only [Act.put, List.setIfInBounds_toArray, List.set_cons_succ, List.set_cons_zero]
          have c12 := (c8).lay 93
          generalize W10.alloc (.cells #[.int .u8 ((93 : Nat) : Int)] 5) = X13 at c12 ⊢
          refine wpAnyH_all (rs := [6]) (by kernel_rfl) (by simp) ?_
          intro i hi
          simp only [List.mem_cons, List.not_mem_nil, or_false] at hi
          subst hi
          obtain ⟨v15, W16, hr17, c14⟩ := (c12).app 93 (W10.heap.size) (by simp) (by have := HLEN.out; simp; omega)
          refine op_wp (i := 6) rfl rfl (wp_append_known _ _ _ rfl _ _ _ rfl rfl hr17 ⟨(c14).box, ?_⟩)
          simp only [Act.put, List.setIfInBounds_toArray, List.set_cons_succ, List.set_cons_zero]
          refine wpAnyH_all (rs := [7]) (by kernel_rfl) (by simp) ?_
          intro i hi
          simp only [List.mem_cons, List.not_mem_nil, or_false] at hi
          subst hi
          refine op_val (i := 7) rfl rfl (x_assign _ _ _ _ _ _ _ _ rfl _) ⟨(c14).box, ?_⟩
          simp only [Act.put, List.setIfInBounds_toArray, List.set_cons_succ, List.set_cons_zero]
          refine wpAnyH_done (by kernel_rfl) ?_ _
          refine NoPanic.normal ?_
          have HZ := hide c14.aw
          obtain ⟨az, cz, hvz⟩ := c14.aw.slice
          clear c14
          subst hvz
          go_wp2
          go_ret
          exact ⟨_, rfl, by rw [HE.out]; exact HZ.out⟩
        · refine op_val (i := 5) rfl rfl (x_buildC _ _ _ _ _ _ 93 rfl _) ⟨(c5).box.alloc _, ?_⟩
          simp only [Act.put, List.setIfInBounds_toArray, List.set_cons_succ, List.set_cons_zero]
          have c18 := (c5).lay 93
          generalize W6.alloc (.cells #[.int .u8 ((93 : Nat) : Int)] 5) = X19 at c18 ⊢
          refine wpAnyH_all (rs := [4]) (by kernel_rfl) (by simp) ?_
          intro i hi
          simp only [List.mem_cons, List.not_mem_nil, or_false] at hi
          subst hi
          refine op_ent (i := 4) rfl rfl (x_call2 _ _ _ _ _ _ _ _ _ _ _ _ _ rfl rfl rfl (enters_of Tryz.func78 (by kernel_rfl) rfl) _) ((textRuns_any (~~~s) _ _ base _ _ (c18).aw.own (by simp; omega) hG (c18).aw.base (c18).tab).mono ?_)
          rintro e W22 ⟨v21, rfl, ha23⟩
          have c20 := (c18).more ha23
          refine ⟨_, rfl, (c20).box, ?_⟩
          simp only [Act.put, List.setIfInBounds_toArray, List.set_cons_succ, List.set_cons_zero]
          refine wpAnyH_all (rs := [6]) (by kernel_rfl) (by simp) ?_
          intro i hi
          simp only [List.mem_cons, List.not_mem_nil, or_false] at hi
          subst hi
          obtain ⟨v25, W26, hr27, c24⟩ := (c20).app 93 (W6.heap.size) (by simp) (by have := HLEN.out; simp; omega)
          refine op_wp (i := 6) rfl rfl (wp_append_known _ _ _ rfl _ _ _ rfl rfl hr27 ⟨(c24).box, ?_⟩)
          simp only [Act.put, List.setIfInBounds_toArray, List.set_cons_succ, List.set_cons_zero]
          refine wpAnyH_all (rs := [7]) (by kernel_rfl) (by simp) ?_
          intro i hi
          simp only [List.mem_cons, List.not_mem_nil, or_false] at hi
          subst hi
          refine op_val (i := 7) rfl rfl (x_assign _ _ _ _ _ _ _ _ rfl _) ⟨(c24).box, ?_⟩
          simp only [Act.put, List.setIfInBounds_toArray, List.set_cons_succ, List.set_cons_zero]
          refine wpAnyH_done (by kernel_rfl) ?_ _
          refine NoPanic.normal ?_
          have HZ := hide c24.aw
          obtain ⟨az, cz, hvz⟩ := c24.aw.slice
          clear c24
          subst hvz
          go_wp2
          go_ret
          exact ⟨_, rfl, by rw [HE.out]; exact HZ.out⟩
      · refine op_val (i := 5) rfl rfl (x_buildC _ _ _ _ _ _ 93 rfl _) ⟨(c1).box.alloc _, ?_⟩
        simp only [Act.put, List.setIfInBounds_toArray, List.set_cons_succ, List.set_cons_zero]
        have c28 := (c1).lay 93
        generalize W3.alloc (.cells #[.int .u8 ((93 : Nat) : Int)] 5) = X29 at c28 ⊢
        refine wpAnyH_all (rs := [3]) (by kernel_rfl) (by simp) ?_
        intro i hi
        simp only [List.mem_cons, List.not_mem_nil, or_false] at hi
        subst hi
        refine op_ent (i := 3) rfl rfl (x_call1 _ _ _ _ _ _ _ _ _ _ rfl rfl (enters_of Tryz.func76 (by kernel_rfl) rfl) _) ((notD_any s _).mono ?_)
        rintro e W31 ⟨rfl, hb32, hd⟩
        have c30 := (c28).step hb32 hd
        refine ⟨_, rfl, (c30).box, ?_⟩
        simp only [Act.put, List.setIfInBounds_toArray, List.set_cons_succ, List.set_cons_zero]
        refine wpAnyH_all (rs := [4]) (by kernel_rfl) (by simp) ?_
        intro i hi
        simp only [List.mem_cons, List.not_mem_nil, or_false] at hi
        subst hi
        refine op_ent (i := 4) rfl rfl (x_call2 _ _ _ _ _ _ _ _ _ _ _ _ _ rfl rfl rfl (enters_of Tryz.func78 (by kernel_rfl) rfl) _) ((textRuns_any (~~~s) _ _ base _ _ (c30).aw.own (by simp; omega) hG (c30).aw.base (c30).tab).mono ?_)
        rintro e W35 ⟨v34, rfl, ha36⟩
        have c33 := (c30).more ha36
        refine ⟨_, rfl, (c33).box, ?_⟩
        simp only [Act.put, List.setIfInBounds_toArray, List.set_cons_succ, List.set_cons_zero]
        refine wpAnyH_all (rs := [6]) (by kernel_rfl) (by simp) ?_
        intro i hi
        simp only [List.mem_cons, List.not_mem_nil, or_false] at hi
        subst hi
        obtain ⟨v38, W39, hr40, c37⟩ := (c33).app 93 (W3.heap.size) (by simp) (by have := HLEN.out; simp; omega)
        refine op_wp (i := 6) rfl rfl (wp_append_known _ _ _ rfl _ _ _ rfl rfl hr40 ⟨(c37).box, ?_⟩)
        simp only [Act.put, List.setIfInBounds_toArray, List.set_cons_succ, List.set_cons_zero]
        refine wpAnyH_all (rs := [7]) (by kernel_rfl) (by simp) ?_
        intro i hi
        simp only [List.mem_cons, List.not_mem_nil, or_false] at hi
        subst hi
        refine op_val (i := 7) rfl rfl (x_assign _ _ _ _ _ _ _ _ rfl _) ⟨(c37).box, ?_⟩
        simp only [Act.put, List.setIfInBounds_toArray, List.set_cons_succ, List.set_cons_zero]
        refine wpAnyH_done (by kernel_rfl) ?_ _
        refine NoPanic.normal ?_
        have HZ := hide c37.aw
        obtain ⟨az, cz, hvz⟩ := c37.aw.slice
        clear c37
        subst hvz
        go_wp2
        go_ret
        exact ⟨_, rfl, by rw [HE.out]; exact HZ.out⟩
    · refine op_val (i := 5) rfl rfl (x_buildC _ _ _ _ _ _ 93 rfl _) ⟨(c0).box.alloc _, ?_⟩
      simp only [Act.put, List.setIfInBounds_toArray, List.set_cons_succ, List.set_cons_zero]
      have c41 := (c0).lay 93
      generalize W0.alloc (.cells #[.int .u8 ((93 : Nat) : Int)] 5) = X42 at c41 ⊢
      refine wpAnyH_all (rs := [1]) (by kernel_rfl) (by simp) ?_
      intro i hi
      simp only [List.mem_cons, List.not_mem_nil, or_false] at hi
      subst hi
      obtain ⟨v44, W45, hr46, c43⟩ := (c41).appS ⟨#[91, 94]⟩ [91, 94] (by decide +kernel) (by simp) (by simp; omega)
      refine op_wp (i := 1) rfl rfl (wp_append_known _ _ _ rfl _ _ _ rfl rfl hr46 ⟨(c43).box, ?_⟩)
      simp only [Act.put, List.setIfInBounds_toArray, List.set_cons_succ, List.set_cons_zero]
      refine wpAnyH_all (rs := [3]) (by kernel_rfl) (by simp) ?_
      intro i hi
      simp only [List.mem_cons, List.not_mem_nil, or_false] at hi
      subst hi
      refine op_ent (i := 3) rfl rfl (x_call1 _ _ _ _ _ _ _ _ _ _ rfl rfl (enters_of Tryz.func76 (by kernel_rfl) rfl) _) ((notD_any s _).mono ?_)
      rintro e W48 ⟨rfl, hb49, hd⟩
      have c47 := (c43).step hb49 hd
      refine ⟨_, rfl, (c47).box, ?_⟩
      simp only [Act.put, List.setIfInBounds_toArray, List.set_cons_succ, List.set_cons_zero]
      refine wpAnyH_all (rs := [4]) (by kernel_rfl) (by simp) ?_
      intro i hi
      simp only [List.mem_cons, List.not_mem_nil, or_false] at hi
      subst hi
      refine op_ent (i := 4) rfl rfl (x_call2 _ _ _ _ _ _ _ _ _ _ _ _ _ rfl rfl rfl (enters_of Tryz.func78 (by kernel_rfl) rfl) _) ((textRuns_any (~~~s) _ _ base _ _ (c47).aw.own (by simp; omega) hG (c47).aw.base (c47).tab).mono ?_)
      rintro e W52 ⟨v51, rfl, ha53⟩
      have c50 := (c47).more ha53
      refine ⟨_, rfl, (c50).box, ?_⟩
      simp only [Act.put, List.setIfInBounds_toArray, List.set_cons_succ, List.set_cons_zero]
      refine wpAnyH_all (rs := [6]) (by kernel_rfl) (by simp) ?_
      intro i hi
      simp only [List.mem_cons, List.not_mem_nil, or_false] at hi
      subst hi
      obtain ⟨v55, W56, hr57, c54⟩ := (c50).app 93 (W0.heap.size) (by simp) (by have := HLEN.out; simp; omega)
      refine op_wp (i := 6) rfl rfl (wp_append_known _ _ _ rfl _ _ _ rfl rfl hr57 ⟨(c54).box, ?_⟩)
      simp only [Act.put, List.setIfInBounds_toArray, List.set_cons_succ, List.set_cons_zero]
      refine wpAnyH_all (rs := [7]) (by kernel_rfl) (by simp) ?_
      intro i hi
      simp only [List.mem_cons, List.not_mem_nil, or_false] at hi
      subst hi
      refine op_val (i := 7) rfl rfl (x_assign _ _ _ _ _ _ _ _ rfl _) ⟨(c54).box, ?_⟩
      simp only [Act.put, List.setIfInBounds_toArray, List.set_cons_succ, List.set_cons_zero]
      refine wpAnyH_done (by kernel_rfl) ?_ _
      refine NoPanic.normal ?_
      have HZ := hide c54.aw
      obtain ⟨az, cz, hvz⟩ := c54.aw.slice
      clear c54
      subst hvz
      go_wp2
      go_ret
      exact ⟨_, rfl, by rw [HE.out]; exact HZ.out⟩
  · have k3 : decide ((128 : Int) < cd) = false := by simp; omega
    have k4 : decide (128 < cd) = false := by simp; omega
    have HE : Hid (L = [] ++ [91] ++ runsW (runsOf s) ++ [93]) := by show _ = _; rw [HLL.out]; unfold classW; rw [← hcd, if_neg h1, if_neg h2, if_neg h3]; rfl
    have HLEN : Hid ((runsW (runsOf s)).length ≤ 2304) := by show _ ≤ _; omega
    clear h1 h2 h3 hcd b0 b1 b2 b3
    go_wp2
    have c0 := HC1.out.step (⟨rfl, rfl, rfl, Nat.le_refl _, fun _ _ => rfl⟩ : Below w1.heap.size w1 { w1 with drawn := w1.drawn + 1 }) (Nat.le_succ _)
    refine wp_region_noPanic (wp_region_held (S := fun W => Blk W B (WS s) 62) (by kernel_rfl) ?_)
    show wpAnyH _ _ _ _ _ 8 #[false, false, false, false, false, false, false, false] _ _
    generalize ({ w1 with drawn := w1.drawn + 1 } : World) = W0 at c0 ⊢
    refine h_take 0 (.slice a0 n cp0) rfl (by kernel_rfl) (by kernel_rfl) (by kernel_rfl) rfl (fun w hw => x_move _ _ _ _ _ _ _ _ rfl w) c0.box ?_
    simp only [Act.put, List.setIfInBounds_toArray, List.set_cons_succ, List.set_cons_zero]
    refine h_take 3 (SV s) rfl (by kernel_rfl) (by kernel_rfl) (by kernel_rfl) rfl (fun w hw => x_loadSet _ _ _ _ _ _ _ _ s rfl w hw) c0.box ?_
    simp only [Act.put, List.setIfInBounds_toArray, List.set_cons_succ, List.set_cons_zero]
    refine wpAnyH_all (rs := [1, 5]) (by kernel_rfl) (by simp) ?_
    intro i hi
    simp only [List.mem_cons, List.not_mem_nil, or_false] at hi
    rcases hi with rfl | rfl
    · refine op_val (i := 1) rfl rfl (x_buildC _ _ _ _ _ _ 91 rfl _) ⟨(c0).box.alloc _, ?_⟩
      simp only [Act.put, List.setIfInBounds_toArray, List.set_cons_succ, List.set_cons_zero]
      have c1 := (c0).lay 91
      generalize W0.alloc (.cells #[.int .u8 ((91 : Nat) : Int)] 5) = X2 at c1 ⊢
      refine wpAnyH_all (rs := [2, 5]) (by kernel_rfl) (by simp) ?_
      intro i hi
      simp only [List.mem_cons, List.not_mem_nil, or_false] at hi
      rcases hi with rfl | rfl
      · obtain ⟨v4, W5, hr6, c3⟩ := (c1).app 91 (W0.heap.size) (by simp) (by simp; omega)
        refine op_wp (i := 2) rfl rfl (wp_append_known _ _ _ rfl _ _ _ rfl rfl hr6 ⟨(c3).box, ?_⟩)
        simp only [Act.put, List.setIfInBounds_toArray, List.set_cons_succ, List.set_cons_zero]
        refine wpAnyH_all (rs := [4, 5]) (by kernel_rfl) (by simp) ?_
        intro i hi
        simp only [List.mem_cons, List.not_mem_nil, or_false] at hi
        rcases hi with rfl | rfl
        · refine op_ent (i := 4) rfl rfl (x_call2 _ _ _ _ _ _ _ _ _ _ _ _ _ rfl rfl rfl (enters_of Tryz.func78 (by kernel_rfl) rfl) _) ((textRuns_any s _ _ base _ _ (c3).aw.own (by simp; omega) hG (c3).aw.base (c3).tab).mono ?_)
          rintro e W9 ⟨v8, rfl, ha10⟩
          have c7 := (c3).more ha10
          refine ⟨_, rfl, (c7).box, ?_⟩
          simp only [Act.put, List.setIfInBounds_toArray, List.set_cons_succ, List.set_cons_zero]
          refine wpAnyH_all (rs := [5]) (by kernel_rfl) (by simp) ?_
          intro i hi
          simp only [List.mem_cons, List.not_mem_nil, or_false] at hi
          subst hi
          refine op_val (i := 5) rfl rfl (x_buildC _ _ _ _ _ _ 93 rfl _) ⟨(c7).box.alloc _, ?_⟩
          simp only [Act.put, List.setIfInBounds_toArray, List.set_cons_succ, List.set_cons_zero]
          have c11 := (c7).lay 93
          generalize W9.alloc (.cells #[.int .u8 ((93 : Nat) : Int)] 5) = X12 at c11 ⊢
          refine wpAnyH_all (rs := [6]) (by kernel_rfl) (by simp) ?_
          intro i hi
          simp only [List.mem_cons, List.not_mem_nil, or_false] at hi
          subst hi
          obtain ⟨v14, W15, hr16, c13⟩ := (c11).app 93 (W9.heap.size) (by simp) (by have := HLEN.out; simp; omega)
          refine op_wp (i := 6) rfl rfl (wp_append_known _ _ _ rfl _ _ _ rfl rfl hr16 ⟨(c13).box, ?_⟩)
          simp only [Act.put, List.setIfInBounds_toArray, List.set_cons_succ, List.set_cons_zero]
          refine wpAnyH_all (rs := [7]) (by kernel_rfl) (by simp) ?_
          intro i hi
          simp only [List.mem_cons, List.not_mem_nil, or_false] at hi
          subst hi
          refine op_val (i := 7) rfl rfl (x_assign _ _ _ _ _ _ _ _ rfl _) ⟨(c13).box, ?_⟩
          simp only [Act.put, List.setIfInBounds_toArray, List.set_cons_succ, List.set_cons_zero]
          refine wpAnyH_done (by kernel_rfl) ?_ _
          refine NoPanic.normal ?_
          have HZ := hide c13.aw
          obtain ⟨az, cz, hvz⟩ := c13.aw.slice
          clear c13
          subst hvz
          go_wp2
          go_ret
          exact ⟨_, rfl, by rw [HE.out]; exact HZ.out⟩
        · refine op_val (i := 5) rfl rfl (x_buildC _ _ _ _ _ _ 93 rfl _) ⟨(c3).box.alloc _, ?_⟩
          simp only [Act.put, List.setIfInBounds_toArray, List.set_cons_succ, List.set_cons_zero]
          have c17 := (c3).lay 93
          generalize W5.alloc (.cells #[.int .u8 ((93 : Nat) : Int)] 5) = X18 at c17 ⊢
          refine wpAnyH_all (rs := [4]) (by kernel_rfl) (by simp) ?_
          intro i hi
          simp only [List.mem_cons, List.not_mem_nil, or_false] at hi
          subst hi
          refine op_ent (i := 4) rfl rfl (x_call2 _ _ _ _ _ _ _ _ _ _ _ _ _ rfl rfl rfl (enters_of Tryz.func78 (by kernel_rfl) rfl) _) ((textRuns_any s _ _ base _ _ (c17).aw.own (by simp; omega) hG (c17).aw.base (c17).tab).mono ?_)
          rintro e W21 ⟨v20, rfl, ha22⟩
          have c19 := (c17).more ha22
          refine ⟨_, rfl, (c19).box, ?_⟩
          simp only [Act.put, List.setIfInBounds_toArray, List.set_cons_succ, List.set_cons_zero]
          refine wpAnyH_all (rs := [6]) (by kernel_rfl) (by simp) ?_
          intro i hi
          simp only [List.mem_cons, List.not_mem_nil, or_false] at hi
          subst hi
          obtain ⟨v24, W25, hr26, c23⟩ := (c19).app 93 (W5.heap.size) (by simp) (by have := HLEN.out; simp; omega)
          refine op_wp (i := 6) rfl rfl (wp_append_known _ _ _ rfl _ _ _ rfl rfl hr26 ⟨(c23).box, ?_⟩)
          simp only [Act.put, List.setIfInBounds_toArray, List.set_cons_succ, List.set_cons_zero]
          refine wpAnyH_all (rs := [7]) (by kernel_rfl) (by simp) ?_
          intro i hi
          simp only [List.mem_cons, List.not_mem_nil, or_false] at hi
          subst hi
          refine op_val (i := 7) rfl rfl (x_assign _ _ _ _ _ _ _ _ rfl _) ⟨(c23).box, ?_⟩
          simp only [Act.put, List.setIfInBounds_toArray, List.set_cons_succ, List.set_cons_zero]
          refine wpAnyH_done (by kernel_rfl) ?_ _
          refine NoPanic.normal ?_
          have HZ := hide c23.aw
          obtain ⟨az, cz, hvz⟩ := c23.aw.slice
          clear c23
          subst hvz
          go_wp2
          go_ret
          exact ⟨_, rfl, by rw [HE.out]; exact HZ.out⟩
      · refine op_val (i := 5) rfl rfl (x_buildC _ _ _ _ _ _ 93 rfl _) ⟨(c1).box.alloc _, ?_⟩
        simp only [Act.put, List.setIfInBounds_toArray, List.set_cons_succ, List.set_cons_zero]
        have c27 := (c1).lay 93
        generalize X2.alloc (.cells #[.int .u8 ((93 : Nat) : Int)] 5) = X28 at c27 ⊢
        refine wpAnyH_all (rs := [2]) (by kernel_rfl) (by simp) ?_
        intro i hi
        simp only [List.mem_cons, List.not_mem_nil, or_false] at hi
        subst hi
        obtain ⟨v30, W31, hr32, c29⟩ := (c27).app 91 (W0.heap.size) (by simp) (by simp; omega)
        refine op_wp (i := 2) rfl rfl (wp_append_known _ _ _ rfl _ _ _ rfl rfl hr32 ⟨(c29).box, ?_⟩)
        simp only [Act.put, List.setIfInBounds_toArray, List.set_cons_succ, List.set_cons_zero]
        refine wpAnyH_all (rs := [4]) (by kernel_rfl) (by simp) ?_
        intro i hi
        simp only [List.mem_cons, List.not_mem_nil, or_false] at hi
        subst hi
        refine op_ent (i := 4) rfl rfl (x_call2 _ _ _ _ _ _ _ _ _ _ _ _ _ rfl rfl rfl (enters_of Tryz.func78 (by kernel_rfl) rfl) _) ((textRuns_any s _ _ base _ _ (c29).aw.own (by simp; omega) hG (c29).aw.base (c29).tab).mono ?_)
        rintro e W35 ⟨v34, rfl, ha36⟩
        have c33 := (c29).more ha36
        refine ⟨_, rfl, (c33).box, ?_⟩
        simp only [Act.put, List.setIfInBounds_toArray, List.set_cons_succ, List.set_cons_zero]
        refine wpAnyH_all (rs := [6]) (by kernel_rfl) (by simp) ?_
        intro i hi
        simp only [List.mem_cons, List.not_mem_nil, or_false] at hi
        subst hi
        obtain ⟨v38, W39, hr40, c37⟩ := (c33).app 93 (X2.heap.size) (by simp) (by have := HLEN.out; simp; omega)
        refine op_wp (i := 6) rfl rfl (wp_append_known _ _ _ rfl _ _ _ rfl rfl hr40 ⟨(c37).box, ?_⟩)
        simp only [Act.put, List.setIfInBounds_toArray, List.set_cons_succ, List.set_cons_zero]
        refine wpAnyH_all (rs := [7]) (by kernel_rfl) (by simp) ?_
        intro i hi
        simp only [List.mem_cons, List.not_mem_nil, or_false] at hi
        subst hi
        refine op_val (i := 7) rfl rfl (x_assign _ _ _ _ _ _ _ _ rfl _) ⟨(c37).box, ?_⟩
        simp only [Act.put, List.setIfInBounds_toArray, List.set_cons_succ, List.set_cons_zero]
        refine wpAnyH_done (by kernel_rfl) ?_ _
        refine NoPanic.normal ?_
        have HZ := hide c37.aw
        obtain ⟨az, cz, hvz⟩ := c37.aw.slice
        clear c37
        subst hvz
        go_wp2
        go_ret
        exact ⟨_, rfl, by rw [HE.out]; exact HZ.out⟩
    · refine op_val (i := 5) rfl rfl (x_buildC _ _ _ _ _ _ 93 rfl _) ⟨(c0).box.alloc _, ?_⟩
      simp only [Act.put, List.setIfInBounds_toArray, List.set_cons_succ, List.set_cons_zero]
      have c41 := (c0).lay 93
      generalize W0.alloc (.cells #[.int .u8 ((93 : Nat) : Int)] 5) = X42 at c41 ⊢
      refine wpAnyH_all (rs := [1]) (by kernel_rfl) (by simp) ?_
      intro i hi
      simp only [List.mem_cons, List.not_mem_nil, or_false] at hi
      subst hi
      refine op_val (i := 1) rfl rfl (x_buildC _ _ _ _ _ _ 91 rfl _) ⟨(c41).box.alloc _, ?_⟩
      simp only [Act.put, List.setIfInBounds_toArray, List.set_cons_succ, List.set_cons_zero]
      have c43 := (c41).lay 91
      generalize X42.alloc (.cells #[.int .u8 ((91 : Nat) : Int)] 5) = X44 at c43 ⊢
      refine wpAnyH_all (rs := [2]) (by kernel_rfl) (by simp) ?_
      intro i hi
      simp only [List.mem_cons, List.not_mem_nil, or_false] at hi
      subst hi
      obtain ⟨v46, W47, hr48, c45⟩ := (c43).app 91 (X42.heap.size) (by simp) (by simp; omega)
      refine op_wp (i := 2) rfl rfl (wp_append_known _ _ _ rfl _ _ _ rfl rfl hr48 ⟨(c45).box, ?_⟩)
      simp only [Act.put, List.setIfInBounds_toArray, List.set_cons_succ, List.set_cons_zero]
      refine wpAnyH_all (rs := [4]) (by kernel_rfl) (by simp) ?_
      intro i hi
      simp only [List.mem_cons, List.not_mem_nil, or_false] at hi
      subst hi
      refine op_ent (i := 4) rfl rfl (x_call2 _ _ _ _ _ _ _ _ _ _ _ _ _ rfl rfl rfl (enters_of Tryz.func78 (by kernel_rfl) rfl) _) ((textRuns_any s _ _ base _ _ (c45).aw.own (by simp; omega) hG (c45).aw.base (c45).tab).mono ?_)
      rintro e W51 ⟨v50, rfl, ha52⟩
      have c49 := (c45).more ha52
      refine ⟨_, rfl, (c49).box, ?_⟩
      simp only [Act.put, List.setIfInBounds_toArray, List.set_cons_succ, List.set_cons_zero]
      refine wpAnyH_all (rs := [6]) (by kernel_rfl) (by simp) ?_
      intro i hi
      simp only [List.mem_cons, List.not_mem_nil, or_false] at hi
      subst hi
      obtain ⟨v54, W55, hr56, c53⟩ := (c49).app 93 (W0.heap.size) (by simp) (by have := HLEN.out; simp; omega)
      refine op_wp (i := 6) rfl rfl (wp_append_known _ _ _ rfl _ _ _ rfl rfl hr56 ⟨(c53).box, ?_⟩)
      simp only [Act.put, List.setIfInBounds_toArray, List.set_cons_succ, List.set_cons_zero]
      refine wpAnyH_all (rs := [7]) (by kernel_rfl) (by simp) ?_
      intro i hi
      simp only [List.mem_cons, List.not_mem_nil, or_false] at hi
      subst hi
      refine op_val (i := 7) rfl rfl (x_assign _ _ _ _ _ _ _ _ rfl _) ⟨(c53).box, ?_⟩
      simp only [Act.put, List.setIfInBounds_toArray, List.set_cons_succ, List.set_cons_zero]
      refine wpAnyH_done (by kernel_rfl) ?_ _
      refine NoPanic.normal ?_
      have HZ := hide c53.aw
      obtain ⟨az, cz, hvz⟩ := c53.aw.slice
      clear c53
      subst hvz
      go_wp2
      go_ret
      exact ⟨_, rfl, by rw [HE.out]; exact HZ.out⟩
end Go.Proofs.YtjlgepahgmkamaaGreatDoor
/- appendKids, appendRe; Of and Byte: an expression, a byte as text. -/
namespace Go.Proofs.YtjlgepahgmkamaaGreatDoor
set_option maxRecDepth 100000
set_option linter.unusedSimpArgs false
set_option linter.unusedVariables false
open Go.RowKit Go.Shelf

def sepB (o : Nat) : List Nat := if o = 4 then [124] else if o = 6 then [38] else if o = 7 then [45] else []
def kidT (o i k : Nat) (t : List Nat) : List Nat := (if 0 < i then sepB o else []) ++ (if holdN k < needN o i then [40] ++ t ++ [41] else t)
def kidsT (o : Nat) : Nat → List (Nat × List Nat) → List Nat
  | _, [] => []
  | i, x :: r => kidT o i x.1 x.2 ++ kidsT o (i + 1) r
def opT (o : Nat) (s : BitVec 256) (ks : List (Nat × List Nat)) : List Nat :=
  if o = 1 then [40, 41] else if o = 2 then classW s else if o = 3 ∨ o = 4 ∨ o = 6 ∨ o = 7 then kidsT o 0 ks else if o = 5 then kidsT o 0 ks ++ [42] else [91, 93]
/-- An expression as it is written. -/
def RE.txt : RE → List Nat
  | .mk o s ks => opT o s (ks.map fun k => (k.op, k.txt))
def kidL (ks : List RE) : List (Nat × List Nat) := ks.map fun k => (k.op, k.txt)
theorem RE.txt_mk (o : Nat) (s : BitVec 256) (ks : List RE) : (RE.mk o s ks).txt = opT o s (kidL ks) := by rw [RE.txt]; rfl
theorem kidsT_append (o : Nat) (a b : List (Nat × List Nat)) (i : Nat) : kidsT o i (a ++ b) = kidsT o i a ++ kidsT o (i + a.length) b := by
  induction a generalizing i with
  | nil => simp [kidsT]
  | cons x a ih =>
    rw [List.cons_append]
    simp only [kidsT]
    rw [ih, List.append_assoc, List.length_cons, show i + 1 + a.length = i + (a.length + 1) from by omega]
theorem kidsT_take (o : Nat) (ks : List RE) (k : Nat) (h : k < ks.length) : kidsT o 0 (kidL (ks.take (k + 1))) = kidsT o 0 (kidL (ks.take k)) ++ kidT o k (ks[k]).op (ks[k]).txt := by
  unfold kidL
  rw [List.take_succ_eq_append_getElem h, List.map_append, kidsT_append]
  congr 1
  simp [kidsT, List.length_take, Nat.min_eq_left (Nat.le_of_lt h)]
theorem kidsT_le (o : Nat) (ks : List RE) (k : Nat) : (kidsT o 0 (kidL (ks.take k))).length ≤ (kidsT o 0 (kidL ks)).length := by
  have : kidL ks = kidL (ks.take k) ++ kidL (ks.drop k) := by unfold kidL; rw [← List.map_append, List.take_append_drop]
  rw [this, kidsT_append, List.length_append]; omega

theorem run_appendE (w : World) (ty : TypeId) (base : Nat) (v : Value) (n : Nat) (xs : List Value) (hown : OwnU w base v n xs) : (Builtin.append_ #[71, 9] ty #[v, .string ⟨#[]⟩]).run Tryz.prog w = .ok v w := by
  obtain ⟨i, hi, hz0, hz1, hz2⟩ := info_parts infoU8
  have hf := Lib.run_firstCells_string (P := Tryz.prog) w i.size ⟨#[]⟩
  have e : (⟨#[]⟩ : ByteArray).size = 0 := rfl
  rw [e] at hf
  rcases hown.2 with ⟨rfl, rfl⟩ | ⟨g, cap, cur, t, rfl, hbg, hg, hnc, hcm, hcs, htake⟩
  · simp [Builtin.append_, run_underlying Tryz.underlying71, run_underlying Tryz.underlying9, sizeOf, typeInfo, hi, Builtin.lenOf, e, hf]
  · simp [Builtin.append_, run_underlying Tryz.underlying71, run_underlying Tryz.underlying9, sizeOf, typeInfo, hi, Builtin.lenOf, e, hf, hnc, Lib.strCells, storeCells]
theorem AW.appT {w W : World} {base n : Nat} {v V : Value} {xs : List Value} {l : List Nat} (h : AW w base v n xs l V W) (ty : TypeId) (s : ByteArray) (m : List Nat) (hm : bytesN s = m) (hl : n + l.length + m.length ≤ 140737488355328) :
    ∃ V' W', (Builtin.append_ #[71, 9] ty #[V, .string s]).run Tryz.prog W = .ok V' W' ∧ AW w base v n xs (l ++ m) V' W' := by
  by_cases h0 : m = []
  · subst h0
    have hs : s = ⟨#[]⟩ := by
      cases s with
      | mk d =>
        have : d.toList = [] := by unfold bytesN at hm; simpa using hm
        have : d = #[] := by simpa using this
        rw [this]
    rw [hs, List.append_nil]
    exact ⟨V, W, run_appendE W ty base V _ _ h.own, h⟩
  · exact h.appS ty s m hm (by cases m with | nil => exact absurd rfl h0 | cons => simp) hl
theorem x_lssB2 (ρ : Operand → Value) (d : Option Tmp) (x y : Operand) (t : TypeId) (pos : String) (af : Array Edge) (g : Option (Nat × Bool)) (u v : Nat) (c : Bool) (h : decide (u < v) = c) (hx : ρ x = .int .i64 u) (hy : ρ y = .int .i64 v) (w : World) :
    (execOp ρ { dst := d, op := .binOp .lss 3 x y 3, type := t, pos := pos, after := af, guard := g }).run Tryz.prog w = .ok (.value (.bool c)) w := by
  rw [← h]; simp [go_sem, hx, hy]
/-- What was written since (w, v), in whatever order the calls drew. -/
structure AV (w : World) (base : Nat) (v : Value) (n : Nat) (xs : List Value) (l : List Nat) (V : Value) (W : World) : Prop where
  own : OwnU W base V (n + l.length) (xs ++ byteV l)
  grown : w.grownBy W v.ownBlock
  rel : V.ownBlock = v.ownBlock ∨ ∃ g, V.ownBlock = some g ∧ w.heap.size ≤ g
  base : base ≤ W.heap.size
theorem AW.toAV {w W : World} {base n : Nat} {v V : Value} {xs : List Value} {l : List Nat} (h : AW w base v n xs l V W) : AV w base v n xs l V W := ⟨h.own, h.gb.grown, h.gb.own, h.base⟩
theorem AV.start {w : World} {base n : Nat} {v : Value} {xs : List Value} (h : OwnU w base v n xs) (hb : base ≤ w.heap.size) : AV w base v n xs [] v w := (AW.start h hb).toAV
theorem AV.slice {w W : World} {base n : Nat} {v V : Value} {xs : List Value} {l : List Nat} (h : AV w base v n xs l V W) : ∃ a c, V = .slice a (n + l.length) c := h.own.slice
theorem AV.more {w W W' : World} {base n : Nat} {v V V' : Value} {xs : List Value} {l m : List Nat} (h : AV w base v n xs l V W) (k : AV W base V (n + l.length) (xs ++ byteV l) m V' W') : AV w base v n xs (l ++ m) V' W' := by
  refine ⟨?_, ⟨k.grown.os.trans h.grown.os, k.grown.tape.trans h.grown.tape, k.grown.output.trans h.grown.output, Nat.le_trans h.grown.size k.grown.size, fun i hi hn => ?_⟩, ?_, k.base⟩
  · have := k.own
    rw [byteV_append, List.length_append, ← List.append_assoc, ← Nat.add_assoc]
    exact this
  · have hs := h.grown.size
    rw [k.grown.block i (by omega) ?_, h.grown.block i hi hn]
    intro e
    rcases h.rel with h1 | ⟨g, h1, h2⟩
    · exact hn (e.trans h1)
    · rw [h1] at e; injection e; omega
  · have hs := h.grown.size
    rcases k.rel with h1 | ⟨g, h1, h2⟩
    · rcases h.rel with h3 | ⟨g, h3, h4⟩
      · exact .inl (h1.trans h3)
      · exact .inr ⟨g, h1.trans h3, h4⟩
    · exact .inr ⟨g, h1, by omega⟩
theorem AV.step {w W W' : World} {base n : Nat} {v V : Value} {xs : List Value} {l : List Nat} (h : AV w base v n xs l V W) (hb : Below W.heap.size W W') : AV w base v n xs l V W' := by
  have := h.more (m := []) ⟨by rw [List.length_nil, Nat.add_zero, show byteV [] = [] from rfl, List.append_nil]; exact h.own.keep fun g hg => hb.block g (h.own.own_lt hg).2, ⟨hb.os, hb.tape, hb.output, hb.size, fun k hk _ => hb.block k hk⟩, .inl rfl, Nat.le_trans h.base hb.size⟩
  rw [List.append_nil] at this; exact this
theorem AV.here {w W : World} {base n : Nat} {v V : Value} {xs : List Value} {l : List Nat} (h : AV w base v n xs l V W) : AW W base V (n + l.length) (xs ++ byteV l) [] V W := AW.start h.own h.base
/-- One byte that lies behind the world. -/
theorem AV.app1 {w W : World} {base n : Nat} {v V : Value} {xs : List Value} {l : List Nat} (h : AV w base v n xs l V W) (c : Nat) (hl : n + l.length + 1 ≤ 140737488355328) :
    ∃ V' W', (Builtin.append_ #[71, 71] 71 #[V, .slice (some ⟨W.heap.size, 0, none⟩) 1 1]).run Tryz.prog (W.alloc (.cells #[.int .u8 c] 5)) = .ok V' W' ∧ AV w base v n xs (l ++ [c]) V' W' := by
  have hb := (Below.refl W.heap.size W).alloc (Nat.le_refl _) (.cells #[.int .u8 c] 5)
  have h2 := h.step hb
  obtain ⟨V', W', hr, hA⟩ := h2.here.app 71 W.heap.size #[] [c] (Blk.newAt rfl _ _) (by simp) (by simp; omega)
  exact ⟨V', W', hr, h2.more hA.toAV⟩
theorem AV.appT {w W : World} {base n : Nat} {v V : Value} {xs : List Value} {l : List Nat} (h : AV w base v n xs l V W) (s : ByteArray) (m : List Nat) (hm : bytesN s = m) (hl : n + l.length + m.length ≤ 140737488355328) :
    ∃ V' W', (Builtin.append_ #[71, 9] 71 #[V, .string s]).run Tryz.prog W = .ok V' W' ∧ AV w base v n xs (l ++ m) V' W' := by
  obtain ⟨V', W', hr, hA⟩ := h.here.appT 71 s m hm (by simp; omega)
  exact ⟨V', W', hr, h.more hA.toAV⟩
theorem AV.below {w0 w W : World} {n : Nat} {v V : Value} {xs : List Value} {l : List Nat} (h : AV w w0.heap.size v n xs l V W) (hb : Below w0.heap.size w0 w) (ho : OwnU w w0.heap.size v n xs) : Below w0.heap.size w0 W := OwnU.below_grown hb h.grown ho (Nat.le_refl _)

/-- Ops are eight. -/
inductive RE.kidsOk : RE → Prop where
  | mk (o : Nat) (s : BitVec 256) (ks : List RE) (ho : o ≤ 7) (hk : ∀ k ∈ ks, k.kidsOk) : RE.kidsOk (.mk o s ks)
theorem RE.kidsOk.op {o : Nat} {s : BitVec 256} {ks : List RE} (h : (RE.mk o s ks).kidsOk) : o ≤ 7 := by cases h; assumption
theorem RE.kidsOk.kid {o : Nat} {s : BitVec 256} {ks : List RE} (h : (RE.mk o s ks).kidsOk) : ∀ k ∈ ks, k.kidsOk := by cases h; assumption
theorem Wf.kidsOk {r : RE} (h : Wf r) : r.kidsOk := by
  induction h with
  | mk o s ks hk h ih => exact .mk o s ks h.op ih
/-- What is read of an expression in any later world. -/
theorem see0 {w : World} {b o : Nat} {s : BitVec 256} {ks : List RE} (h : ReAt w b (.mk o s ks)) : ∃ a c, ResRow w (.slice a ks.length c) ks ∧ Hid (∀ W, Below w.heap.size w W → W.cell? ⟨b, 0, none⟩ = some (.int .i64 o) ∧ W.cell? ⟨b, 5, none⟩ = some (.slice a ks.length c)) := by
  obtain ⟨v, k1, row⟩ := h.row
  simp only [RE.op, RE.set, RE.kids] at k1 row
  obtain ⟨n1, a, c, rfl, -⟩ := row.at
  exact ⟨a, c, row, fun W hW => ⟨(h.keep hW).cell0, by rw [(k1.below hW k1.lt).cell]; rfl⟩⟩
theorem row_at {w W : World} {g f c k p : Nat} {ks : List RE} (h : ResRow w (.slice (some ⟨g, f, none⟩) ks.length c) ks) (hb : Below w.heap.size w W) (hk : k < ks.length) (hc : W.cell? ⟨g, f + k, none⟩ = some (PT p)) : ReAt w p ks[k] := by
  obtain ⟨-, a', c', e, q⟩ := h.at
  obtain ⟨g', f', p', e2, hlt, hc', hr⟩ := q k hk
  cases e
  cases e2
  have := (World.cell?_of_block (a := ⟨g, f + k, none⟩) (hb.block g hlt)).trans hc'
  rw [hc] at this
  have : p = p' := by simpa [PT] using this
  subst this
  exact hr

/-- What writing an expression does. -/
abbrev WrAt (r : RE) : Prop := ∀ (b : Nat) (v : Value) (n : Nat) (xs : List Value) (w0 w : World), ReAt w0 b r → Below w0.heap.size w0 w → OwnU w w0.heap.size v n xs → n + r.txt.length ≤ 800000000000 → TabAt w0 →
  Calls Tryz.prog 35 #[v, PT b] w fun e w' => ∃ V, e = .returned V ∧ AV w w0.heap.size v n xs r.txt V w'

set_option maxHeartbeats 4000000 in
theorem appendKids_any (o : Nat) (s : BitVec 256) (ks : List RE) (t : ByteArray) (ht : bytesN t = sepB o) (ih : ∀ k ∈ ks, WrAt k) (b : Nat) (v : Value) (n : Nat) (xs : List Value) (w0 w : World) (hR : ReAt w0 b (.mk o s ks)) (hW : Below w0.heap.size w0 w) (hO : OwnU w w0.heap.size v n xs)
    (hl : n + (kidsT o 0 (kidL ks)).length ≤ 800000000000) (hT : TabAt w0) :
    Calls Tryz.prog 60 #[v, PT b, .string t] w fun e w' => ∃ V, e = .returned V ∧ AV w w0.heap.size v n xs (kidsT o 0 (kidL ks)) V w' := by
  obtain ⟨a0, cp0, rfl⟩ := hO.slice
  obtain ⟨a, c, row, HX⟩ := see0 hR
  have x5 := (HX.out w hW).2
  have HROW := hide row
  have HIH := hide ih
  have HT := hide hT
  have HW := hide hW
  have HO := hide hO
  have HTT := hide ht
  obtain ⟨hn, -⟩ := row.at
  clear row hR ih hT hW hO ht
  unfold PT
  go_enter Tryz.func60, Tryz.ntmps60
  go_wp2
  go_loopw [0, 14] (fun q i wr => ∃ k : Nat, k ≤ ks.length ∧ i = .int .i64 k ∧ Hid (AV w w0.heap.size (.slice a0 n cp0) n xs (kidsT o 0 (kidL (ks.take k))) q wr)) (fun _ i _ => ks.length - (intOf i).toNat)
  case atStart => exact ⟨0, by omega, rfl, AV.start HO.out HW.out.size⟩
  case round =>
    clear x5
    obtain ⟨k, hk1, rfl, HA⟩ := hrel
    have hBr : Below w0.heap.size w0 wr := HA.out.below HW.out HO.out
    have HBR := hide hBr
    obtain ⟨aq, cq, hq⟩ := HA.out.slice
    obtain ⟨M, hM⟩ : ∃ M, M = n + (kidsT o 0 (kidL (ks.take k))).length := ⟨_, rfl⟩
    rw [← hM] at hq
    subst hq
    obtain ⟨-, a', cap', e1, g1⟩ := (HROW.out.below hBr).at
    obtain ⟨rfl, rfl⟩ : a = a' ∧ c = cap' := by cases e1; exact ⟨rfl, rfl⟩
    clear e1 hBr
    by_cases hlt : k < ks.length
    · have hkd : decide (k < ks.length) = true := by simp [hlt]
      obtain ⟨g, f, p, rfl, -, hc0, -⟩ := g1 k hlt
      have hr0 := row_at HROW.out HBR.out hlt hc0
      have HTK := hide (kidsT_take o ks k hlt)
      have HLE := hide (kidsT_le o ks (k + 1))
      have HIK := hide (HIH.out _ (List.getElem_mem hlt))
      generalize ks[k] = kk at *
      have HR0 := hide hr0
      obtain ⟨ko, hko⟩ : ∃ ko, ko = kk.op := ⟨_, rfl⟩
      obtain ⟨hk, hhk⟩ : ∃ hk, hk = holdN ko := ⟨_, rfl⟩
      obtain ⟨nd, hnd⟩ : ∃ nd, nd = needN o k := ⟨_, rfl⟩
      obtain ⟨T, hT⟩ : ∃ T, T = kidsT o 0 (kidL (ks.take k)) := ⟨_, rfl⟩
      rw [← hT] at HA HTK hM
      obtain ⟨sp, hsp⟩ : ∃ sp, sp = if 0 < k then sepB o else [] := ⟨_, rfl⟩
      obtain ⟨U, hU⟩ : ∃ U, U = if hk < nd then [40] ++ kk.txt ++ [41] else kk.txt := ⟨_, rfl⟩
      have HTK : Hid (kidsT o 0 (kidL (ks.take (k + 1))) = T ++ (sp ++ U)) := by
        show _ = _
        rw [HTK.out, hsp, hU, hhk, hnd, hko]; rfl
      have hTL : n + T.length + (sp.length + U.length) ≤ 800000000000 := by
        have h1 := HLE.out
        rw [HTK.out, List.length_append, List.length_append] at h1
        omega
      have HKO := hide hko
      have HHK := hide hhk
      have HND := hide hnd
      have HSP := hide hsp
      have HU := hide hU
      have HM := hide hM
      unfold PT at hc0
      clear g1 hr0 hT hko hhk hnd HLE hsp hU hM
      have hko5 : hk ≤ 5 := by rw [HHK.out]; exact holdN_le ko
      have hnd6 : nd ≤ 6 := by rw [HND.out]; unfold needN; have := holdN_le o; split <;> omega
      by_cases hk0 : 0 < k
      · have hd0 : decide ((0 : Int) < k) = true := by simp; omega
        have hd1 : decide (0 < k) = true := by simp [hk0]
        obtain ⟨V1, W1, hr1, hA1⟩ := HA.out.appT t sp (by rw [HTT.out, HSP.out, if_pos hk0]) (by omega)
        obtain ⟨a1, c1, hv1⟩ := hA1.slice
        obtain ⟨M1, hM1⟩ : ∃ M1, M1 = n + (T ++ sp).length := ⟨_, rfl⟩
        rw [← hM1] at hv1
        subst hv1
        have HA1 := hide hA1
        have HM1 := hide hM1
        clear hA1 hk0 hM1
        go_wp2_with (refine wpList_appendS_run rfl _ _ _ _ rfl _ _ _ rfl rfl hr1 ?_)
        clear hr1
        have hB1 : Below w0.heap.size w0 W1 := HA1.out.below HW.out HO.out
        have HB1 := hide hB1
        clear hB1
        obtain ⟨C, hC⟩ : ∃ C : World → Prop, C = fun W => Below W1.heap.size W1 W := ⟨_, rfl⟩
        have HG : Hid (Grows C) := by rw [hC]; exact fun W W' h1 h2 => h1.trans (h2.mono h1.size)
        have HCD : Hid (C { W1 with drawn := W1.drawn + 1 }) := by rw [hC]; exact ⟨rfl, rfl, rfl, Nat.le_refl _, fun _ _ => rfl⟩
        have HCB : Hid (∀ W, C W → Below W1.heap.size W1 W) := by rw [hC]; exact fun W h => h
        have HC0 : Hid (∀ W, C W → Below w0.heap.size w0 W) := fun W hW => HB1.out.trans ((HCB.out W hW).mono HB1.out.size)
        clear hC
        have hG := HG.out
        have hco : ∀ W, C W → W.cell? ⟨b, 0, none⟩ = some (.int .i64 o) := fun W hW => (HX.out W (HC0.out W hW)).1
        have hqo : ∀ W, C W → Calls Tryz.prog 58 #[PT p] W fun e w' => e = .returned (.int .i64 ko) ∧ Below W.heap.size W w' := fun W hW => by
          rw [HKO.out]; exact (opOf_any p kk W (HR0.out.keep (HC0.out W hW))).mono fun e w' ⟨h1, h2⟩ => ⟨h1, h2 ▸ Below.refl _ _⟩
        have hqh : ∀ W, C W → Calls Tryz.prog 79 #[.int .i64 ko] W fun e w' => e = .returned (.int .i64 hk) ∧ Below W.heap.size W w' := fun W hW => by
          rw [HHK.out]; exact (hold_any ko W).mono fun e w' ⟨h1, h2⟩ => ⟨h1, h2 ▸ Below.refl _ _⟩
        have hqn : ∀ W, C W → Calls Tryz.prog 80 #[.int .i64 o, .int .i64 k] W fun e w' => e = .returned (.int .i64 nd) ∧ Below W.heap.size W w' := fun W hW => by
          rw [HND.out]; exact (need_any o k W).mono fun e w' ⟨h1, h2⟩ => ⟨h1, h2 ▸ Below.refl _ _⟩
        by_cases hhn : hk < nd
        · have hlt : decide (hk < nd) = true := by simp [hhn]
          refine w_lit (C := C) (by kernel_rfl) (by kernel_rfl) HCD.out ?_
          refine w_value (PT p) (by kernel_rfl) (fun w hw => x_move _ _ _ _ _ _ _ _ rfl w) ?_
          simp only [Act.put, List.setIfInBounds_toArray, List.set_cons_succ, List.set_cons_zero]
          refine w_call hG 58 #[PT p] (.int .i64 ko) (by kernel_rfl) (fun w => x_call1 _ _ _ _ _ _ _ _ _ _ rfl rfl (enters_of Tryz.func58 (by kernel_rfl) rfl) w) (fun w hw => hqo w hw) ?_
          simp only [Act.put, List.setIfInBounds_toArray, List.set_cons_succ, List.set_cons_zero]
          refine w_call hG 79 #[.int .i64 ko] (.int .i64 hk) (by kernel_rfl) (fun w => x_call1 _ _ _ _ _ _ _ _ _ _ rfl rfl (enters_of Tryz.func79 (by kernel_rfl) rfl) w) (fun w hw => hqh w hw) ?_
          simp only [Act.put, List.setIfInBounds_toArray, List.set_cons_succ, List.set_cons_zero]
          refine w_value (PT b) (by kernel_rfl) (fun w hw => x_move _ _ _ _ _ _ _ _ rfl w) ?_
          simp only [Act.put, List.setIfInBounds_toArray, List.set_cons_succ, List.set_cons_zero]
          refine w_value (PT b) (by kernel_rfl) (fun w hw => x_nilCheck _ _ _ _ _ _ _ _ rfl w) ?_
          simp only [Act.put, List.setIfInBounds_toArray, List.set_cons_succ, List.set_cons_zero]
          refine w_value (PT b) (by kernel_rfl) (fun w hw => x_field0 _ _ _ _ _ _ _ _ rfl w) ?_
          simp only [Act.put, List.setIfInBounds_toArray, List.set_cons_succ, List.set_cons_zero]
          refine w_value (.int .i64 o) (by kernel_rfl) (fun w hw => x_loadOp _ _ _ _ _ _ _ _ o rfl w (hco w hw)) ?_
          simp only [Act.put, List.setIfInBounds_toArray, List.set_cons_succ, List.set_cons_zero]
          refine w_value (.int .i64 k) (by kernel_rfl) (fun w hw => x_move _ _ _ _ _ _ _ _ rfl w) ?_
          simp only [Act.put, List.setIfInBounds_toArray, List.set_cons_succ, List.set_cons_zero]
          refine w_call hG 80 #[.int .i64 o, .int .i64 k] (.int .i64 nd) (by kernel_rfl) (fun w => x_call2 _ _ _ _ _ _ _ _ _ _ _ _ _ rfl rfl rfl (enters_of Tryz.func80 (by kernel_rfl) rfl) w) (fun w hw => hqn w hw) ?_
          simp only [Act.put, List.setIfInBounds_toArray, List.set_cons_succ, List.set_cons_zero]
          refine w_value (.bool true) (by kernel_rfl) (fun w hw => x_lssB2 _ _ _ _ _ _ _ _ hk nd true hlt rfl rfl w) ?_
          simp only [Act.put, List.setIfInBounds_toArray, List.set_cons_succ, List.set_cons_zero]
          refine w_nil ?_
          intro W hW
          have HA2 := hide (HA1.out.step (HCB.out W hW))
          have HU2 : Hid (U = [40] ++ kk.txt ++ [41]) := by show _ = _; rw [HU.out, if_pos hhn]
          have hul : U.length = kk.txt.length + 2 := by rw [HU2.out]; simp
          clear hW hG hco hqo hqh hqn hhn
          obtain ⟨V3, W3, hr3, hA3⟩ := HA2.out.app1 40 (by simp; omega)
          obtain ⟨a3, c3, hv3⟩ := hA3.slice
          obtain ⟨M3, hM3⟩ : ∃ M3, M3 = n + (T ++ sp ++ [40]).length := ⟨_, rfl⟩
          rw [← hM3] at hv3
          subst hv3
          have hrec := HIK.out p (.slice a3 M3 c3) _ _ w0 W3 HR0.out (hA3.below HW.out HO.out) hA3.own (by simp; omega) HT.out
          have HREC := hide hrec
          have HA3 := hide hA3
          clear hrec hA3 hM3
          unfold PT at HREC ⊢
          go_wp2_with (refine wpList_append_run rfl _ _ _ rfl _ _ _ rfl rfl hr3 ?_)
          refine HREC.out.mono ?_
          rintro e w4 ⟨V4, rfl, hA4⟩
          have hA5 := HA3.out.more hA4
          obtain ⟨V6, W6, hr6, hA6⟩ := hA5.app1 41 (by simp; omega)
          obtain ⟨a4, c4, hv4⟩ := hA5.slice
          obtain ⟨M4, hM4⟩ : ∃ M4, M4 = n + (T ++ sp ++ [40] ++ kk.txt).length := ⟨_, rfl⟩
          rw [← hM4] at hv4
          subst hv4
          have HA6 := hide hA6
          clear hA4 hA5 hA6 HREC hr3 hM4
          go_wp2_with (refine wpList_append_run rfl _ _ _ rfl _ _ _ rfl rfl hr6 ?_)
          refine ⟨⟨k + 1, by omega, by go_num, ?_⟩, by simp [intOf]; omega⟩
          show AV _ _ _ _ _ _ _ _
          rw [HTK.out, HU2.out]
          have h6 := HA6.out
          simp only [List.append_assoc] at h6 ⊢
          exact h6
        · have hlt : decide (hk < nd) = false := by simp; omega
          refine w_lit (C := C) (by kernel_rfl) (by kernel_rfl) HCD.out ?_
          refine w_value (PT p) (by kernel_rfl) (fun w hw => x_move _ _ _ _ _ _ _ _ rfl w) ?_
          simp only [Act.put, List.setIfInBounds_toArray, List.set_cons_succ, List.set_cons_zero]
          refine w_call hG 58 #[PT p] (.int .i64 ko) (by kernel_rfl) (fun w => x_call1 _ _ _ _ _ _ _ _ _ _ rfl rfl (enters_of Tryz.func58 (by kernel_rfl) rfl) w) (fun w hw => hqo w hw) ?_
          simp only [Act.put, List.setIfInBounds_toArray, List.set_cons_succ, List.set_cons_zero]
          refine w_call hG 79 #[.int .i64 ko] (.int .i64 hk) (by kernel_rfl) (fun w => x_call1 _ _ _ _ _ _ _ _ _ _ rfl rfl (enters_of Tryz.func79 (by kernel_rfl) rfl) w) (fun w hw => hqh w hw) ?_
          simp only [Act.put, List.setIfInBounds_toArray, List.set_cons_succ, List.set_cons_zero]
          refine w_value (PT b) (by kernel_rfl) (fun w hw => x_move _ _ _ _ _ _ _ _ rfl w) ?_
          simp only [Act.put, List.setIfInBounds_toArray, List.set_cons_succ, List.set_cons_zero]
          refine w_value (PT b) (by kernel_rfl) (fun w hw => x_nilCheck _ _ _ _ _ _ _ _ rfl w) ?_
          simp only [Act.put, List.setIfInBounds_toArray, List.set_cons_succ, List.set_cons_zero]
          refine w_value (PT b) (by kernel_rfl) (fun w hw => x_field0 _ _ _ _ _ _ _ _ rfl w) ?_
          simp only [Act.put, List.setIfInBounds_toArray, List.set_cons_succ, List.set_cons_zero]
          refine w_value (.int .i64 o) (by kernel_rfl) (fun w hw => x_loadOp _ _ _ _ _ _ _ _ o rfl w (hco w hw)) ?_
          simp only [Act.put, List.setIfInBounds_toArray, List.set_cons_succ, List.set_cons_zero]
          refine w_value (.int .i64 k) (by kernel_rfl) (fun w hw => x_move _ _ _ _ _ _ _ _ rfl w) ?_
          simp only [Act.put, List.setIfInBounds_toArray, List.set_cons_succ, List.set_cons_zero]
          refine w_call hG 80 #[.int .i64 o, .int .i64 k] (.int .i64 nd) (by kernel_rfl) (fun w => x_call2 _ _ _ _ _ _ _ _ _ _ _ _ _ rfl rfl rfl (enters_of Tryz.func80 (by kernel_rfl) rfl) w) (fun w hw => hqn w hw) ?_
          simp only [Act.put, List.setIfInBounds_toArray, List.set_cons_succ, List.set_cons_zero]
          refine w_value (.bool false) (by kernel_rfl) (fun w hw => x_lssB2 _ _ _ _ _ _ _ _ hk nd false hlt rfl rfl w) ?_
          simp only [Act.put, List.setIfInBounds_toArray, List.set_cons_succ, List.set_cons_zero]
          refine w_nil ?_
          intro W hW
          have HA2 := hide (HA1.out.step (HCB.out W hW))
          have HU2 : Hid (U = kk.txt) := by show _ = _; rw [HU.out, if_neg hhn]
          have hul : U.length = kk.txt.length := by rw [HU2.out]
          clear hW hG hco hqo hqh hqn hhn
          have hrec := HIK.out p (.slice a1 M1 c1) _ _ w0 W HR0.out (HA2.out.below HW.out HO.out) HA2.out.own (by simp; omega) HT.out
          have HREC := hide hrec
          clear hrec
          unfold PT at HREC ⊢
          go_wp2_with fail
          refine HREC.out.mono ?_
          rintro e w4 ⟨V4, rfl, hA4⟩
          have HA5 := hide (HA2.out.more hA4)
          obtain ⟨a4, c4, hv4⟩ := hA4.slice
          obtain ⟨M5, hM5⟩ : ∃ M5, M5 = n + (T ++ sp).length + kk.txt.length := ⟨_, rfl⟩
          rw [← hM5] at hv4
          subst hv4
          clear hA4 HREC hM5
          go_wp2
          refine ⟨⟨k + 1, by omega, by go_num, ?_⟩, by simp [intOf]; omega⟩
          show AV _ _ _ _ _ _ _ _
          rw [HTK.out, HU2.out, ← List.append_assoc]
          exact HA5.out
      · have hd0 : decide ((0 : Int) < k) = false := by simp; omega
        have hd1 : decide (0 < k) = false := by simp; omega
        have HA1 : Hid (AV w w0.heap.size (.slice a0 n cp0) n xs (T ++ sp) (.slice aq M cq) wr) := by
          have : sp = [] := by rw [HSP.out, if_neg hk0]
          rw [this, List.append_nil]; exact HA.out
        clear hk0
        go_wp2
        have hB1 : Below w0.heap.size w0 wr := HA1.out.below HW.out HO.out
        have HB1 := hide hB1
        clear hB1
        obtain ⟨C, hC⟩ : ∃ C : World → Prop, C = fun W => Below wr.heap.size wr W := ⟨_, rfl⟩
        have HG : Hid (Grows C) := by rw [hC]; exact fun W W' h1 h2 => h1.trans (h2.mono h1.size)
        have HCD : Hid (C { wr with drawn := wr.drawn + 1 }) := by rw [hC]; exact ⟨rfl, rfl, rfl, Nat.le_refl _, fun _ _ => rfl⟩
        have HCB : Hid (∀ W, C W → Below wr.heap.size wr W) := by rw [hC]; exact fun W h => h
        have HC0 : Hid (∀ W, C W → Below w0.heap.size w0 W) := fun W hW => HB1.out.trans ((HCB.out W hW).mono HB1.out.size)
        clear hC
        have hG := HG.out
        have hco : ∀ W, C W → W.cell? ⟨b, 0, none⟩ = some (.int .i64 o) := fun W hW => (HX.out W (HC0.out W hW)).1
        have hqo : ∀ W, C W → Calls Tryz.prog 58 #[PT p] W fun e w' => e = .returned (.int .i64 ko) ∧ Below W.heap.size W w' := fun W hW => by
          rw [HKO.out]; exact (opOf_any p kk W (HR0.out.keep (HC0.out W hW))).mono fun e w' ⟨h1, h2⟩ => ⟨h1, h2 ▸ Below.refl _ _⟩
        have hqh : ∀ W, C W → Calls Tryz.prog 79 #[.int .i64 ko] W fun e w' => e = .returned (.int .i64 hk) ∧ Below W.heap.size W w' := fun W hW => by
          rw [HHK.out]; exact (hold_any ko W).mono fun e w' ⟨h1, h2⟩ => ⟨h1, h2 ▸ Below.refl _ _⟩
        have hqn : ∀ W, C W → Calls Tryz.prog 80 #[.int .i64 o, .int .i64 k] W fun e w' => e = .returned (.int .i64 nd) ∧ Below W.heap.size W w' := fun W hW => by
          rw [HND.out]; exact (need_any o k W).mono fun e w' ⟨h1, h2⟩ => ⟨h1, h2 ▸ Below.refl _ _⟩
        by_cases hhn : hk < nd
        · have hlt : decide (hk < nd) = true := by simp [hhn]
          refine w_lit (C := C) (by kernel_rfl) (by kernel_rfl) HCD.out ?_
          refine w_value (PT p) (by kernel_rfl) (fun w hw => x_move _ _ _ _ _ _ _ _ rfl w) ?_
          simp only [Act.put, List.setIfInBounds_toArray, List.set_cons_succ, List.set_cons_zero]
          refine w_call hG 58 #[PT p] (.int .i64 ko) (by kernel_rfl) (fun w => x_call1 _ _ _ _ _ _ _ _ _ _ rfl rfl (enters_of Tryz.func58 (by kernel_rfl) rfl) w) (fun w hw => hqo w hw) ?_
          simp only [Act.put, List.setIfInBounds_toArray, List.set_cons_succ, List.set_cons_zero]
          refine w_call hG 79 #[.int .i64 ko] (.int .i64 hk) (by kernel_rfl) (fun w => x_call1 _ _ _ _ _ _ _ _ _ _ rfl rfl (enters_of Tryz.func79 (by kernel_rfl) rfl) w) (fun w hw => hqh w hw) ?_
          simp only [Act.put, List.setIfInBounds_toArray, List.set_cons_succ, List.set_cons_zero]
          refine w_value (PT b) (by kernel_rfl) (fun w hw => x_move _ _ _ _ _ _ _ _ rfl w) ?_
          simp only [Act.put, List.setIfInBounds_toArray, List.set_cons_succ, List.set_cons_zero]
          refine w_value (PT b) (by kernel_rfl) (fun w hw => x_nilCheck _ _ _ _ _ _ _ _ rfl w) ?_
          simp only [Act.put, List.setIfInBounds_toArray, List.set_cons_succ, List.set_cons_zero]
          refine w_value (PT b) (by kernel_rfl) (fun w hw => x_field0 _ _ _ _ _ _ _ _ rfl w) ?_
          simp only [Act.put, List.setIfInBounds_toArray, List.set_cons_succ, List.set_cons_zero]
          refine w_value (.int .i64 o) (by kernel_rfl) (fun w hw => x_loadOp _ _ _ _ _ _ _ _ o rfl w (hco w hw)) ?_
          simp only [Act.put, List.setIfInBounds_toArray, List.set_cons_succ, List.set_cons_zero]
          refine w_value (.int .i64 k) (by kernel_rfl) (fun w hw => x_move _ _ _ _ _ _ _ _ rfl w) ?_
          simp only [Act.put, List.setIfInBounds_toArray, List.set_cons_succ, List.set_cons_zero]
          refine w_call hG 80 #[.int .i64 o, .int .i64 k] (.int .i64 nd) (by kernel_rfl) (fun w => x_call2 _ _ _ _ _ _ _ _ _ _ _ _ _ rfl rfl rfl (enters_of Tryz.func80 (by kernel_rfl) rfl) w) (fun w hw => hqn w hw) ?_
          simp only [Act.put, List.setIfInBounds_toArray, List.set_cons_succ, List.set_cons_zero]
          refine w_value (.bool true) (by kernel_rfl) (fun w hw => x_lssB2 _ _ _ _ _ _ _ _ hk nd true hlt rfl rfl w) ?_
          simp only [Act.put, List.setIfInBounds_toArray, List.set_cons_succ, List.set_cons_zero]
          refine w_nil ?_
          intro W hW
          have HA2 := hide (HA1.out.step (HCB.out W hW))
          have HU2 : Hid (U = [40] ++ kk.txt ++ [41]) := by show _ = _; rw [HU.out, if_pos hhn]
          have hul : U.length = kk.txt.length + 2 := by rw [HU2.out]; simp
          clear hW hG hco hqo hqh hqn hhn
          obtain ⟨V3, W3, hr3, hA3⟩ := HA2.out.app1 40 (by simp; omega)
          obtain ⟨a3, c3, hv3⟩ := hA3.slice
          obtain ⟨M3, hM3⟩ : ∃ M3, M3 = n + (T ++ sp ++ [40]).length := ⟨_, rfl⟩
          rw [← hM3] at hv3
          subst hv3
          have hrec := HIK.out p (.slice a3 M3 c3) _ _ w0 W3 HR0.out (hA3.below HW.out HO.out) hA3.own (by simp; omega) HT.out
          have HREC := hide hrec
          have HA3 := hide hA3
          clear hrec hA3 hM3
          unfold PT at HREC ⊢
          go_wp2_with (refine wpList_append_run rfl _ _ _ rfl _ _ _ rfl rfl hr3 ?_)
          refine HREC.out.mono ?_
          rintro e w4 ⟨V4, rfl, hA4⟩
          have hA5 := HA3.out.more hA4
          obtain ⟨V6, W6, hr6, hA6⟩ := hA5.app1 41 (by simp; omega)
          obtain ⟨a4, c4, hv4⟩ := hA5.slice
          obtain ⟨M4, hM4⟩ : ∃ M4, M4 = n + (T ++ sp ++ [40] ++ kk.txt).length := ⟨_, rfl⟩
          rw [← hM4] at hv4
          subst hv4
          have HA6 := hide hA6
          clear hA4 hA5 hA6 HREC hr3 hM4
          go_wp2_with (refine wpList_append_run rfl _ _ _ rfl _ _ _ rfl rfl hr6 ?_)
          refine ⟨⟨k + 1, by omega, by go_num, ?_⟩, by simp [intOf]; omega⟩
          show AV _ _ _ _ _ _ _ _
          rw [HTK.out, HU2.out]
          have h6 := HA6.out
          simp only [List.append_assoc] at h6 ⊢
          exact h6
        · have hlt : decide (hk < nd) = false := by simp; omega
          refine w_lit (C := C) (by kernel_rfl) (by kernel_rfl) HCD.out ?_
          refine w_value (PT p) (by kernel_rfl) (fun w hw => x_move _ _ _ _ _ _ _ _ rfl w) ?_
          simp only [Act.put, List.setIfInBounds_toArray, List.set_cons_succ, List.set_cons_zero]
          refine w_call hG 58 #[PT p] (.int .i64 ko) (by kernel_rfl) (fun w => x_call1 _ _ _ _ _ _ _ _ _ _ rfl rfl (enters_of Tryz.func58 (by kernel_rfl) rfl) w) (fun w hw => hqo w hw) ?_
          simp only [Act.put, List.setIfInBounds_toArray, List.set_cons_succ, List.set_cons_zero]
          refine w_call hG 79 #[.int .i64 ko] (.int .i64 hk) (by kernel_rfl) (fun w => x_call1 _ _ _ _ _ _ _ _ _ _ rfl rfl (enters_of Tryz.func79 (by kernel_rfl) rfl) w) (fun w hw => hqh w hw) ?_
          simp only [Act.put, List.setIfInBounds_toArray, List.set_cons_succ, List.set_cons_zero]
          refine w_value (PT b) (by kernel_rfl) (fun w hw => x_move _ _ _ _ _ _ _ _ rfl w) ?_
          simp only [Act.put, List.setIfInBounds_toArray, List.set_cons_succ, List.set_cons_zero]
          refine w_value (PT b) (by kernel_rfl) (fun w hw => x_nilCheck _ _ _ _ _ _ _ _ rfl w) ?_
          simp only [Act.put, List.setIfInBounds_toArray, List.set_cons_succ, List.set_cons_zero]
          refine w_value (PT b) (by kernel_rfl) (fun w hw => x_field0 _ _ _ _ _ _ _ _ rfl w) ?_
          simp only [Act.put, List.setIfInBounds_toArray, List.set_cons_succ, List.set_cons_zero]
          refine w_value (.int .i64 o) (by kernel_rfl) (fun w hw => x_loadOp _ _ _ _ _ _ _ _ o rfl w (hco w hw)) ?_
          simp only [Act.put, List.setIfInBounds_toArray, List.set_cons_succ, List.set_cons_zero]
          refine w_value (.int .i64 k) (by kernel_rfl) (fun w hw => x_move _ _ _ _ _ _ _ _ rfl w) ?_
          simp only [Act.put, List.setIfInBounds_toArray, List.set_cons_succ, List.set_cons_zero]
          refine w_call hG 80 #[.int .i64 o, .int .i64 k] (.int .i64 nd) (by kernel_rfl) (fun w => x_call2 _ _ _ _ _ _ _ _ _ _ _ _ _ rfl rfl rfl (enters_of Tryz.func80 (by kernel_rfl) rfl) w) (fun w hw => hqn w hw) ?_
          simp only [Act.put, List.setIfInBounds_toArray, List.set_cons_succ, List.set_cons_zero]
          refine w_value (.bool false) (by kernel_rfl) (fun w hw => x_lssB2 _ _ _ _ _ _ _ _ hk nd false hlt rfl rfl w) ?_
          simp only [Act.put, List.setIfInBounds_toArray, List.set_cons_succ, List.set_cons_zero]
          refine w_nil ?_
          intro W hW
          have HA2 := hide (HA1.out.step (HCB.out W hW))
          have HU2 : Hid (U = kk.txt) := by show _ = _; rw [HU.out, if_neg hhn]
          have hul : U.length = kk.txt.length := by rw [HU2.out]
          clear hW hG hco hqo hqh hqn hhn
          have hrec := HIK.out p (.slice aq M cq) _ _ w0 W HR0.out (HA2.out.below HW.out HO.out) HA2.out.own (by simp; omega) HT.out
          have HREC := hide hrec
          clear hrec
          unfold PT at HREC ⊢
          go_wp2_with fail
          refine HREC.out.mono ?_
          rintro e w4 ⟨V4, rfl, hA4⟩
          have HA5 := hide (HA2.out.more hA4)
          obtain ⟨a4, c4, hv4⟩ := hA4.slice
          obtain ⟨M5, hM5⟩ : ∃ M5, M5 = n + (T ++ sp).length + kk.txt.length := ⟨_, rfl⟩
          rw [← hM5] at hv4
          subst hv4
          clear hA4 HREC hM5
          go_wp2
          refine ⟨⟨k + 1, by omega, by go_num, ?_⟩, by simp [intOf]; omega⟩
          show AV _ _ _ _ _ _ _ _
          rw [HTK.out, HU2.out, ← List.append_assoc]
          exact HA5.out
    · obtain rfl : k = ks.length := by omega
      rw [List.take_length] at HA
      clear g1
      go_wp2
      go_ret
      exact ⟨_, rfl, HA.out⟩
end Go.Proofs.YtjlgepahgmkamaaGreatDoor
/- appendRe: an expression as text. -/
namespace Go.Proofs.YtjlgepahgmkamaaGreatDoor
set_option maxRecDepth 100000
set_option linter.unusedSimpArgs false
set_option linter.unusedVariables false
open Go.RowKit Go.Shelf

theorem opT_0 (s : BitVec 256) (ks : List (Nat × List Nat)) : opT 0 s ks = [91, 93] := by
  unfold opT; rw [if_neg (by decide), if_neg (by decide), if_neg (by decide), if_neg (by decide)]
theorem opT_1 (s : BitVec 256) (ks : List (Nat × List Nat)) : opT 1 s ks = [40, 41] := by
  unfold opT; rw [if_pos rfl]
theorem opT_2 (s : BitVec 256) (ks : List (Nat × List Nat)) : opT 2 s ks = classW s := by
  unfold opT; rw [if_neg (by decide), if_pos rfl]
theorem opT_3 (s : BitVec 256) (ks : List (Nat × List Nat)) : opT 3 s ks = kidsT 3 0 ks := by
  unfold opT; rw [if_neg (by decide), if_neg (by decide), if_pos (by decide)]
theorem opT_4 (s : BitVec 256) (ks : List (Nat × List Nat)) : opT 4 s ks = kidsT 4 0 ks := by
  unfold opT; rw [if_neg (by decide), if_neg (by decide), if_pos (by decide)]
theorem opT_5 (s : BitVec 256) (ks : List (Nat × List Nat)) : opT 5 s ks = kidsT 5 0 ks ++ [42] := by
  unfold opT; rw [if_neg (by decide), if_neg (by decide), if_neg (by decide), if_pos rfl]
theorem opT_6 (s : BitVec 256) (ks : List (Nat × List Nat)) : opT 6 s ks = kidsT 6 0 ks := by
  unfold opT; rw [if_neg (by decide), if_neg (by decide), if_pos (by decide)]
theorem opT_7 (s : BitVec 256) (ks : List (Nat × List Nat)) : opT 7 s ks = kidsT 7 0 ks := by
  unfold opT; rw [if_neg (by decide), if_neg (by decide), if_pos (by decide)]

theorem ReAt.setC {w : World} {b o : Nat} {s : BitVec 256} {ks : List RE} (h : ReAt w b (.mk o s ks)) (W : World) (hW : Below w.heap.size w W) : W.cell? ⟨b, 1, none⟩ = some (.int .u64 (wd s 0)) ∧ W.cell? ⟨b, 2, none⟩ = some (.int .u64 (wd s 1)) ∧ W.cell? ⟨b, 3, none⟩ = some (.int .u64 (wd s 2)) ∧ W.cell? ⟨b, 4, none⟩ = some (.int .u64 (wd s 3)) := by
  have hc := (h.keep hW).cellS
  exact ⟨hc 0 (by omega), hc 1 (by omega), hc 2 (by omega), hc 3 (by omega)⟩
set_option maxHeartbeats 4000000 in
theorem appendRe_any (r : RE) : r.kidsOk → WrAt r := by
  refine RE.ind (P := fun r => r.kidsOk → WrAt r) ?_ r
  intro o s ks ih hok b v n xs w0 w hR hW hO hl hT
  have hkk : ∀ k ∈ ks, WrAt k := fun k hk => ih k hk (hok.kid k hk)
  obtain ⟨a0, cp0, rfl⟩ := hO.slice
  have hop := opOf_any b _ w (hR.keep hW)
  have hG : 1 < w0.heap.size := World.block_lt_of_cell? _ _ (hT 0 (by omega))
  have HOP := hide hop
  simp only [RE.op] at HOP
  have ho7 := hok.op
  rw [RE.txt_mk] at hl ⊢
  obtain ⟨L, hL⟩ : ∃ L, L = opT o s (kidL ks) := ⟨_, rfl⟩
  rw [← hL] at hl ⊢
  have HLL := hide hL
  have hst := AV.start hO hW.size
  have HST := hide hst
  have hcl := hR.setC w hW
  have HCL := hide hcl
  have HKI : Hid (∀ (t : ByteArray), bytesN t = sepB o → n + (kidsT o 0 (kidL ks)).length ≤ 800000000000 → Calls Tryz.prog 60 #[.slice a0 n cp0, PT b, .string t] w fun e w' => ∃ V, e = .returned V ∧ AV w w0.heap.size (.slice a0 n cp0) n xs (kidsT o 0 (kidL ks)) V w') := fun t ht hl' => appendKids_any o s ks t ht hkk b _ n xs w0 w hR hW hO hl' hT
  have HTW := hide (hT.agree (Agree.of_all (K := fun _ => True) hW) trivial)
  have HO := hide hO
  have HWS := hide hW.size
  clear hL hop ih hkk hR hst hcl hT hO hW hok
  unfold PT at HOP HKI ⊢
  go_enter Tryz.func35, Tryz.ntmps35
  go_wp2_with fail
  refine HOP.out.mono ?_
  rintro e w1 ⟨rfl, rfl⟩
  clear HOP
  obtain h | h | h | h | h | h | h | h : o = 0 ∨ o = 1 ∨ o = 2 ∨ o = 3 ∨ o = 4 ∨ o = 5 ∨ o = 6 ∨ o = 7 := by omega
  all_goals subst h
  · have HE : Hid (L = [91, 93]) := by show _ = _; rw [HLL.out, opT_0]
    obtain ⟨V, W, hr, hA⟩ := HST.out.appT ⟨#[91, 93]⟩ [91, 93] (by decide +kernel) (by simp; omega)
    obtain ⟨a1, c1, rfl⟩ := hA.slice
    have HA := hide hA
    clear hA
    go_wp2_with (refine wpList_appendS_run rfl _ _ _ _ rfl _ _ _ rfl rfl hr ?_)
    go_ret
    exact ⟨_, rfl, by rw [HE.out]; exact HA.out⟩
  · have HE : Hid (L = [40, 41]) := by show _ = _; rw [HLL.out, opT_1]
    obtain ⟨V, W, hr, hA⟩ := HST.out.appT ⟨#[40, 41]⟩ [40, 41] (by decide +kernel) (by simp; omega)
    obtain ⟨a1, c1, rfl⟩ := hA.slice
    have HA := hide hA
    clear hA
    go_wp2_with (refine wpList_appendS_run rfl _ _ _ _ rfl _ _ _ rfl rfl hr ?_)
    go_ret
    exact ⟨_, rfl, by rw [HE.out]; exact HA.out⟩
  · have HE : Hid (L = classW s) := by show _ = _; rw [HLL.out, opT_2]
    have hac := appendClass_any s (.slice a0 n cp0) n w0.heap.size xs w1 HO.out (by omega) hG HWS.out HTW.out
    have HAC := hide hac
    obtain ⟨c1, c2, c3, c4⟩ := HCL.out
    clear hac
    unfold SV at HAC
    go_wp2_with fail
    refine HAC.out.mono ?_
    rintro e w2 ⟨V, rfl, hA⟩
    have HA := hide hA.toAV
    obtain ⟨a2, d2, rfl⟩ := hA.slice
    clear hA HAC c1 c2 c3 c4
    go_wp2
    go_ret
    exact ⟨_, rfl, by rw [HE.out]; exact HA.out⟩
  · have HE : Hid (L = kidsT 3 0 (kidL ks)) := by show _ = _; rw [HLL.out, opT_3]
    have hKL : n + (kidsT 3 0 (kidL ks)).length ≤ 800000000000 := by rw [HE.out] at hl; exact hl
    have HAK := hide (HKI.out ⟨#[]⟩ (by decide +kernel) (by omega))
    go_wp2_with fail
    refine HAK.out.mono ?_
    rintro e w2 ⟨V, rfl, hA⟩
    obtain ⟨a2, d2, hv2⟩ := hA.slice
    obtain ⟨M2, hM2⟩ : ∃ M2, M2 = n + (kidsT 3 0 (kidL ks)).length := ⟨_, rfl⟩
    rw [← hM2] at hv2
    subst hv2
    have HA := hide hA
    clear hA HAK
    clear hM2
    go_wp2
    go_ret
    exact ⟨_, rfl, by rw [HE.out]; exact HA.out⟩
  · have HE : Hid (L = kidsT 4 0 (kidL ks)) := by show _ = _; rw [HLL.out, opT_4]
    have hKL : n + (kidsT 4 0 (kidL ks)).length ≤ 800000000000 := by rw [HE.out] at hl; exact hl
    have HAK := hide (HKI.out ⟨#[124]⟩ (by decide +kernel) (by omega))
    go_wp2_with fail
    refine HAK.out.mono ?_
    rintro e w2 ⟨V, rfl, hA⟩
    obtain ⟨a2, d2, hv2⟩ := hA.slice
    obtain ⟨M2, hM2⟩ : ∃ M2, M2 = n + (kidsT 4 0 (kidL ks)).length := ⟨_, rfl⟩
    rw [← hM2] at hv2
    subst hv2
    have HA := hide hA
    clear hA HAK
    clear hM2
    go_wp2
    go_ret
    exact ⟨_, rfl, by rw [HE.out]; exact HA.out⟩
  · have HE : Hid (L = kidsT 5 0 (kidL ks) ++ [42]) := by show _ = _; rw [HLL.out, opT_5]
    have hKL : n + (kidsT 5 0 (kidL ks)).length + 1 ≤ 800000000000 := by rw [HE.out] at hl; simp at hl; omega
    have HAK := hide (HKI.out ⟨#[]⟩ (by decide +kernel) (by omega))
    go_wp2_with fail
    refine HAK.out.mono ?_
    rintro e w2 ⟨V, rfl, hA⟩
    obtain ⟨a2, d2, hv2⟩ := hA.slice
    obtain ⟨M2, hM2⟩ : ∃ M2, M2 = n + (kidsT 5 0 (kidL ks)).length := ⟨_, rfl⟩
    rw [← hM2] at hv2
    subst hv2
    have HA := hide hA
    clear hA HAK
    obtain ⟨V3, W3, hr3, hA3⟩ := HA.out.app1 42 (by omega)
    obtain ⟨a3, d3, hv3⟩ := hA3.slice
    obtain ⟨M3, hM3⟩ : ∃ M3, M3 = n + (kidsT 5 0 (kidL ks) ++ [42]).length := ⟨_, rfl⟩
    rw [← hM3] at hv3
    subst hv3
    have HA3 := hide hA3
    clear hA3 hM2 hM3
    go_wp2_with (refine wpList_append_run rfl _ _ _ rfl _ _ _ rfl rfl hr3 ?_)
    go_ret
    exact ⟨_, rfl, by rw [HE.out]; exact HA3.out⟩
  · have HE : Hid (L = kidsT 6 0 (kidL ks)) := by show _ = _; rw [HLL.out, opT_6]
    have hKL : n + (kidsT 6 0 (kidL ks)).length ≤ 800000000000 := by rw [HE.out] at hl; exact hl
    have HAK := hide (HKI.out ⟨#[38]⟩ (by decide +kernel) (by omega))
    go_wp2_with fail
    refine HAK.out.mono ?_
    rintro e w2 ⟨V, rfl, hA⟩
    obtain ⟨a2, d2, hv2⟩ := hA.slice
    obtain ⟨M2, hM2⟩ : ∃ M2, M2 = n + (kidsT 6 0 (kidL ks)).length := ⟨_, rfl⟩
    rw [← hM2] at hv2
    subst hv2
    have HA := hide hA
    clear hA HAK
    clear hM2
    go_wp2
    go_ret
    exact ⟨_, rfl, by rw [HE.out]; exact HA.out⟩
  · have HE : Hid (L = kidsT 7 0 (kidL ks)) := by show _ = _; rw [HLL.out, opT_7]
    have hKL : n + (kidsT 7 0 (kidL ks)).length ≤ 800000000000 := by rw [HE.out] at hl; exact hl
    have HAK := hide (HKI.out ⟨#[45]⟩ (by decide +kernel) (by omega))
    go_wp2_with fail
    refine HAK.out.mono ?_
    rintro e w2 ⟨V, rfl, hA⟩
    obtain ⟨a2, d2, hv2⟩ := hA.slice
    obtain ⟨M2, hM2⟩ : ∃ M2, M2 = n + (kidsT 7 0 (kidL ks)).length := ⟨_, rfl⟩
    rw [← hM2] at hv2
    subst hv2
    have HA := hide hA
    clear hA HAK
    clear hM2
    go_wp2
    go_ret
    exact ⟨_, rfl, by rw [HE.out]; exact HA.out⟩
end Go.Proofs.YtjlgepahgmkamaaGreatDoor
/- Of and Byte: an expression, a byte as a text. -/
namespace Go.Proofs.YtjlgepahgmkamaaGreatDoor
set_option maxRecDepth 100000
set_option linter.unusedSimpArgs false
set_option linter.unusedVariables false
open Go.RowKit Go.Shelf

theorem str_of {W : World} {base : Nat} {V : Value} {l : List Nat} (ho : OwnU W base V l.length (byteV l)) (hne : l ≠ []) : (convert 71 9 V).run Tryz.prog W = .ok (.string (strB l)) W := by
  rcases ho.2 with ⟨-, hn⟩ | ⟨g, cap, cur, t, rfl, -⟩
  · exact absurd (List.length_eq_zero_iff.1 hn) hne
  · refine run_convert_bytes_arg _ 71 5 Tryz.underlying71 Tryz.underlying5 g 0 _ cap (l.map fun x : Nat => (x : Int)) (by simp) (fun i hi => ?_) 9 Tryz.underlying9
    rw [Nat.zero_add]
    refine ho.cells i _ ?_
    simp [byteV, List.getD_eq_getElem?_getD, hi]

theorem kidT_ne (o i k : Nat) (t : List Nat) (h : t ≠ []) : kidT o i k t ≠ [] := by
  unfold kidT
  intro e
  have e2 := (List.append_eq_nil_iff.1 e).2
  split at e2
  · simp at e2
  · exact h e2
theorem kidsT_ne (o i : Nat) (l : List (Nat × List Nat)) (hl : l ≠ []) (h : ∀ x ∈ l, x.2 ≠ []) : kidsT o i l ≠ [] := by
  cases l with
  | nil => exact absurd rfl hl
  | cons x r =>
    intro e
    rw [kidsT] at e
    exact kidT_ne o i x.1 x.2 (h x (by simp)) (List.append_eq_nil_iff.1 e).1
theorem byteW_ne (c : Nat) : byteW c ≠ [] := by
  unfold byteW
  repeat' split
  all_goals simp
theorem runsW_ne (l : List (Nat × Nat)) (h : l ≠ []) : runsW l ≠ [] := by
  cases l with
  | nil => exact absurd rfl h
  | cons x r =>
    intro e
    simp [runsW, runW, byteW_ne] at e
theorem classW_ne (s : BitVec 256) (h : s ≠ 0#256) : classW s ≠ [] := by
  unfold classW
  split
  · exact runsW_ne _ (runs_nil h)
  · split
    · simp
    · split
      · simp
      · simp
theorem txt_ne (r : RE) : Wf r → r.txt ≠ [] := by
  refine RE.ind (P := fun r => Wf r → r.txt ≠ []) ?_ r
  intro o s ks ih hw
  have hs : Shp o s ks := hw.shp
  have hk : ∀ k ∈ ks, Wf k := hw.kid
  have hx : ∀ x ∈ kidL ks, x.2 ≠ [] := by
    intro x hx
    obtain ⟨k, hk', rfl⟩ := List.mem_map.1 hx
    exact ih k hk' (hk k hk')
  have hl : ks ≠ [] → kidsT o 0 (kidL ks) ≠ [] := fun h => kidsT_ne o 0 _ (by simpa [kidL] using h) hx
  rw [RE.txt_mk]
  have ho := hs.op
  obtain h | h | h | h | h | h | h | h : o = 0 ∨ o = 1 ∨ o = 2 ∨ o = 3 ∨ o = 4 ∨ o = 5 ∨ o = 6 ∨ o = 7 := by omega
  all_goals subst h
  · rw [opT_0]; simp
  · rw [opT_1]; simp
  · rw [opT_2]; exact classW_ne s (hs.cls rfl).2
  · rw [opT_3]; exact hl fun e => by have := (hs.cat rfl).1; simp [e] at this
  · rw [opT_4]; exact hl fun e => by have := (hs.or (.inl rfl)).1; simp [e] at this
  · rw [opT_5]; simp
  · rw [opT_6]; exact hl fun e => by have := (hs.or (.inr rfl)).1; simp [e] at this
  · rw [opT_7]; exact hl fun e => by obtain ⟨a, b, h, -⟩ := hs.minus rfl; simp [e] at h

set_option maxHeartbeats 1000000 in
theorem textOf_any (r : RE) (b : Nat) (w : World) (hw : Wf r) (h : ReAt w b r) (hl : r.txt.length ≤ 800000000000) (hT : TabAt w) :
    Calls Tryz.prog 17 #[PT b] w fun e w' => e = .returned (.string (strB r.txt)) ∧ Below w.heap.size w w' := by
  have ho0 : OwnU w w.heap.size (.slice none 0 0) 0 [] := ⟨rfl, .inl ⟨rfl, rfl⟩⟩
  have hk := appendRe_any r hw.kidsOk b (.slice none 0 0) 0 [] w w h (Below.refl _ _) ho0 (by omega) hT
  have HK := hide hk
  have HNE := hide (txt_ne r hw)
  have HO0 := hide ho0
  clear hk hw h hT ho0
  unfold PT at HK ⊢
  go_enter Tryz.func17, Tryz.ntmps17
  go_wp2_with fail
  refine HK.out.mono ?_
  rintro e w1 ⟨v, rfl, hA⟩
  have hb : Below w.heap.size w w1 := hA.below (Below.refl _ _) HO0.out
  have ho := hA.own
  rw [List.nil_append, Nat.zero_add] at ho
  have hcv := str_of ho HNE.out
  have HB := hide hb
  clear hb HK hA HO0
  obtain ⟨a, c, rfl⟩ := ho.slice
  clear ho HNE
  go_wp2
  go_ret
  exact ⟨rfl, HB.out⟩

set_option maxHeartbeats 1000000 in
theorem textByte_any (c : Nat) (hc : c < 256) (w : World) :
    Calls Tryz.prog 51 #[.int .u8 c] w fun e w' => e = .returned (.string (strB (byteW c))) ∧ Below w.heap.size w w' := by
  have ho0 : OwnU w w.heap.size (.slice none 0 0) 0 [] := ⟨rfl, .inl ⟨rfl, rfl⟩⟩
  have hk := appendByte_any c hc (.slice none 0 0) 0 w.heap.size [] w ho0 (Nat.le_refl _) (by omega)
  have HK := hide hk
  have HNE := hide (byteW_ne c)
  have HO0 := hide ho0
  clear hk ho0
  go_enter Tryz.func51, Tryz.ntmps51
  go_wp2_with fail
  refine HK.out.mono ?_
  rintro e w1 ⟨v, rfl, hA⟩
  have hb : Below w.heap.size w w1 := hA.toAV.below (Below.refl _ _) HO0.out
  have ho := hA.own
  rw [List.nil_append, Nat.zero_add] at ho
  have hcv := str_of ho HNE.out
  have HB := hide hb
  clear hb HK hA HO0
  obtain ⟨a, d, rfl⟩ := ho.slice
  clear ho HNE
  go_wp2
  go_ret
  exact ⟨rfl, HB.out⟩
end Go.Proofs.YtjlgepahgmkamaaGreatDoor
/- Texts of bytes: what is written of expressions are bytes. -/
namespace Go.Proofs.YtjlgepahgmkamaaGreatDoor
set_option maxRecDepth 100000
set_option linter.unusedSimpArgs false
set_option linter.unusedVariables false
open Go.RowKit Go.Shelf

theorem byteS_lt : ∀ c < 256, ∀ x ∈ byteW c, x < 256 := by decide +kernel
theorem strS_bytes {l : List Nat} (h : ∀ x ∈ l, x < 256) : bytesN (strB l) = l := by
  simp only [bytesN, strB, strOfNums, List.map_map, Function.comp_def, Int.toNat_natCast]
  have : l.map (fun x => (UInt8.ofNat x).toNat) = l.map id := List.map_congr_left fun x hx => by
    have := h x hx
    simp; omega
  simpa using this
end Go.Proofs.YtjlgepahgmkamaaGreatDoor
