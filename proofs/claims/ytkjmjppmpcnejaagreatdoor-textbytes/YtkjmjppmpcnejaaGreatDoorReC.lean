/- A row of bytes that the call owns, in a block of whatever type: append. appendRuns. -/
import Derived.Test.YtkjmjppmpcnejaaGreatDoorReB
import Derived.ArgAppend
import Derived.OwnWalkIn
import Derived.Test.YtkjmjppmpcnejaaGreatDoorGen
namespace Go.Proofs.YtkjmjppmpcnejaaGreatDoor
set_option maxRecDepth 100000
set_option linter.unusedSimpArgs false
set_option linter.unusedVariables false
open Go.RowKit Go.Shelf
attribute [local go_sem] Oper.semAt_some

/-- v is a slice of the n one-cell values xs in a block of its own at or behind base (or nil). -/
def OwnU (w : World) (base : Nat) (v : Value) (n : Nat) (xs : List Value) : Prop :=
  xs.length = n ∧ ((v = .slice none 0 0 ∧ n = 0) ∨ ∃ g cap cur t, v = .slice (some ⟨g, 0, none⟩) n cap ∧ base ≤ g ∧ Blk w g cur t ∧ n ≤ cap ∧ cap ≤ maxLen ∧ cur.size = cap ∧ cur.toList.take n = xs)
theorem OwnU.keep {w w' : World} {base n : Nat} {v : Value} {xs : List Value} (h : OwnU w base v n xs) (hb : ∀ g, v.ownBlock = some g → w'.heap[g]? = w.heap[g]?) : OwnU w' base v n xs := by
  refine ⟨h.1, ?_⟩
  rcases h.2 with h2 | ⟨g, cap, cur, t, rfl, h2, h3, h4⟩
  · exact .inl h2
  · exact .inr ⟨g, cap, cur, t, rfl, h2, (hb g rfl).trans h3, h4⟩
theorem OwnU.own_lt {w : World} {base n g : Nat} {v : Value} {xs : List Value} (h : OwnU w base v n xs) (e : v.ownBlock = some g) : base ≤ g ∧ g < w.heap.size := by
  rcases h.2 with ⟨rfl, -⟩ | ⟨g', cap, cur, t, rfl, h2, h3, h4⟩
  · cases e
  · simp [Value.ownBlock] at e; subst e; exact ⟨h2, h3.lt⟩
theorem OwnU.cells {w : World} {base n g cap : Nat} {xs : List Value} (h : OwnU w base (.slice (some ⟨g, 0, none⟩) n cap) n xs) : ∀ j u, xs[j]? = some u → w.cell? ⟨g, j, none⟩ = some u := by
  rcases h.2 with ⟨e, -⟩ | ⟨g', cap', cur, t, e, h2, h3, h4, h5, h6, h7⟩
  · cases e
  · cases e
    intro j u hu
    rw [h3.cell, ← hu, ← h7, List.getElem?_take]
    have hj : j < xs.length := (List.getElem?_eq_some_iff.1 hu).1
    rw [if_pos (by rw [h.1] at hj; exact hj)]
    simp

theorem infoU8 : (Tryz.prog.info? 5).map (fun i => (i.zero, i.size, i.bytes)) = some (some (.int .u8 0), 1, 1) := by kernel_rfl

theorem run_appendU (w : World) (ty : TypeId) (base : Nat) (v : Value) (n : Nat) (xs : List Value) (hown : OwnU w base v n xs) (ad : Addr) (m c : Nat) (news : List Value) (hl : news.length = m)
    (hnews : ∀ j u, news[j]? = some u → w.cell? (ad.add j) = some u) (h1 : ∀ u ∈ news, u.oneCell' = true) (hm : 0 < m) (hbytes : n + m ≤ 140737488355328) (hbase : base ≤ w.heap.size) :
    ∃ v' w', (Builtin.append_ #[61, 61] ty #[v, .slice (some ad) m c]).run Tryz.prog w = .ok v' w' ∧ OwnU w' base v' (n + m) (xs ++ news) ∧ w.grownBy w' v.ownBlock ∧ (v'.ownBlock = v.ownBlock ∨ v'.ownBlock = some w.heap.size) ∧ w.drawn ≤ w'.drawn := by
  obtain ⟨i, hi, hz0, hz1, hz2⟩ := info_parts infoU8
  have hlen : (xs ++ news).length = n + m := by rw [List.length_append, hown.1, hl]
  have hml : n + m ≤ maxLen := by unfold maxLen; omega
  have grown : ∀ old, OwnU (w.drew.alloc (.cells (xs.toArray ++ news.toArray ++ Builtin.zeroCells (Value.int .u8 0).cells (grownCap w (n + m) old 5 - (n + m))) 5)) base
        (.slice (some ⟨w.heap.size, 0, none⟩) (n + m) (grownCap w (n + m) old 5)) (n + m) (xs ++ news) := by
    intro old
    have hge := grownCap_ge w (n + m) old 5
    have hcm : grownCap w (n + m) old 5 ≤ maxLen := grownCap_le_maxLen w (n + m) old _ hml
    refine ⟨hlen, .inr ⟨w.heap.size, _, _, _, rfl, hbase, heap_alloc_new w.drew _, hge, hcm, ?_, ?_⟩⟩
    · simp only [Array.size_append, List.size_toArray, size_zeroCells, hown.1, hl]
      simp [Value.cells]; omega
    · simp only [Array.toList_append, List.append_assoc]
      rw [← List.append_assoc, ← hlen]
      exact List.take_left
  have gb : ∀ o row, w.grownBy (w.drew.alloc o) row := fun o row => ⟨rfl, rfl, rfl, by simp, fun k hk _ => heap_alloc_old w.drew _ hk⟩
  rcases hown.2 with ⟨rfl, rfl⟩ | ⟨g, cap, cur, t, rfl, hbg, hg, hnc, hcm, hcs, htake⟩
  · have hx : xs = [] := List.eq_nil_of_length_eq_zero (by simpa using hown.1)
    subst hx
    have hr := run_append_nil (P := Tryz.prog) w 61 ty 5 i (.int .u8 0) Tryz.underlying61 hi hz0 ad m c news (by rw [hz1]; omega) hnews (by omega) (by omega) (by rw [hz2]; simp at hbytes; omega)
    have hgr := grown 0
    simp only [Nat.zero_add, List.nil_append, Array.empty_append] at hgr ⊢
    exact ⟨_, _, hr, hgr, gb _ _, Or.inr rfl, Nat.le_succ _⟩
  · by_cases hroom : n + m ≤ cap
    · have hfit : n * i.size + news.length ≤ cur.size := by rw [hl, hcs, hz1]; omega
      have hf := run_firstCells_some (P := Tryz.prog) w i.size m ad m c news (by rw [hz1]; omega) hnews
      have hst := run_storeCells_at Tryz.prog g (n * i.size) t news 0 cur w hg (by simpa using hfit) h1
      simp only [Nat.add_zero] at hst
      have hr : (Builtin.append_ #[61, 61] ty #[.slice (some ⟨g, 0, none⟩) n cap, .slice (some ad) m c]).run Tryz.prog w = .ok (.slice (some ⟨g, 0, none⟩) (n + m) cap) (w.setRow g (cur.toList.take (n * i.size) ++ news ++ cur.toList.drop (n * i.size + news.length)).toArray) := by
        simp [Builtin.append_, run_underlying Tryz.underlying61, sizeOf, typeInfo, hi, Builtin.lenOf, hroom, hf, Addr.add_lit, hst]
      refine ⟨_, _, hr, ⟨hlen, .inr ⟨g, cap, _, t, rfl, hbg, setRow_heap w g cur _ t _ hg, hroom, hcm, ?_, ?_⟩⟩, ⟨rfl, rfl, rfl, by simp, fun k _ hk => setRow_other w g k _ (fun e => hk (by simp [Value.ownBlock, e]))⟩, Or.inl rfl, Nat.le_refl _⟩
      · simp only [List.size_toArray, List.length_append, List.length_take, List.length_drop, Array.length_toList, hz1]
        omega
      · rw [hz1, Nat.mul_one, htake, ← hlen]
        exact List.take_left
    · have holds : ∀ j u, xs[j]? = some u → w.cell? ((⟨g, 0, none⟩ : Addr).add j) = some u := fun j u hu => by
        rw [Go.WideShapes.add_plain, Nat.zero_add]; exact hown.cells j u hu
      have hr := run_append_grow (P := Tryz.prog) w 61 ty 5 i (.int .u8 0) Tryz.underlying61 hi hz0 ⟨g, 0, none⟩ n cap xs (by rw [hz1, hown.1]; omega) holds ad m c news (by rw [hz1]; omega) hnews (by omega) (by omega) (by rw [hz2]; exact growslice_fits (by omega) (by omega))
      exact ⟨_, _, hr, grown cap, gb _ _, Or.inr rfl, Nat.le_succ _⟩

/-- append whose run is known, in the fenced layer. -/
theorem wpListIn_append_run {F : Fence} {n : Nat} {w w' : World} {ops : Array Oper} {rest : List Oper} {o : Oper} {a : Act} {Q : Exit → Act → World → Prop} (hg : o.guard = none) (s x : Operand) (t : TypeId)
    (hop : o.op = Op.call { callee := Callee.builtin Builtin.append, args := #[s, x], argTypes := #[t, t] }) (v u v' : Value) (hs : a.eval s = v) (hx : a.eval x = u)
    (hrun : (Builtin.append_ #[t, t] o.type #[v, u]).run Tryz.prog w = .ok v' w') (hK : wpListIn F n Tryz.prog ops Q rest (a.put o.dst v') w') : wpListIn F n Tryz.prog ops Q (o :: rest) a w := by
  refine wpListIn_plain hg fun K hK' => ?_
  unfold Oper.wpIn
  refine ⟨?_, ?_⟩
  · simp [Oper.about, hop, resolve, Target.leads, Sem.run_pure]
  · rw [Oper.semAt_plain F _ _ (by rw [hop]; intro c hc'; cases hc')]
    simp [execOp, hop, resolve, invoke, builtin, hs, hx, hrun, Result.andThen]
    exact hK' _ _ hK

/-- The bytes of a set's runs. -/
def rnB (l : List (Nat × Nat)) : List Nat := l.flatMap fun r => [r.1, r.2]
def byteV (l : List Nat) : List Value := l.map fun x : Nat => Value.int .u8 (x : Int)
theorem rnB_snoc (l : List (Nat × Nat)) (x : Nat × Nat) : byteV (rnB (l ++ [x])) = byteV (rnB l) ++ [.int .u8 x.1, .int .u8 x.2] := by simp [byteV, rnB]
theorem rnB_length (l : List (Nat × Nat)) : (rnB l).length = 2 * l.length := by
  induction l with
  | nil => rfl
  | cons a l ih => simp [rnB] at *; omega

theorem runStep_len (st : List (Nat × Nat) × Option (Nat × Nat)) (b : Nat) : (runStep st b).1.length + (runStep st b).2.toList.length ≤ st.1.length + st.2.toList.length + 1 := by
  obtain ⟨em, cur⟩ := st
  cases cur with
  | none => simp [runStep]
  | some r =>
    obtain ⟨f, l⟩ := r
    simp only [runStep]
    split <;> simp
theorem foldl_runStep_len : ∀ (l : List Nat) (st : List (Nat × Nat) × Option (Nat × Nat)), (l.foldl runStep st).1.length + (l.foldl runStep st).2.toList.length ≤ st.1.length + st.2.toList.length + l.length
  | [], st => by simp
  | b :: l, st => by
    have h1 := foldl_runStep_len l (runStep st b)
    have h2 := runStep_len st b
    simp only [List.foldl_cons, List.length_cons]
    omega
theorem runs_le (s : BitVec 256) : (runsOf s).length ≤ 256 := by
  have h1 := foldl_runStep_len (bytesOf s) ([], none)
  have h2 := bytesOf_le s
  unfold runsOf runsL runSt
  rw [List.length_append]
  simp at h1
  omega

set_option maxHeartbeats 1000000 in
theorem appendRuns_in (s : BitVec 256) (v : Value) (n base : Nat) (xs : List Value) (w : World) (hv : OwnU w base v n xs) (hn : n ≤ 1099511627776) (hG : 1 < base) (hbase : base ≤ w.heap.size) (hT : TabAt w) :
    CallsIn Fence.wide 0 Tryz.prog 81 #[v, SV s] w fun e w' => ∃ v', e = .returned v' ∧ OwnU w' base v' (n + 2 * (runsOf s).length) (xs ++ byteV (rnB (runsOf s))) ∧ w.grownBy w' v.ownBlock ∧ (v'.ownBlock = v.ownBlock ∨ ∃ g, v'.ownBlock = some g ∧ w.heap.size ≤ g) ∧ w.drawn ≤ w'.drawn := by
  obtain ⟨ad, ln, cap, rfl⟩ : ∃ ad ln cap, v = .slice ad ln cap := by
    rcases hv.2 with ⟨rfl, -⟩ | ⟨g, cap, cur, t, rfl, -⟩ <;> exact ⟨_, _, _, rfl⟩
  refine callsIn_of_wp_marks Tryz.func81 rfl trivial ?_ rfl
  simp only [Tryz.ntmps81, List.size_toArray, List.length_nil, List.length_cons, Nat.reduceSub, Nat.reduceAdd, Array.replicate_succ, Array.replicate_zero, List.push_toArray, List.append_toArray, List.nil_append, List.cons_append]
  gi_wp2_with fail
  refine ⟨trivial, rfl, ?_⟩
  refine (callsIn_wide.2 (runs_any s _)).mono ?_
  rintro e w5 ⟨rfl, rfl⟩
  gi_wp2
  refine wpIn_world (fun W => Blk W w.heap.size #[.slice ad ln cap] 61 ∧ Blk W (w.heap.size + 1) (WS s) 42 ∧ Blk W (w.heap.size + 2) (WS s) 42 ∧ Below w.heap.size w W ∧ w.drawn ≤ W.drawn) ⟨?_, ?_, ?_, ?_, ?_⟩ ?_
  · exact ((Blk.newAt rfl _ _).alloc _).alloc _
  · exact (Blk.newAt (by simp) _ _).alloc _
  · exact Blk.newAt (by simp) _ _
  · exact (((Below.refl _ _).alloc (Nat.le_refl _) _).alloc (by simp) _).alloc (by simp; omega) _
  · exact Nat.le_refl _
  rintro W0 ⟨k0, k1, k2, hbel, hdw⟩
  have hT0 : TabAt W0 := hT.agree (Agree.of_all (K := fun _ => True) hbel) trivial
  have HT := hide hT0
  have HB := hide hbel
  have zk := k2.lt
  have hv0 : OwnU W0 base (.slice ad ln cap) n xs := hv.keep fun g hg => hbel.block g (hv.own_lt hg).2
  have hvo : ∀ g, (Value.slice ad ln cap).ownBlock = some g → base ≤ g ∧ g < w.heap.size := fun g hg => hv.own_lt hg
  have hr256 := runs_le s
  clear hT hT0 hbel hv
  generalize hN : w.heap.size = N at *
  refine wpIn_rangeM (gf := 105) (lb := #[.pointer (some ⟨N + 1 + 1, 0, none⟩)]) rfl enters_runs (encs := fun x : Nat × Nat => #[.int .u8 x.1, .int .u8 x.2]) (xs := runsOf s)
    (own := fun k => k = N + 2 ∨ k = 1)
    (fun W1 hb => runs1_any s _ W1 (k2.below hb zk) (HT.out.agree (Agree.of_all (K := fun _ => True) hb) trivial)) (fun _ => rfl)
    (fun pre M W => M N ∧ ∃ v', Blk W N #[v'] 61 ∧ OwnU W base v' (n + 2 * pre.length) (xs ++ byteV (rnB pre)) ∧ (∀ g, v'.ownBlock = some g → M g) ∧ (v'.ownBlock = (Value.slice ad ln cap).ownBlock ∨ ∃ g, v'.ownBlock = some g ∧ N < g))
    (fun _ _ _ _ => False)
    (fun _ M A B h ha => ⟨h.1, h.2.choose, h.2.choose_spec.1.agree ha h.1, h.2.choose_spec.2.1.keep (fun g hg => ha.block g (h.2.choose_spec.2.1.own_lt hg).2 (h.2.choose_spec.2.2.1 g hg)), h.2.choose_spec.2.2⟩)
    (fun _ _ M A B h ha => h)
    (fun k => k = N ∨ (Value.slice ad ln cap).ownBlock = some k) (fun k hk => by rcases hk with rfl | hk; exact k0.lt; have := hvo k hk; omega)
    (fun k hk => by
      rcases hk with rfl | rfl
      · exact ⟨fun h => by rcases h with h | h; omega; have := hvo _ h; omega, zk⟩
      · exact ⟨fun h => by rcases h with h | h; omega; have := hvo _ h; omega, by omega⟩)
    ⟨.inl rfl, _, k0, by simpa [byteV, rnB] using hv0, fun g hg => .inr hg, .inl rfl⟩
    (fun x => { tmps := #[.slice ad ln cap, SV s, .pointer (some ⟨N, 0, none⟩), .pointer (some ⟨N + 1, 0, none⟩), .slice none 0 0, .int .u8 x.1, .int .u8 x.2, SV s, .func (.func 105) #[] #[.pointer (some ⟨N + 1 + 1, 0, none⟩)],
        .int .u8 x.1, .int .u8 x.2, undef, undef, undef, undef, undef, undef], defers := [] }) ?assign ?body ?done ?stop
  case assign =>
    intro l x W K hK
    gi_wp2
    exact hK
  case body =>
    rintro l pre x M W hpre ⟨m1, v', b1, ho, hom, hor⟩ hM
    have hpl : pre.length < (runsOf s).length := by have := hpre.length_le; simp at this; omega
    have hNW := b1.lt
    have e1 := b1.cell 0
    have f1 := b1.frozen 0
    simp only [List.getElem?_toArray, List.getElem?_cons_zero] at e1
    obtain ⟨W2, hW2⟩ : ∃ W2, W2 = W.alloc (.cells #[.int .u8 x.1, .int .u8 x.2] 5) := ⟨_, rfl⟩
    have kn : Blk W2 W.heap.size #[.int .u8 x.1, .int .u8 x.2] 5 := by rw [hW2]; exact Blk.newAt rfl _ _
    have ho2 : OwnU W2 base v' (n + 2 * pre.length) (xs ++ byteV (rnB pre)) := ho.keep fun g hg => by rw [hW2]; exact Below.heap_alloc _ _ _ (ho.own_lt hg).2
    have hsz2 : W2.heap.size = W.heap.size + 1 := by rw [hW2]; simp
    obtain ⟨v2, W3, hr, ho3, hg3, hob, hdr⟩ := run_appendU W2 61 base v' _ _ ho2 ⟨W.heap.size, 0, none⟩ 2 2 [.int .u8 x.1, .int .u8 x.2] rfl (World.news_of_block kn) (by intro u hu; simp at hu; rcases hu with rfl | rfl <;> rfl) (by omega) (by omega) (by omega)
    obtain ⟨ad', ln', cap', rfl⟩ : ∃ ad ln cap, v' = .slice ad ln cap := by
      rcases ho.2 with ⟨rfl, -⟩ | ⟨g, cap, cur, t, rfl, -⟩ <;> exact ⟨_, _, _, rfl⟩
    obtain ⟨ad2, ln2, cap2, rfl⟩ : ∃ ad ln cap, v2 = .slice ad ln cap := by
      rcases ho3.2 with ⟨rfl, -⟩ | ⟨g, cap, cur, t, rfl, -⟩ <;> exact ⟨_, _, _, rfl⟩
    rw [hW2] at hr
    have hne3 : (Value.slice ad' ln' cap').ownBlock ≠ some N := fun e => by
      rcases hor with h | ⟨g, h, hg⟩
      · have := hvo N (h.symm.trans e); omega
      · rw [e] at h; injection h; omega
    have b3 : Blk W3 N #[.slice ad' ln' cap'] 61 := (hg3.block N (by omega) (fun e => hne3 e.symm)).trans (by rw [hW2]; exact b1.alloc _)
    have e3 := b3.cell 0
    have f3 := b3.frozen 0
    simp only [List.getElem?_toArray, List.getElem?_cons_zero] at e3
    have HO3 := hide ho3
    have HB3 := hide b3
    have HG3 := hide hg3
    have HOB := hide hob
    have HB1 := hide b1
    clear ho ho2 ho3 hg3 hob b1 b3 hN
    gi_wp2_with (refine wpListIn_append_run rfl _ _ _ rfl _ _ _ rfl rfl hr ?_)
    have hs3 := HG3.out.size
    refine ⟨fun k => M k ∨ (Value.slice ad2 ln2 cap2).ownBlock = some k, ⟨fun k hk => ?_, ?_⟩, .inl m1, _, HB3.out.set 0 _, ?_, fun g hg => .inr hg, ?_⟩
    · rcases hk with hk | hk
      · exact ⟨.inl hk, by have := hM k hk; simp; omega⟩
      · refine ⟨?_, by have := (HO3.out.own_lt hk).2; simpa using this⟩
        rcases HOB.out with h | h
        · exact .inl (hom k (h.symm.trans hk))
        · rw [h] at hk; injection hk with hk; exact .inr (by omega)
    · have a1 : Agree (fun k => ¬ M k) W W2 := by rw [hW2]; exact Agree.alloc _ _ _
      have a2 : Agree (fun k => ¬ M k) W2 W3 := ⟨HG3.out.os, HG3.out.tape, HG3.out.output, HG3.out.size, fun k hk hn => HG3.out.block k hk (fun e => hn (hom k e.symm)), hdr⟩
      exact (a1.trans a2).trans (Agree.setCell _ _ _ (fun h => h m1))
    · rw [List.length_append, show n + 2 * (pre.length + [x].length) = n + 2 * pre.length + 2 from by simp; omega, rnB_snoc, ← List.append_assoc]
      refine HO3.out.keep fun g hg => Below.heap_setCell _ _ _ _ ?_
      show g ≠ N
      intro e
      subst e
      rcases HOB.out with h | h
      · exact hne3 (h.symm.trans hg)
      · rw [h] at hg; injection hg; omega
    · rcases HOB.out with h | h
      · rw [h]; exact hor
      · exact .inr ⟨_, h, by omega⟩
  case done =>
    rintro D M' W ⟨m1, v', b1, ho, hom, hor⟩ hF hD hK hn
    have e1 := b1.cell 0
    simp only [List.getElem?_toArray, List.getElem?_cons_zero] at e1
    obtain ⟨ad', ln', cap', rfl⟩ : ∃ ad ln cap, v' = .slice ad ln cap := by
      rcases ho.2 with ⟨rfl, -⟩ | ⟨g, cap, cur, t, rfl, -⟩ <;> exact ⟨_, _, _, rfl⟩
    have HF := hide hF
    have HK := hide hK
    have HO := hide ho
    have HNE := hide hN
    clear hF hK ho hN
    gi_wp2
    refine leave_mark HK.out (results_tmp rfl _ _ _) ⟨_, rfl, ?_, ?_, ?_, Nat.le_trans hdw HF.out.agree.drawn⟩
    · refine HO.out.keep fun g hg => World.putObj_heap_other ?_
      rintro rfl
      exact hn (hom _ hg)
    · have hb : Below N w W0 := HB.out
      refine ⟨HF.out.agree.os.trans hb.os, HF.out.agree.tape.trans hb.tape, HF.out.agree.output.trans hb.output, ?_, fun k hk hne => ?_⟩
      · rw [World.putObj_size]; exact Nat.le_trans hb.size HF.out.agree.size
      · have hk' : k < N := by rw [← HNE.out]; exact hk
        rw [World.putObj_heap_other (by omega), HF.out.agree.block k (by omega) (fun h => by rcases h with h | h; omega; exact hne h.symm), hb.block k hk']
    · rcases hor with h | ⟨g, h, hg⟩
      · exact .inl h
      · exact .inr ⟨g, h, by rw [HNE.out]; omega⟩
  case stop =>
    rintro D c pre M' W hp h
    exact h.elim
theorem appendRuns_any (s : BitVec 256) (v : Value) (n base : Nat) (xs : List Value) (w : World) (hv : OwnU w base v n xs) (hn : n ≤ 1099511627776) (hG : 1 < base) (hbase : base ≤ w.heap.size) (hT : TabAt w) :
    Calls Tryz.prog 81 #[v, SV s] w fun e w' => ∃ v', e = .returned v' ∧ OwnU w' base v' (n + 2 * (runsOf s).length) (xs ++ byteV (rnB (runsOf s))) ∧ w.grownBy w' v.ownBlock ∧ (v'.ownBlock = v.ownBlock ∨ ∃ g, v'.ownBlock = some g ∧ w.heap.size ≤ g) ∧ w.drawn ≤ w'.drawn :=
  callsIn_wide.1 (appendRuns_in s v n base xs w hv hn hG hbase hT)
end Go.Proofs.YtkjmjppmpcnejaaGreatDoor
