/- Texts of this claim put together: ReC, ReD, MathKey, ReE, BudA. -/
import Derived.Test.YtjcfnmjjkadaeaaGreatDoorJoinReB
import Derived.ArgAppend
import Derived.OwnWalkIn
import Derived.Lib.BytesEntry
import Derived.Laws.LoneSync
/- A row of bytes that the call owns, in a block of whatever type: append. appendRuns. -/
namespace Go.Proofs.YtjcfnmjjkadaeaaGreatDoor
set_option maxRecDepth 100000
set_option linter.unusedSimpArgs false
set_option linter.unusedVariables false
open Go.RowKit Go.Shelf
attribute [local go_sem] Oper.semAt_some

/-- v is a slice of the n one-cell values xs in a block of its own at or behind base (or nil). -/
def OwnU (w : World) (base : Nat) (v : Value) (n : Nat) (xs : List Value) : Prop :=
  xs.length = n ∧ ((v = .slice none 0 0 ∧ n = 0) ∨ ∃ g cap cur t, v = .slice (some ⟨g, 0, none⟩) n cap ∧ base ≤ g ∧ Blk w g cur t ∧ n ≤ cap ∧ cap ≤ maxLen ∧ cur.size = cap ∧ cur.toList.take n = xs)
theorem OwnU.keep {w w' : World} {base n : Nat} {v : Value} {xs : List Value} (h : OwnU w base v n xs) (hb : ∀ g, v.ownBlock = some g → w'.heap[g]? = w.heap[g]?) : OwnU w' base v n xs := by
  refine ⟨h.1, ?_⟩
  rcases h.2 with h2 | ⟨g, cap, cur, t, rfl, h2, h3, h4⟩
  · exact .inl h2
  · exact .inr ⟨g, cap, cur, t, rfl, h2, (hb g rfl).trans h3, h4⟩
theorem OwnU.own_lt {w : World} {base n g : Nat} {v : Value} {xs : List Value} (h : OwnU w base v n xs) (e : v.ownBlock = some g) : base ≤ g ∧ g < w.heap.size := by
  rcases h.2 with ⟨rfl, -⟩ | ⟨g', cap, cur, t, rfl, h2, h3, h4⟩
  · cases e
  · simp [Value.ownBlock] at e; subst e; exact ⟨h2, h3.lt⟩
theorem OwnU.cells {w : World} {base n g cap : Nat} {xs : List Value} (h : OwnU w base (.slice (some ⟨g, 0, none⟩) n cap) n xs) : ∀ j u, xs[j]? = some u → w.cell? ⟨g, j, none⟩ = some u := by
  rcases h.2 with ⟨e, -⟩ | ⟨g', cap', cur, t, e, h2, h3, h4, h5, h6, h7⟩
  · cases e
  · cases e
    intro j u hu
    rw [h3.cell, ← hu, ← h7, List.getElem?_take]
    have hj : j < xs.length := (List.getElem?_eq_some_iff.1 hu).1
    rw [if_pos (by rw [h.1] at hj; exact hj)]
    simp

theorem infoU8 : (Tryz.prog.info? 5).map (fun i => (i.zero, i.size, i.bytes)) = some (some (.int .u8 0), 1, 1) := by kernel_rfl

theorem run_appendU (w : World) (ty : TypeId) (base : Nat) (v : Value) (n : Nat) (xs : List Value) (hown : OwnU w base v n xs) (ad : Addr) (m c : Nat) (news : List Value) (hl : news.length = m)
    (hnews : ∀ j u, news[j]? = some u → w.cell? (ad.add j) = some u) (h1 : ∀ u ∈ news, u.oneCell' = true) (hm : 0 < m) (hbytes : n + m ≤ 140737488355328) (hbase : base ≤ w.heap.size) :
    ∃ v' w', (Builtin.append_ #[38, 38] ty #[v, .slice (some ad) m c]).run Tryz.prog w = .ok v' w' ∧ OwnU w' base v' (n + m) (xs ++ news) ∧ w.grownBy w' v.ownBlock ∧ (v'.ownBlock = v.ownBlock ∨ v'.ownBlock = some w.heap.size) ∧ w.drawn ≤ w'.drawn := by
  obtain ⟨i, hi, hz0, hz1, hz2⟩ := info_parts infoU8
  have hlen : (xs ++ news).length = n + m := by rw [List.length_append, hown.1, hl]
  have hml : n + m ≤ maxLen := by unfold maxLen; omega
  have grown : ∀ old, OwnU (w.drew.alloc (.cells (xs.toArray ++ news.toArray ++ Builtin.zeroCells (Value.int .u8 0).cells (grownCap w (n + m) old 5 - (n + m))) 5)) base
        (.slice (some ⟨w.heap.size, 0, none⟩) (n + m) (grownCap w (n + m) old 5)) (n + m) (xs ++ news) := by
    intro old
    have hge := grownCap_ge w (n + m) old 5
    have hcm : grownCap w (n + m) old 5 ≤ maxLen := grownCap_le_maxLen w (n + m) old _ hml
    refine ⟨hlen, .inr ⟨w.heap.size, _, _, _, rfl, hbase, heap_alloc_new w.drew _, hge, hcm, ?_, ?_⟩⟩
    · simp only [Array.size_append, List.size_toArray, size_zeroCells, hown.1, hl]
      simp [Value.cells]; omega
    · simp only [Array.toList_append, List.append_assoc]
      rw [← List.append_assoc, ← hlen]
      exact List.take_left
  have gb : ∀ o row, w.grownBy (w.drew.alloc o) row := fun o row => ⟨rfl, rfl, rfl, by simp, fun k hk _ => heap_alloc_old w.drew _ hk⟩
  rcases hown.2 with ⟨rfl, rfl⟩ | ⟨g, cap, cur, t, rfl, hbg, hg, hnc, hcm, hcs, htake⟩
  · have hx : xs = [] := List.eq_nil_of_length_eq_zero (by simpa using hown.1)
    subst hx
    have hr := run_append_nil (P := Tryz.prog) w 38 ty 5 i (.int .u8 0) Tryz.underlying38 hi hz0 ad m c news (by rw [hz1]; omega) hnews (by omega) (by omega) (by rw [hz2]; simp at hbytes; omega)
    have hgr := grown 0
    simp only [Nat.zero_add, List.nil_append, Array.empty_append] at hgr ⊢
    exact ⟨_, _, hr, hgr, gb _ _, Or.inr rfl, Nat.le_succ _⟩
  · by_cases hroom : n + m ≤ cap
    · have hfit : n * i.size + news.length ≤ cur.size := by rw [hl, hcs, hz1]; omega
      have hf := run_firstCells_some (P := Tryz.prog) w i.size m ad m c news (by rw [hz1]; omega) hnews
      have hst := run_storeCells_at Tryz.prog g (n * i.size) t news 0 cur w hg (by simpa using hfit) h1
      simp only [Nat.add_zero] at hst
      have hr : (Builtin.append_ #[38, 38] ty #[.slice (some ⟨g, 0, none⟩) n cap, .slice (some ad) m c]).run Tryz.prog w = .ok (.slice (some ⟨g, 0, none⟩) (n + m) cap) (w.setRow g (cur.toList.take (n * i.size) ++ news ++ cur.toList.drop (n * i.size + news.length)).toArray) := by
        simp [Builtin.append_, run_underlying Tryz.underlying38, sizeOf, typeInfo, hi, Builtin.lenOf, hroom, hf, Addr.add_lit, hst]
      refine ⟨_, _, hr, ⟨hlen, .inr ⟨g, cap, _, t, rfl, hbg, setRow_heap w g cur _ t _ hg, hroom, hcm, ?_, ?_⟩⟩, ⟨rfl, rfl, rfl, by simp, fun k _ hk => setRow_other w g k _ (fun e => hk (by simp [Value.ownBlock, e]))⟩, Or.inl rfl, Nat.le_refl _⟩
      · simp only [List.size_toArray, List.length_append, List.length_take, List.length_drop, Array.length_toList, hz1]
        omega
      · rw [hz1, Nat.mul_one, htake, ← hlen]
        exact List.take_left
    · have holds : ∀ j u, xs[j]? = some u → w.cell? ((⟨g, 0, none⟩ : Addr).add j) = some u := fun j u hu => by
        rw [Go.WideShapes.add_plain, Nat.zero_add]; exact hown.cells j u hu
      have hr := run_append_grow (P := Tryz.prog) w 38 ty 5 i (.int .u8 0) Tryz.underlying38 hi hz0 ⟨g, 0, none⟩ n cap xs (by rw [hz1, hown.1]; omega) holds ad m c news (by rw [hz1]; omega) hnews (by omega) (by omega) (by rw [hz2]; exact growslice_fits (by omega) (by omega))
      exact ⟨_, _, hr, grown cap, gb _ _, Or.inr rfl, Nat.le_succ _⟩

/-- append whose run is known, in the fenced layer. -/
theorem wpListIn_append_run {F : Fence} {n : Nat} {w w' : World} {ops : Array Oper} {rest : List Oper} {o : Oper} {a : Act} {Q : Exit → Act → World → Prop} (hg : o.guard = none) (s x : Operand) (t : TypeId)
    (hop : o.op = Op.call { callee := Callee.builtin Builtin.append, args := #[s, x], argTypes := #[t, t] }) (v u v' : Value) (hs : a.eval s = v) (hx : a.eval x = u)
    (hrun : (Builtin.append_ #[t, t] o.type #[v, u]).run Tryz.prog w = .ok v' w') (hK : wpListIn F n Tryz.prog ops Q rest (a.put o.dst v') w') : wpListIn F n Tryz.prog ops Q (o :: rest) a w := by
  refine wpListIn_plain hg fun K hK' => ?_
  unfold Oper.wpIn
  refine ⟨?_, ?_⟩
  · simp [Oper.about, hop, resolve, Target.leads, Sem.run_pure]
  · rw [Oper.semAt_plain F _ _ (by rw [hop]; intro c hc'; cases hc')]
    simp [execOp, hop, resolve, invoke, builtin, hs, hx, hrun, Result.andThen]
    exact hK' _ _ hK

/-- The bytes of a set's runs. -/
def rnB (l : List (Nat × Nat)) : List Nat := l.flatMap fun r => [r.1, r.2]
def byteV (l : List Nat) : List Value := l.map fun x : Nat => Value.int .u8 (x : Int)
theorem rnB_snoc (l : List (Nat × Nat)) (x : Nat × Nat) : byteV (rnB (l ++ [x])) = byteV (rnB l) ++ [.int .u8 x.1, .int .u8 x.2] := by simp [byteV, rnB]
theorem rnB_length (l : List (Nat × Nat)) : (rnB l).length = 2 * l.length := by
  induction l with
  | nil => rfl
  | cons a l ih => simp [rnB] at *; omega

theorem runStep_len (st : List (Nat × Nat) × Option (Nat × Nat)) (b : Nat) : (runStep st b).1.length + (runStep st b).2.toList.length ≤ st.1.length + st.2.toList.length + 1 := by
  obtain ⟨em, cur⟩ := st
  cases cur with
  | none => simp [runStep]
  | some r =>
    obtain ⟨f, l⟩ := r
    simp only [runStep]
    split <;> simp
theorem foldl_runStep_len : ∀ (l : List Nat) (st : List (Nat × Nat) × Option (Nat × Nat)), (l.foldl runStep st).1.length + (l.foldl runStep st).2.toList.length ≤ st.1.length + st.2.toList.length + l.length
  | [], st => by simp
  | b :: l, st => by
    have h1 := foldl_runStep_len l (runStep st b)
    have h2 := runStep_len st b
    simp only [List.foldl_cons, List.length_cons]
    omega
theorem runs_le (s : BitVec 256) : (runsOf s).length ≤ 256 := by
  have h1 := foldl_runStep_len (bytesOf s) ([], none)
  have h2 := bytesOf_le s
  unfold runsOf runsL runSt
  rw [List.length_append]
  simp at h1
  omega

set_option maxHeartbeats 1000000 in
theorem appendRuns_in (s : BitVec 256) (v : Value) (n base : Nat) (xs : List Value) (w : World) (hv : OwnU w base v n xs) (hn : n ≤ 1099511627776) (hG : 0 < base) (hbase : base ≤ w.heap.size) (hT : TabAt w) :
    CallsIn Fence.wide 0 Tryz.prog 109 #[v, SV s] w fun e w' => ∃ v', e = .returned v' ∧ OwnU w' base v' (n + 2 * (runsOf s).length) (xs ++ byteV (rnB (runsOf s))) ∧ w.grownBy w' v.ownBlock ∧ (v'.ownBlock = v.ownBlock ∨ ∃ g, v'.ownBlock = some g ∧ w.heap.size ≤ g) ∧ w.drawn ≤ w'.drawn := by
  obtain ⟨ad, ln, cap, rfl⟩ : ∃ ad ln cap, v = .slice ad ln cap := by
    rcases hv.2 with ⟨rfl, -⟩ | ⟨g, cap, cur, t, rfl, -⟩ <;> exact ⟨_, _, _, rfl⟩
  refine callsIn_of_wp_marks Tryz.func109 rfl trivial ?_ rfl
  simp only [Tryz.ntmps109, List.size_toArray, List.length_nil, List.length_cons, Nat.reduceSub, Nat.reduceAdd, Array.replicate_succ, Array.replicate_zero, List.push_toArray, List.append_toArray, List.nil_append, List.cons_append]
  gi_wp2_with fail
  refine ⟨trivial, rfl, ?_⟩
  refine (callsIn_wide.2 (runs_any s _)).mono ?_
  rintro e w5 ⟨rfl, rfl⟩
  gi_wp2
  refine wpIn_world (fun W => Blk W w.heap.size #[.slice ad ln cap] 38 ∧ Blk W (w.heap.size + 1) (WS s) 89 ∧ Blk W (w.heap.size + 2) (WS s) 89 ∧ Below w.heap.size w W ∧ w.drawn ≤ W.drawn) ⟨?_, ?_, ?_, ?_, ?_⟩ ?_
  · exact ((Blk.newAt rfl _ _).alloc _).alloc _
  · exact (Blk.newAt (by simp) _ _).alloc _
  · exact Blk.newAt (by simp) _ _
  · exact (((Below.refl _ _).alloc (Nat.le_refl _) _).alloc (by simp) _).alloc (by simp; omega) _
  · exact Nat.le_refl _
  rintro W0 ⟨k0, k1, k2, hbel, hdw⟩
  have hT0 : TabAt W0 := hT.agree (Agree.of_all (K := fun _ => True) hbel) trivial
  have HT := hide hT0
  have HB := hide hbel
  have zk := k2.lt
  have hv0 : OwnU W0 base (.slice ad ln cap) n xs := hv.keep fun g hg => hbel.block g (hv.own_lt hg).2
  have hvo : ∀ g, (Value.slice ad ln cap).ownBlock = some g → base ≤ g ∧ g < w.heap.size := fun g hg => hv.own_lt hg
  have hr256 := runs_le s
  clear hT hT0 hbel hv
  generalize hN : w.heap.size = N at *
  refine wpIn_rangeM (gf := 158) (lb := #[.pointer (some ⟨N + 1 + 1, 0, none⟩)]) rfl enters_runs (encs := fun x : Nat × Nat => #[.int .u8 x.1, .int .u8 x.2]) (xs := runsOf s)
    (own := fun k => k = N + 2 ∨ k = 0)
    (fun W1 hb => runs1_any s _ W1 (k2.below hb zk) (HT.out.agree (Agree.of_all (K := fun _ => True) hb) trivial)) (fun _ => rfl)
    (fun pre M W => M N ∧ ∃ v', Blk W N #[v'] 38 ∧ OwnU W base v' (n + 2 * pre.length) (xs ++ byteV (rnB pre)) ∧ (∀ g, v'.ownBlock = some g → M g) ∧ (v'.ownBlock = (Value.slice ad ln cap).ownBlock ∨ ∃ g, v'.ownBlock = some g ∧ N < g))
    (fun _ _ _ _ => False)
    (fun _ M A B h ha => ⟨h.1, h.2.choose, h.2.choose_spec.1.agree ha h.1, h.2.choose_spec.2.1.keep (fun g hg => ha.block g (h.2.choose_spec.2.1.own_lt hg).2 (h.2.choose_spec.2.2.1 g hg)), h.2.choose_spec.2.2⟩)
    (fun _ _ M A B h ha => h)
    (fun k => k = N ∨ (Value.slice ad ln cap).ownBlock = some k) (fun k hk => by rcases hk with rfl | hk; exact k0.lt; have := hvo k hk; omega)
    (fun k hk => by
      rcases hk with rfl | rfl
      · exact ⟨fun h => by rcases h with h | h; omega; have := hvo _ h; omega, zk⟩
      · exact ⟨fun h => by rcases h with h | h; omega; have := hvo _ h; omega, by omega⟩)
    ⟨.inl rfl, _, k0, by simpa [byteV, rnB] using hv0, fun g hg => .inr hg, .inl rfl⟩
    (fun x => { tmps := #[.slice ad ln cap, SV s, .pointer (some ⟨N, 0, none⟩), .pointer (some ⟨N + 1, 0, none⟩), .slice none 0 0, .int .u8 x.1, .int .u8 x.2, SV s, .func (.func 158) #[] #[.pointer (some ⟨N + 1 + 1, 0, none⟩)],
        .int .u8 x.1, .int .u8 x.2, undef, undef, undef, undef, undef, undef], defers := [] }) ?assign ?body ?done ?stop
  case assign =>
    intro l x W K hK
    gi_wp2
    exact hK
  case body =>
    rintro l pre x M W hpre ⟨m1, v', b1, ho, hom, hor⟩ hM
    have hpl : pre.length < (runsOf s).length := by have := hpre.length_le; simp at this; omega
    have hNW := b1.lt
    have e1 := b1.cell 0
    have f1 := b1.frozen 0
    simp only [List.getElem?_toArray, List.getElem?_cons_zero] at e1
    obtain ⟨W2, hW2⟩ : ∃ W2, W2 = W.alloc (.cells #[.int .u8 x.1, .int .u8 x.2] 5) := ⟨_, rfl⟩
    have kn : Blk W2 W.heap.size #[.int .u8 x.1, .int .u8 x.2] 5 := by rw [hW2]; exact Blk.newAt rfl _ _
    have ho2 : OwnU W2 base v' (n + 2 * pre.length) (xs ++ byteV (rnB pre)) := ho.keep fun g hg => by rw [hW2]; exact Below.heap_alloc _ _ _ (ho.own_lt hg).2
    have hsz2 : W2.heap.size = W.heap.size + 1 := by rw [hW2]; simp
    obtain ⟨v2, W3, hr, ho3, hg3, hob, hdr⟩ := run_appendU W2 38 base v' _ _ ho2 ⟨W.heap.size, 0, none⟩ 2 2 [.int .u8 x.1, .int .u8 x.2] rfl (World.news_of_block kn) (by intro u hu; simp at hu; rcases hu with rfl | rfl <;> rfl) (by omega) (by omega) (by omega)
    obtain ⟨ad', ln', cap', rfl⟩ : ∃ ad ln cap, v' = .slice ad ln cap := by
      rcases ho.2 with ⟨rfl, -⟩ | ⟨g, cap, cur, t, rfl, -⟩ <;> exact ⟨_, _, _, rfl⟩
    obtain ⟨ad2, ln2, cap2, rfl⟩ : ∃ ad ln cap, v2 = .slice ad ln cap := by
      rcases ho3.2 with ⟨rfl, -⟩ | ⟨g, cap, cur, t, rfl, -⟩ <;> exact ⟨_, _, _, rfl⟩
    rw [hW2] at hr
    have hne3 : (Value.slice ad' ln' cap').ownBlock ≠ some N := fun e => by
      rcases hor with h | ⟨g, h, hg⟩
      · have := hvo N (h.symm.trans e); omega
      · rw [e] at h; injection h; omega
    have b3 : Blk W3 N #[.slice ad' ln' cap'] 38 := (hg3.block N (by omega) (fun e => hne3 e.symm)).trans (by rw [hW2]; exact b1.alloc _)
    have e3 := b3.cell 0
    have f3 := b3.frozen 0
    simp only [List.getElem?_toArray, List.getElem?_cons_zero] at e3
    have HO3 := hide ho3
    have HB3 := hide b3
    have HG3 := hide hg3
    have HOB := hide hob
    have HB1 := hide b1
    clear ho ho2 ho3 hg3 hob b1 b3 hN
    gi_wp2_with (refine wpListIn_append_run rfl _ _ _ rfl _ _ _ rfl rfl hr ?_)
    have hs3 := HG3.out.size
    refine ⟨fun k => M k ∨ (Value.slice ad2 ln2 cap2).ownBlock = some k, ⟨fun k hk => ?_, ?_⟩, .inl m1, _, HB3.out.set 0 _, ?_, fun g hg => .inr hg, ?_⟩
    · rcases hk with hk | hk
      · exact ⟨.inl hk, by have := hM k hk; simp; omega⟩
      · refine ⟨?_, by have := (HO3.out.own_lt hk).2; simpa using this⟩
        rcases HOB.out with h | h
        · exact .inl (hom k (h.symm.trans hk))
        · rw [h] at hk; injection hk with hk; exact .inr (by omega)
    · have a1 : Agree (fun k => ¬ M k) W W2 := by rw [hW2]; exact Agree.alloc _ _ _
      have a2 : Agree (fun k => ¬ M k) W2 W3 := ⟨HG3.out.os, HG3.out.tape, HG3.out.output, HG3.out.size, fun k hk hn => HG3.out.block k hk (fun e => hn (hom k e.symm)), hdr⟩
      exact (a1.trans a2).trans (Agree.setCell _ _ _ (fun h => h m1))
    · rw [List.length_append, show n + 2 * (pre.length + [x].length) = n + 2 * pre.length + 2 from by simp; omega, rnB_snoc, ← List.append_assoc]
      refine HO3.out.keep fun g hg => Below.heap_setCell _ _ _ _ ?_
      show g ≠ N
      intro e
      subst e
      rcases HOB.out with h | h
      · exact hne3 (h.symm.trans hg)
      · rw [h] at hg; injection hg; omega
    · rcases HOB.out with h | h
      · rw [h]; exact hor
      · exact .inr ⟨_, h, by omega⟩
  case done =>
    rintro D M' W ⟨m1, v', b1, ho, hom, hor⟩ hF hD hK hn
    have e1 := b1.cell 0
    simp only [List.getElem?_toArray, List.getElem?_cons_zero] at e1
    obtain ⟨ad', ln', cap', rfl⟩ : ∃ ad ln cap, v' = .slice ad ln cap := by
      rcases ho.2 with ⟨rfl, -⟩ | ⟨g, cap, cur, t, rfl, -⟩ <;> exact ⟨_, _, _, rfl⟩
    have HF := hide hF
    have HK := hide hK
    have HO := hide ho
    have HNE := hide hN
    clear hF hK ho hN
    gi_wp2
    refine leave_mark HK.out (results_tmp rfl _ _ _) ⟨_, rfl, ?_, ?_, ?_, Nat.le_trans hdw HF.out.agree.drawn⟩
    · refine HO.out.keep fun g hg => World.putObj_heap_other ?_
      rintro rfl
      exact hn (hom _ hg)
    · have hb : Below N w W0 := HB.out
      refine ⟨HF.out.agree.os.trans hb.os, HF.out.agree.tape.trans hb.tape, HF.out.agree.output.trans hb.output, ?_, fun k hk hne => ?_⟩
      · rw [World.putObj_size]; exact Nat.le_trans hb.size HF.out.agree.size
      · have hk' : k < N := by rw [← HNE.out]; exact hk
        rw [World.putObj_heap_other (by omega), HF.out.agree.block k (by omega) (fun h => by rcases h with h | h; omega; exact hne h.symm), hb.block k hk']
    · rcases hor with h | ⟨g, h, hg⟩
      · exact .inl h
      · exact .inr ⟨g, h, by rw [HNE.out]; omega⟩
  case stop =>
    rintro D c pre M' W hp h
    exact h.elim
theorem appendRuns_any (s : BitVec 256) (v : Value) (n base : Nat) (xs : List Value) (w : World) (hv : OwnU w base v n xs) (hn : n ≤ 1099511627776) (hG : 0 < base) (hbase : base ≤ w.heap.size) (hT : TabAt w) :
    Calls Tryz.prog 109 #[v, SV s] w fun e w' => ∃ v', e = .returned v' ∧ OwnU w' base v' (n + 2 * (runsOf s).length) (xs ++ byteV (rnB (runsOf s))) ∧ w.grownBy w' v.ownBlock ∧ (v'.ownBlock = v.ownBlock ∨ ∃ g, v'.ownBlock = some g ∧ w.heap.size ≤ g) ∧ w.drawn ≤ w'.drawn :=
  callsIn_wide.1 (appendRuns_in s v n base xs w hv hn hG hbase hT)
end Go.Proofs.YtjcfnmjjkadaeaaGreatDoor
/- bytes.Compare; compareSets. -/
namespace Go.Proofs.YtjcfnmjjkadaeaaGreatDoor
set_option maxRecDepth 100000
set_option linter.unusedSimpArgs false
set_option linter.unusedVariables false
open Go.RowKit

/-- How two lists of numbers compare. -/
def lexN : List Nat → List Nat → Int
  | [], [] => 0
  | [], _ :: _ => -1
  | _ :: _, [] => 1
  | a :: ar, b :: br => if a < b then -1 else if b < a then 1 else lexN ar br
theorem lex_bytes : ∀ (a b : List Nat), (∀ x ∈ a, x < 256) → (∀ x ∈ b, x < 256) → Lib.compareBytes (Lib.bytesOf (a.map fun x : Nat => (x : Int))) (Lib.bytesOf (b.map fun x : Nat => (x : Int))) = lexN a b
  | [], [], _, _ => rfl
  | [], _ :: _, _, _ => rfl
  | _ :: _, [], _, _ => rfl
  | a :: ar, b :: br, ha, hb => by
    have ih := lex_bytes ar br (fun x hx => ha x (by simp [hx])) (fun x hx => hb x (by simp [hx]))
    have h1 := ha a (by simp)
    have h2 := hb b (by simp)
    simp only [Lib.bytesOf, List.map_cons, Lib.compareBytes, lexN] at ih ⊢
    have e1 : (((a : Int).toNat.toUInt8 < (b : Int).toNat.toUInt8)) ↔ a < b := by
      rw [UInt8.lt_iff_toNat_lt]; simp; omega
    have e2 : (((b : Int).toNat.toUInt8 < (a : Int).toNat.toUInt8)) ↔ b < a := by
      rw [UInt8.lt_iff_toNat_lt]; simp; omega
    simp only [e1, e2, ih]

/-- A slice of bytes. -/
def BytesAt (w : World) (v : Value) (l : List Nat) : Prop :=
  ∃ a cap, v = .slice a l.length cap ∧ (a = none → l = []) ∧ ∀ ad, a = some ad → ∀ (j : Nat) (x : Nat), l[j]? = some x → w.cell? (ad.add j) = some (.int .u8 x)
theorem BytesAt.of_own {w : World} {base n : Nat} {v : Value} {l : List Nat} (h : OwnU w base v n (byteV l)) : BytesAt w v l := by
  have hl : l.length = n := by have := h.1; simpa [byteV] using this
  rcases h.2 with ⟨rfl, hn⟩ | ⟨g, cap, cur, t, rfl, -⟩
  · subst hn
    have : l = [] := List.eq_nil_of_length_eq_zero hl
    subst this
    exact ⟨none, 0, rfl, fun _ => rfl, fun ad hd => by cases hd⟩
  · refine ⟨some ⟨g, 0, none⟩, cap, by rw [hl], (fun h => by cases h), fun ad hd j x hx => ?_⟩
    cases hd
    rw [Go.WideShapes.add_plain, Nat.zero_add]
    exact h.cells j _ (by simp [byteV, hx])
theorem run_bytesAt {w : World} {v : Value} {l : List Nat} (h : BytesAt w v l) : (Extern.Bytes.bytesOf v).run Tryz.prog w = .ok ⟨(Lib.bytesOf (l.map fun x : Nat => (x : Int))).toArray⟩ w := by
  obtain ⟨a, cap, rfl, h1, h2⟩ := h
  cases a with
  | none =>
    have := h1 rfl
    subst this
    simp [Extern.Bytes.bytesOf, Lib.bytesOf]
    rfl
  | some ad =>
    have hl := Lib.run_loadBytesX (P := Tryz.prog) w (l.map fun x : Nat => (x : Int)) ad .empty (fun j x hj => by
      rw [List.getElem?_map] at hj
      cases e : l[j]? with
      | none => rw [e] at hj; cases hj
      | some y => rw [e] at hj; cases hj; exact h2 ad rfl j y e)
    rw [List.length_map] at hl
    simp only [Extern.Bytes.bytesOf, hl]
    congr 1
    apply ByteArray.ext
    simp
theorem bytesCompare_any (a b : List Nat) (va vb : Value) (w : World) (ha : BytesAt w va a) (hb : BytesAt w vb b) (h1 : ∀ x ∈ a, x < 256) (h2 : ∀ x ∈ b, x < 256) :
    Calls Tryz.prog 156 #[va, vb] w fun e w' => e = .returned (.int .i64 (lexN a b)) ∧ w' = w := by
  have hx : (Extern.BytealgCompare.compare #[va, vb]).run Tryz.prog w = .ok (.int .i64 (lexN a b)) w := by
    change Sem.run Tryz.prog (do pure (goInt (Extern.BytealgCompare.cmp (← Extern.Bytes.bytesOf va) (← Extern.Bytes.bytesOf vb)))) w = _
    simp only [Sem.run_bind, run_bytesAt ha, run_bytesAt hb, Sem.run_pure, Result.andThen]
    rw [Lib.cmp_eq, lex_bytes a b h1 h2]
    rfl
  go_enter Tryz.func156, Tryz.ntmps156
  go_wp2
  rw [run_callFunc_extern Tryz.func185 (by kernel_rfl) (by kernel_rfl) (by kernel_rfl) (e := Extern.BytealgCompare.compare) (by kernel_rfl), hx]
  simp only [Result.andThen]
  rw [Oper.upon_value]
  go_wp2
  go_ret
  exact ⟨rfl, rfl⟩

/-- How two numbers compare. -/
def cmpN (x y : Nat) : Int := if x < y then -1 else if y < x then 1 else 0
theorem compareOp_any (x y : Nat) (w : World) :
    Calls Tryz.prog 129 #[.int .i64 x, .int .i64 y] w fun e w' => e = .returned (.int .i64 (cmpN x y)) ∧ w' = w := by
  go_enter Tryz.func129, Tryz.ntmps129
  go_wp2
  all_goals
    go_ret
    refine ⟨?_, rfl⟩
    unfold cmpN
    repeat' split
    all_goals first | rfl | omega

theorem foldl_runStep_all (p : Nat → Prop) : ∀ (l : List Nat) (st : List (Nat × Nat) × Option (Nat × Nat)), (∀ x ∈ l, p x) → (∀ r ∈ st.1 ++ st.2.toList, p r.1 ∧ p r.2) → ∀ r ∈ (l.foldl runStep st).1 ++ (l.foldl runStep st).2.toList, p r.1 ∧ p r.2
  | [], st, _, h => h
  | b :: l, (em, cur), hl, h => by
    refine foldl_runStep_all p l _ (fun x hx => hl x (by simp [hx])) ?_
    have hb := hl b (by simp)
    cases cur with
    | none =>
      intro r hr
      simp [runStep] at hr
      rcases hr with hr | rfl
      · exact h r (by simp [hr])
      · exact ⟨hb, hb⟩
    | some q =>
      obtain ⟨f, la⟩ := q
      have hq := h (f, la) (by simp)
      intro r hr
      simp only [runStep] at hr
      split at hr
      · simp at hr
        rcases hr with hr | rfl
        · exact h r (by simp [hr])
        · exact ⟨hq.1, hb⟩
      · simp at hr
        rcases hr with hr | rfl | rfl
        · exact h r (by simp [hr])
        · exact hq
        · exact ⟨hb, hb⟩
theorem rnB_lt (s : BitVec 256) : ∀ x ∈ rnB (runsOf s), x < 256 := by
  intro x hx
  simp only [rnB, List.mem_flatMap] at hx
  obtain ⟨r, hr, hx⟩ := hx
  have := foldl_runStep_all (fun x => x < 256) (bytesOf s) ([], none) (fun x hx => bytesOf_lt s x hx) (by simp) r hr
  simp at hx
  rcases hx with rfl | rfl
  · exact this.1
  · exact this.2
def z16 : Array Value := #[.int .u8 0, .int .u8 0, .int .u8 0, .int .u8 0, .int .u8 0, .int .u8 0, .int .u8 0, .int .u8 0, .int .u8 0, .int .u8 0, .int .u8 0, .int .u8 0, .int .u8 0, .int .u8 0, .int .u8 0, .int .u8 0]
theorem x_slice16 (ρ : Operand → Value) (d : Option Tmp) (x : Operand) (ty : TypeId) (pos : String) (af : Array Edge) (g : Option (Nat × Bool)) (b : Nat) (hx : ρ x = PT b) (hc : ρ (.const (.int .i64 0)) = .int .i64 0) (w : World) :
    (execOp ρ { dst := d, op := .slice 208 x none (some (.const (.int .i64 0))) none, type := ty, pos := pos, after := af, guard := g }).run Tryz.prog w = .ok (.value (.slice (some ⟨b, 0, none⟩) 0 16)) w := by
  simp [go_sem, hx, hc, PT]
theorem own16 {W : World} {N b : Nat} (h : Blk W b z16 208) (hN : N ≤ b) : OwnU W N (.slice (some ⟨b, 0, none⟩) 0 16) 0 [] :=
  ⟨rfl, .inr ⟨b, 16, z16, _, rfl, hN, h, by omega, by unfold maxLen; omega, rfl, rfl⟩⟩

set_option maxHeartbeats 1000000 in
theorem compareSets_any (s t : BitVec 256) (w : World) (hT : TabAt w) :
    Calls Tryz.prog 130 #[SV s, SV t] w fun e w' => e = .returned (.int .i64 (lexN (rnB (runsOf s)) (rnB (runsOf t)))) ∧ Below w.heap.size w w' ∧ w.drawn ≤ w'.drawn := by
  have HT := hide hT
  clear hT
  go_enter Tryz.func130, Tryz.ntmps130
  go_wp2
  have hG : 0 < w.heap.size := World.block_lt_of_cell? _ _ (HT.out 0 (by omega))
  obtain ⟨N, hN⟩ : ∃ N, N = w.heap.size := ⟨_, rfl⟩
  rw [← hN] at hG ⊢
  refine wp_world (fun W => (Blk W N (WS s) 89 ∧ Blk W (N + 1) (WS t) 89) ∧ (Blk W (N + 2) z16 208 ∧ Blk W (N + 3) z16 208) ∧ Below N w W ∧ w.drawn ≤ W.drawn) ⟨⟨?_, ?_⟩, ⟨?_, ?_⟩, ?_, ?_⟩ ?_
  · exact (((Blk.newAt hN _ _).alloc _).alloc _).alloc _
  · exact ((Blk.newAt (by simp [hN]) _ _).alloc _).alloc _
  · exact (Blk.newAt (by simp [hN]) _ _).alloc _
  · exact Blk.newAt (by simp [hN]) _ _
  · exact ((((Below.refl N w).alloc (Nat.le_of_eq hN) _).alloc (by simp; omega) _).alloc (by simp; omega) _).alloc (by simp; omega) _
  · exact Nat.le_refl _
  rintro W0 ⟨⟨k0, k1⟩, ⟨k2, k3⟩, hbel, hdr⟩
  obtain ⟨S, hSd⟩ : ∃ S : World → Prop, S = fun W => Blk W N (WS s) 89 ∧ Blk W (N + 1) (WS t) 89 ∧ Below N w W ∧ w.drawn ≤ W.drawn := ⟨_, rfl⟩
  have hS0 : ∀ W, S W → Blk W N (WS s) 89 := fun W h => by rw [hSd] at h; exact h.1
  have hS1 : ∀ W, S W → Blk W (N + 1) (WS t) 89 := fun W h => by rw [hSd] at h; exact h.2.1
  have hSb : ∀ W, S W → Below N w W := fun W h => by rw [hSd] at h; exact h.2.2.1
  have hSw : ∀ W, S W → w.drawn ≤ W.drawn := fun W h => by rw [hSd] at h; exact h.2.2.2
  have hSg : ∀ W W' b, N + 2 ≤ b → S W → W.grownBy W' (some b) → W.drawn ≤ W'.drawn → S W' := fun W W' b hb h hg hd => by
    rw [hSd] at h ⊢
    have hz := h.2.1.lt
    refine ⟨(hg.block N (by omega) (by simp; omega)).trans h.1, (hg.block (N + 1) hz (by simp; omega)).trans h.2.1, ⟨hg.os.trans h.2.2.1.os, hg.tape.trans h.2.2.1.tape, hg.output.trans h.2.2.1.output, Nat.le_trans h.2.2.1.size hg.size, fun k hk => (hg.block k (by omega) (by simp; omega)).trans (h.2.2.1.block k hk)⟩, Nat.le_trans h.2.2.2 hd⟩
  have hS : S { W0 with drawn := W0.drawn + 1 } := by
    rw [hSd]
    exact ⟨k0, k1, ⟨hbel.os, hbel.tape, hbel.output, hbel.size, hbel.block⟩, Nat.le_trans hdr (Nat.le_succ _)⟩
  have hSt : ∀ W, S W → TabAt W := fun W h => HT.out.agree (Agree.of_all (K := fun _ => True) (hN ▸ hSb W h)) trivial
  have j2 : Blk { W0 with drawn := W0.drawn + 1 } (N + 2) z16 208 := k2
  have j3 : Blk { W0 with drawn := W0.drawn + 1 } (N + 3) z16 208 := k3
  clear hSd k0 k1 k2 k3 hbel hdr
  refine wp_region_noPanic (wp_region_held (S := S) (by kernel_rfl) ?_)
  show wpAnyH _ _ _ _ _ 8 #[false, false, false, false, false, false, false, false] _ _
  generalize ({ W0 with drawn := W0.drawn + 1 } : World) = W at hS j2 j3 ⊢
  refine h_take 0 (.slice (some ⟨N + 2, 0, none⟩) 0 16) rfl (by kernel_rfl) (by kernel_rfl) (by kernel_rfl) rfl (fun w hw => x_slice16 _ _ _ _ _ _ _ _ rfl rfl w) hS ?_
  simp only [Act.put, List.setIfInBounds_toArray, List.set_cons_succ, List.set_cons_zero]
  refine h_take 1 (SV s) rfl (by kernel_rfl) (by kernel_rfl) (by kernel_rfl) rfl (fun w hw => x_loadSet _ _ _ _ _ _ _ _ s rfl w (hS0 w hw)) hS ?_
  simp only [Act.put, List.setIfInBounds_toArray, List.set_cons_succ, List.set_cons_zero]
  refine h_take 3 (.slice (some ⟨N + 3, 0, none⟩) 0 16) rfl (by kernel_rfl) (by kernel_rfl) (by kernel_rfl) rfl (fun w hw => x_slice16 _ _ _ _ _ _ _ _ rfl rfl w) hS ?_
  simp only [Act.put, List.setIfInBounds_toArray, List.set_cons_succ, List.set_cons_zero]
  refine h_take 4 (SV t) rfl (by kernel_rfl) (by kernel_rfl) (by kernel_rfl) rfl (fun w hw => x_loadSet _ _ _ _ _ _ _ _ t rfl w (hS1 w hw)) hS ?_
  simp only [Act.put, List.setIfInBounds_toArray, List.set_cons_succ, List.set_cons_zero]
  have z3 := j3.lt
  refine h_callE 2 109 #[.slice (some ⟨N + 2, 0, none⟩) 0 16, SV s] (fun v w' => OwnU w' N v (0 + 2 * (runsOf s).length) ([] ++ byteV (rnB (runsOf s))) ∧ W.grownBy w' (some (N + 2)) ∧ (v.ownBlock = some (N + 2) ∨ ∃ g, v.ownBlock = some g ∧ W.heap.size ≤ g) ∧ W.drawn ≤ w'.drawn) rfl (by kernel_rfl) rfl
    (x_call2 _ _ _ _ _ _ _ _ _ _ _ _ _ rfl rfl rfl (enters_of Tryz.func109 (by kernel_rfl) rfl) _) ((appendRuns_any s _ 0 N [] W (own16 j2 (by omega)) (by omega) hG (by omega) (hSt W hS)).mono fun e w' h => h) (fun v w' h => hSg W w' _ (by omega) hS h.2.1 h.2.2.2) ?_
  rintro v1 W1 ⟨o1, g1, b1, d1⟩
  simp only [Act.put, List.setIfInBounds_toArray, List.set_cons_succ, List.set_cons_zero]
  have hS' := hSg W W1 _ (by omega) hS g1 d1
  have j3' : Blk W1 (N + 3) z16 208 := (g1.block (N + 3) z3 (by simp)).trans j3
  have z3' := j3'.lt
  refine h_callE 5 109 #[.slice (some ⟨N + 3, 0, none⟩) 0 16, SV t] (fun v w' => OwnU w' N v (0 + 2 * (runsOf t).length) ([] ++ byteV (rnB (runsOf t))) ∧ W1.grownBy w' (some (N + 3)) ∧ (v.ownBlock = some (N + 3) ∨ ∃ g, v.ownBlock = some g ∧ W1.heap.size ≤ g) ∧ W1.drawn ≤ w'.drawn) rfl (by kernel_rfl) rfl
    (x_call2 _ _ _ _ _ _ _ _ _ _ _ _ _ rfl rfl rfl (enters_of Tryz.func109 (by kernel_rfl) rfl) _) ((appendRuns_any t _ 0 N [] W1 (own16 j3' (by omega)) (by omega) hG (by omega) (hSt W1 hS')).mono fun e w' h => h) (fun v w' h => hSg W1 w' _ (by omega) hS' h.2.1 h.2.2.2) ?_
  rintro v2 W2 ⟨o2, g2, b2, d2⟩
  simp only [Act.put, List.setIfInBounds_toArray, List.set_cons_succ, List.set_cons_zero]
  have hS2 := hSg W1 W2 _ (by omega) hS' g2 d2
  have o1' : OwnU W2 N v1 (0 + 2 * (runsOf s).length) ([] ++ byteV (rnB (runsOf s))) := o1.keep fun g hg => g2.block g (o1.own_lt hg).2 (fun e => by
    injection e with e
    rcases b1 with h | ⟨g', h, hg'⟩
    · rw [hg] at h; injection h; omega
    · rw [hg] at h; injection h; omega)
  rw [List.nil_append] at o1' o2
  refine h_callE 6 156 #[v1, v2] (fun v w' => v = .int .i64 (lexN (rnB (runsOf s)) (rnB (runsOf t))) ∧ w' = W2) rfl (by kernel_rfl) rfl
    (x_call2 _ _ _ _ _ _ _ _ _ _ _ _ _ rfl rfl rfl (enters_of Tryz.func156 (by kernel_rfl) rfl) _) ((bytesCompare_any _ _ v1 v2 W2 (.of_own o1') (.of_own o2) (rnB_lt s) (rnB_lt t)).mono fun e w' h => ⟨_, h.1, rfl, h.2⟩) (fun v w' h => h.2 ▸ hS2) ?_
  rintro v3 W3 ⟨rfl, rfl⟩
  simp only [Act.put, List.setIfInBounds_toArray, List.set_cons_succ, List.set_cons_zero]
  refine h_take 7 (.int .i64 (lexN (rnB (runsOf s)) (rnB (runsOf t)))) rfl (by kernel_rfl) (by kernel_rfl) (by kernel_rfl) rfl (fun w hw => x_assign _ _ _ _ _ _ _ _ rfl w) hS2 ?_
  simp only [Act.put, List.setIfInBounds_toArray, List.set_cons_succ, List.set_cons_zero]
  refine wpAnyH_done (by kernel_rfl) ?_ _
  refine NoPanic.normal ?_
  have HB := hide (hSb _ hS2)
  have HD := hide (hSw _ hS2)
  clear hS hS0 hS1 hSb hSg hSt hSw hS' hS2 o1 o1' o2 g1 g2 b1 b2 d1 d2
  have HN := hide hN
  clear hN
  go_wp2
  go_ret
  exact ⟨rfl, HN.out ▸ HB.out, HD.out⟩
end Go.Proofs.YtjcfnmjjkadaeaaGreatDoor
/- Keys of expressions: a code in which no word begins another one; how they compare. -/
namespace Go.Proofs.YtjcfnmjjkadaeaaGreatDoor
set_option maxRecDepth 100000
set_option linter.unusedSimpArgs false
set_option linter.unusedVariables false
open Go.RowKit

theorem lexN_self : ∀ l, lexN l l = 0
  | [] => rfl
  | a :: r => by simp [lexN, lexN_self r]
theorem lexN_zero : ∀ (a b : List Nat), lexN a b = 0 → a = b
  | [], [], _ => rfl
  | [], _ :: _, h => by simp [lexN] at h
  | _ :: _, [], h => by simp [lexN] at h
  | a :: ar, b :: br, h => by
    simp only [lexN] at h
    split at h
    · omega
    · split at h
      · omega
      · rw [lexN_zero ar br h, show a = b from by omega]
theorem lexN_swap : ∀ (a b : List Nat), lexN b a = -lexN a b
  | [], [] => rfl
  | [], _ :: _ => rfl
  | _ :: _, [] => rfl
  | a :: ar, b :: br => by
    have := lexN_swap ar br
    simp only [lexN]
    split <;> split <;> first | omega | (split <;> omega) | (rw [this]) | skip
    all_goals (try split) <;> first | omega | rw [this] | skip
theorem lexN_trans : ∀ (a b c : List Nat), lexN a b ≤ 0 → lexN b c ≤ 0 → lexN a c ≤ 0 ∧ (lexN a c = 0 → lexN a b = 0 ∧ lexN b c = 0)
  | [], [], c, _, h => ⟨h, fun h' => ⟨rfl, h'⟩⟩
  | [], b :: br, [], _, h => by simp [lexN] at h
  | [], b :: br, c :: cr, _, _ => by simp [lexN]
  | a :: ar, [], c, h, _ => by simp [lexN] at h
  | a :: ar, b :: br, [], _, h => by simp [lexN] at h
  | a :: ar, b :: br, c :: cr, h1, h2 => by
    have ih := lexN_trans ar br cr
    simp only [lexN] at h1 h2 ⊢
    by_cases hab : a < b
    · by_cases hbc : b < c
      · simp [show a < c from by omega, hab]
      · by_cases hcb : c < b
        · simp [hbc, hcb] at h2
        · simp [show a < c from by omega, hab]
    · by_cases hba : b < a
      · simp [hab, hba] at h1
      · by_cases hbc : b < c
        · simp [show a < c from by omega, hbc]
        · by_cases hcb : c < b
          · simp [hbc, hcb] at h2
          · have e1 : ¬ a < c := by omega
            have e2 : ¬ c < a := by omega
            simp only [hab, hba, hbc, hcb, e1, e2, if_false] at h1 h2 ⊢
            exact ih h1 h2
/-- Two lists of which neither begins the other one. -/
theorem lexN_append : ∀ (a b x y : List Nat), (a <+: b → a = b) → (b <+: a → a = b) → lexN (a ++ x) (b ++ y) = if a = b then lexN x y else lexN a b
  | [], b, x, y, h, _ => by rw [← h (List.nil_prefix)]; simp
  | a :: ar, [], x, y, _, h => by have := h List.nil_prefix; cases this
  | a :: ar, b :: br, x, y, h1, h2 => by
    simp only [List.cons_append, lexN]
    by_cases hab : a < b
    · simp [hab, show a ≠ b from by omega]
    · by_cases hba : b < a
      · simp [hab, hba, show a ≠ b from by omega]
      · obtain rfl : a = b := by omega
        have ih := lexN_append ar br x y (fun h => by have := h1 (by simpa using h); simpa using this) (fun h => by have := h2 (by simpa using h); simpa using this)
        simp [ih]

/-- The bytes of a run. -/
def spread (r : Nat × Nat) : List Nat := List.range' r.1 (r.2 + 1 - r.1)
theorem spread_foldl : ∀ (l : List Nat) (st : List (Nat × Nat) × Option (Nat × Nat)), (∀ r ∈ st.1 ++ st.2.toList, r.1 ≤ r.2) →
    (∀ r ∈ (l.foldl runStep st).1 ++ (l.foldl runStep st).2.toList, r.1 ≤ r.2) ∧ ((l.foldl runStep st).1 ++ (l.foldl runStep st).2.toList).flatMap spread = (st.1 ++ st.2.toList).flatMap spread ++ l
  | [], st, h => ⟨h, by simp⟩
  | b :: l, (em, cur), h => by
    have key : (∀ r ∈ (runStep (em, cur) b).1 ++ (runStep (em, cur) b).2.toList, r.1 ≤ r.2) ∧ ((runStep (em, cur) b).1 ++ (runStep (em, cur) b).2.toList).flatMap spread = (em ++ cur.toList).flatMap spread ++ [b] := by
      cases cur with
      | none =>
        refine ⟨fun r hr => ?_, ?_⟩
        · simp [runStep] at hr
          rcases hr with hr | rfl
          · exact h r (by simp [hr])
          · simp
        · simp [runStep, spread]
      | some q =>
        obtain ⟨f, la⟩ := q
        have hq : f ≤ la := h (f, la) (by simp)
        simp only [runStep]
        split
        · rename_i e
          subst e
          refine ⟨fun r hr => ?_, ?_⟩
          · simp at hr
            rcases hr with hr | rfl
            · exact h r (by simp [hr])
            · simp; omega
          · simp only [Option.toList, List.flatMap_append, List.flatMap_cons, List.flatMap_nil, List.append_nil, List.append_assoc]
            congr 1
            simp only [spread]
            rw [show la + 1 + 1 - f = (la + 1 - f) + 1 from by omega, List.range'_concat]
            congr 2
            simp; omega
        · refine ⟨fun r hr => ?_, ?_⟩
          · simp at hr
            rcases hr with hr | rfl | rfl
            · exact h r (by simp [hr])
            · exact hq
            · simp
          · simp [spread]
    have ih := spread_foldl l (runStep (em, cur) b) key.1
    refine ⟨ih.1, ?_⟩
    rw [List.foldl_cons, ih.2, key.2]
    simp
theorem runs_spread (s : BitVec 256) : (∀ r ∈ runsOf s, r.1 ≤ r.2) ∧ (runsOf s).flatMap spread = bytesOf s := by
  have h := spread_foldl (bytesOf s) ([], none) (by simp)
  exact ⟨h.1, h.2.trans (by simp)⟩
theorem bytes_inj {s t : BitVec 256} (h : bytesOf s = bytesOf t) : s = t := by
  refine BitVec.eq_of_getLsbD_eq fun i hi => ?_
  have h1 := mem_bytes s i
  have h2 := mem_bytes t i
  rw [h] at h1
  have h3 := h1.symm.trans h2
  cases hs : s.getLsbD i <;> cases ht : t.getLsbD i <;> simp_all
theorem runs_inj {s t : BitVec 256} (h : runsOf s = runsOf t) : s = t := bytes_inj (by rw [← (runs_spread s).2, ← (runs_spread t).2, h])
/-- Only the first run may begin with 0. -/
theorem runs_later (s : BitVec 256) (r0 : Nat × Nat) (rest : List (Nat × Nat)) (h : runsOf s = r0 :: rest) : ∀ r ∈ rest, 0 < r.1 := by
  intro r hr
  have hs := runs_spread s
  have hup := bytesOf_up s
  rw [← hs.2, h, List.flatMap_cons, List.pairwise_append] at hup
  have h0 := hs.1 r0 (by rw [h]; simp)
  have h1 := hs.1 r (by rw [h]; simp [hr])
  have := hup.2.2 r0.1 (by simp [spread]; omega) r.1 (by simp only [List.mem_flatMap]; exact ⟨r, hr, by simp [spread]; omega⟩)
  omega
theorem rnB_decode : ∀ (a b : List (Nat × Nat)) (x y : List Nat), (∀ r ∈ a, 0 < r.1) → (∀ r ∈ b, 0 < r.1) → rnB a ++ 0 :: x = rnB b ++ 0 :: y → a = b ∧ x = y
  | [], [], x, y, _, _, h => by simpa [rnB] using h
  | [], r :: b, x, y, _, hb, h => by
    have := hb r (by simp)
    simp [rnB] at h; omega
  | r :: a, [], x, y, ha, _, h => by
    have := ha r (by simp)
    simp [rnB] at h; omega
  | r :: a, q :: b, x, y, ha, hb, h => by
    simp only [rnB, List.flatMap_cons, List.cons_append, List.nil_append, List.cons.injEq] at h
    obtain ⟨h1, h2, h3⟩ := h
    have ih := rnB_decode a b x y (fun r hr => ha r (by simp [hr])) (fun r hr => hb r (by simp [hr])) h3
    exact ⟨by rw [ih.1, Prod.ext h1 h2], ih.2⟩
theorem runs_nil {s : BitVec 256} (h : s ≠ 0#256) : runsOf s ≠ [] := fun e => h (runs_inj (e.trans (by decide +kernel)))
theorem runs_decode {s t : BitVec 256} (hs : s ≠ 0#256) (ht : t ≠ 0#256) (x y : List Nat) (h : rnB (runsOf s) ++ 0 :: x = rnB (runsOf t) ++ 0 :: y) : s = t ∧ x = y := by
  cases e1 : runsOf s with
  | nil => exact absurd e1 (runs_nil hs)
  | cons r a =>
    cases e2 : runsOf t with
    | nil => exact absurd e2 (runs_nil ht)
    | cons q b =>
      have l1 := runs_later s r a e1
      have l2 := runs_later t q b e2
      rw [e1, e2] at h
      simp only [rnB, List.flatMap_cons, List.cons_append, List.nil_append, List.cons.injEq] at h
      obtain ⟨h1, h2, h3⟩ := h
      have ih := rnB_decode a b x y l1 l2 h3
      refine ⟨runs_inj ?_, ih.2⟩
      rw [e1, e2, ih.1, Prod.ext h1 h2]

theorem rnB_lex : ∀ (a b : List (Nat × Nat)) (x y : List Nat), (∀ r ∈ a, 0 < r.1) → (∀ r ∈ b, 0 < r.1) → a ≠ b → lexN (rnB a ++ 0 :: x) (rnB b ++ 0 :: y) = lexN (rnB a) (rnB b)
  | [], [], x, y, _, _, h => absurd rfl h
  | [], r :: b, x, y, _, hb, h => by
    have := hb r (by simp)
    simp [rnB, lexN, this]
  | r :: a, [], x, y, ha, _, h => by
    have := ha r (by simp)
    simp [rnB, lexN, this]
  | (r1, r2) :: a, (q1, q2) :: b, x, y, ha, hb, h => by
    simp only [rnB, List.flatMap_cons, List.cons_append, List.nil_append, lexN]
    by_cases h1 : r1 < q1
    · simp [h1]
    · by_cases h2 : q1 < r1
      · simp [h1, h2]
      · by_cases h3 : r2 < q2
        · simp [h1, h2, h3]
        · by_cases h4 : q2 < r2
          · simp [h1, h2, h3, h4]
          · simp only [h1, h2, h3, h4, if_false]
            have e1 : r1 = q1 := by omega
            have e2 : r2 = q2 := by omega
            exact rnB_lex a b x y (fun r hr => ha r (by simp [hr])) (fun r hr => hb r (by simp [hr])) (fun e => h (by rw [e, e1, e2]))
theorem runs_lex {s t : BitVec 256} (hs : s ≠ 0#256) (ht : t ≠ 0#256) (h : s ≠ t) (x y : List Nat) : lexN (rnB (runsOf s) ++ 0 :: x) (rnB (runsOf t) ++ 0 :: y) = lexN (rnB (runsOf s)) (rnB (runsOf t)) := by
  have hne : runsOf s ≠ runsOf t := fun e => h (runs_inj e)
  cases e1 : runsOf s with
  | nil => exact absurd e1 (runs_nil hs)
  | cons r a =>
    cases e2 : runsOf t with
    | nil => exact absurd e2 (runs_nil ht)
    | cons q b =>
      have l1 := runs_later s r a e1
      have l2 := runs_later t q b e2
      rw [e1, e2] at hne
      obtain ⟨r1, r2⟩ := r
      obtain ⟨q1, q2⟩ := q
      simp only [rnB, List.flatMap_cons, List.cons_append, List.nil_append, lexN]
      by_cases h1 : r1 < q1
      · simp [h1]
      · by_cases h2 : q1 < r1
        · simp [h1, h2]
        · by_cases h3 : r2 < q2
          · simp [h1, h2, h3]
          · by_cases h4 : q2 < r2
            · simp [h1, h2, h3, h4]
            · simp only [h1, h2, h3, h4, if_false]
              have e1 : r1 = q1 := by omega
              have e2 : r2 = q2 := by omega
              exact rnB_lex a b x y l1 l2 (fun e => hne (by rw [e, e1, e2]))

/-- The key of an expression, as bytes. -/
def RE.key : RE → List Nat
  | .mk o s ks => (o + 1) :: ((if o = 2 then rnB (runsOf s) else []) ++ ((ks.map fun k => k.key).flatten ++ [0]))
def keysL (ks : List RE) : List Nat := (ks.map RE.key).flatten
theorem RE.key_mk (o : Nat) (s : BitVec 256) (ks : List RE) : (RE.mk o s ks).key = (o + 1) :: ((if o = 2 then rnB (runsOf s) else []) ++ (keysL ks ++ [0])) := by rw [RE.key, keysL]

/-- What the calls make: a set where it is a Class alone, and no kids there. -/
inductive WfK : RE → Prop where
  | mk (o : Nat) (s : BitVec 256) (ks : List RE) (ho : o ≤ 7) (h2 : o = 2 → ks = [] ∧ s ≠ 0#256) (hn : o ≠ 2 → s = 0#256) (hk : ∀ k ∈ ks, WfK k) : WfK (.mk o s ks)
theorem WfK.kid {o : Nat} {s : BitVec 256} {ks : List RE} (h : WfK (.mk o s ks)) : ∀ k ∈ ks, WfK k := by cases h; assumption

theorem keys_decode {ks : List RE} (ih : ∀ k ∈ ks, ∀ b x y, WfK b → k.key ++ x = b.key ++ y → k = b ∧ x = y) : ∀ (ls : List RE) (x y : List Nat), (∀ k ∈ ls, WfK k) → keysL ks ++ 0 :: x = keysL ls ++ 0 :: y → ks = ls ∧ x = y := by
  induction ks with
  | nil =>
    intro ls x y hl h
    cases ls with
    | nil => simpa [keysL] using h
    | cons b ls =>
      cases b
      simp [keysL, RE.key_mk] at h
  | cons k ks ihk =>
    intro ls x y hl h
    cases ls with
    | nil =>
      cases k
      simp [keysL, RE.key_mk] at h
    | cons b ls =>
      have h' : k.key ++ (keysL ks ++ 0 :: x) = b.key ++ (keysL ls ++ 0 :: y) := by simpa [keysL] using h
      obtain ⟨rfl, h2⟩ := ih k (by simp) b _ _ (hl b (by simp)) h'
      obtain ⟨rfl, h3⟩ := ihk (fun k hk => ih k (by simp [hk])) ls x y (fun k hk => hl k (by simp [hk])) h2
      exact ⟨rfl, h3⟩
/-- A key that begins two texts tells which expression it is. -/
theorem key_decode (a : RE) : WfK a → ∀ b x y, WfK b → a.key ++ x = b.key ++ y → a = b ∧ x = y := by
  refine RE.ind (P := fun a => WfK a → ∀ b x y, WfK b → a.key ++ x = b.key ++ y → a = b ∧ x = y) ?_ a
  intro o s ks ih ha b x y hb h
  cases ha with
  | mk _ _ _ ho h2 hn hk =>
  cases hb with
  | mk o' s' ks' ho' h2' hn' hk' =>
    rw [RE.key_mk, RE.key_mk] at h
    simp only [List.cons_append, List.cons.injEq, List.append_assoc, List.nil_append] at h
    obtain ⟨e, h⟩ := h
    obtain rfl : o = o' := by omega
    by_cases e2 : o = 2
    · obtain ⟨rfl, hs⟩ := h2 e2
      obtain ⟨rfl, hs'⟩ := h2' e2
      rw [if_pos e2, if_pos e2] at h
      simp only [keysL, List.map_nil, List.flatten_nil, List.nil_append] at h
      obtain ⟨rfl, h3⟩ := runs_decode hs hs' x y h
      exact ⟨rfl, h3⟩
    · rw [if_neg e2, if_neg e2] at h
      simp only [List.nil_append] at h
      obtain ⟨rfl, h3⟩ := keys_decode (fun k hk' b x y hb h => ih k hk' (hk k hk') b x y hb h) ks' x y hk' h
      exact ⟨by rw [hn e2, hn' e2], h3⟩
theorem key_inj {a b : RE} (ha : WfK a) (hb : WfK b) (h : a.key = b.key) : a = b := (key_decode a ha b [] [] hb (by rw [h])).1
theorem key_prefix {a b : RE} (ha : WfK a) (hb : WfK b) (h : a.key <+: b.key) : a.key = b.key := by
  obtain ⟨x, hx⟩ := h
  rw [(key_decode a ha b x [] hb (by rw [hx, List.append_nil])).1]
/-- Keys with something behind them. -/
theorem key_lex {a b : RE} (ha : WfK a) (hb : WfK b) (x y : List Nat) : lexN (a.key ++ x) (b.key ++ y) = if lexN a.key b.key = 0 then lexN x y else lexN a.key b.key := by
  rw [lexN_append _ _ _ _ (key_prefix ha hb) (fun h => (key_prefix hb ha h).symm)]
  by_cases h : a.key = b.key
  · rw [if_pos h, if_pos (by rw [h]; exact lexN_self _)]
  · rw [if_neg h, if_neg (fun e => h (lexN_zero _ _ e))]
/-- How keys compare, part by part. -/
theorem key_op {a b : RE} (h : a.op ≠ b.op) : lexN a.key b.key = cmpN a.op b.op := by
  cases a; cases b
  rename_i o s ks o' s' ks'
  simp only [RE.op] at h
  simp only [RE.key_mk, lexN, RE.op, cmpN]
  by_cases h1 : o < o'
  · simp [h1]
  · have h2 : o' < o := by omega
    simp [h1, h2]
theorem key_set {a b : RE} (ha : WfK a) (hb : WfK b) (ho : a.op = b.op) (hs : a.set ≠ b.set) : lexN a.key b.key = lexN (rnB (runsOf a.set)) (rnB (runsOf b.set)) := by
  cases ha with
  | mk o s ks h1 h2 h3 h4 =>
  cases hb with
  | mk o' s' ks' k1 k2 k3 k4 =>
    simp only [RE.op, RE.set] at ho hs ⊢
    subst ho
    by_cases e : o = 2
    · obtain ⟨rfl, e1⟩ := h2 e
      obtain ⟨rfl, e2⟩ := k2 e
      simp only [RE.key_mk, lexN, if_pos e]
      simp only [Nat.lt_irrefl, if_false, keysL, List.map_nil, List.flatten_nil, List.nil_append]
      exact runs_lex e1 e2 hs [] []
    · exact absurd ((h3 e).trans (k3 e).symm) hs
theorem key_kids {a b : RE} (ho : a.op = b.op) (hs : a.set = b.set) : lexN a.key b.key = lexN (keysL a.kids ++ [0]) (keysL b.kids ++ [0]) := by
  cases a; cases b
  rename_i o s ks o' s' ks'
  simp only [RE.op, RE.set, RE.kids] at ho hs ⊢
  subst ho hs
  simp only [RE.key_mk, lexN, Nat.lt_irrefl, if_false]
  generalize (if o = 2 then rnB (runsOf s) else []) = p
  induction p with
  | nil => rfl
  | cons x p ih => simp [lexN, ih]
/-- One kid more. -/
theorem keys_cons {a b : RE} (ha : WfK a) (hb : WfK b) (ks ls : List RE) : lexN (keysL (a :: ks) ++ [0]) (keysL (b :: ls) ++ [0]) = if lexN a.key b.key = 0 then lexN (keysL ks ++ [0]) (keysL ls ++ [0]) else lexN a.key b.key := by
  have := key_lex ha hb (keysL ks ++ [0]) (keysL ls ++ [0])
  simpa [keysL] using this
theorem keys_short (a : RE) (ks : List RE) : lexN (keysL (a :: ks) ++ [0]) (keysL [] ++ [0]) = 1 := by
  cases a
  simp [keysL, RE.key_mk, lexN]
theorem keys_long (a : RE) (ks : List RE) : lexN (keysL [] ++ [0]) (keysL (a :: ks) ++ [0]) = -1 := by
  cases a
  simp [keysL, RE.key_mk, lexN]
end Go.Proofs.YtjcfnmjjkadaeaaGreatDoor
/- How expressions compare: slices.CompareFunc, compare, Same. -/
namespace Go.Proofs.YtjcfnmjjkadaeaaGreatDoor
set_option maxRecDepth 100000
set_option linter.unusedSimpArgs false
set_option linter.unusedVariables false
open Go.RowKit

section
variable {C : World → Prop} {ops : Array Oper} {Q : Act → Prop} {a : Act} {o : Oper} {rest : List Oper}
theorem w_callC (f : FuncId) (vs : Array Value) (v : Value) (hw : Region.wanted o (yielded ops a.tmps) = true) (h : ∀ w, (execOp a.eval o).run Tryz.prog w = .ok (.enter f vs) w)
    (hc : ∀ w, C w → Calls Tryz.prog f vs w fun e w' => e = .returned v ∧ C w') (hk : WQ ops C Q rest (a.put o.dst v)) : WQ ops C Q (o :: rest) a :=
  ⟨q_want hw fun _ hK => ⟨v, fun w hw => by unfold Oper.quietAt; rw [h w]; exact ⟨rfl, hc w hw⟩, hK _ hk.out⟩⟩
end
theorem x_call3 (ρ : Operand → Value) (d : Option Tmp) (f : FuncId) (x y z : Operand) (t t1 t2 t3 : TypeId) (pos : String) (af : Array Edge) (g : Option (Nat × Bool)) (u v s : Value) (hx : ρ x = u) (hy : ρ y = v) (hz : ρ z = s) (hfn : ρ (.func f) = .func (.func f) #[] #[]) (hf : ∀ args w, (callFunc f args).run Tryz.prog w = .ok (.enter f args) w) (w : World) :
    (execOp ρ { dst := d, op := .call { callee := .value (.func f), args := #[x, y, z], argTypes := #[t1, t2, t3] }, type := t, pos := pos, after := af, guard := g }).run Tryz.prog w = .ok (.enter f #[u, v, s]) w := by
  simp [go_sem, hfn, hx, hy, hz, hf]
theorem x_nilCheck (ρ : Operand → Value) (d : Option Tmp) (x : Operand) (t : TypeId) (pos : String) (af : Array Edge) (g : Option (Nat × Bool)) (b : Nat) (hx : ρ x = PT b) (w : World) :
    (execOp ρ { dst := d, op := .nilCheck x, type := t, pos := pos, after := af, guard := g }).run Tryz.prog w = .ok (.value (PT b)) w := by
  simp [go_sem, hx, PT]
theorem x_field0 (ρ : Operand → Value) (d : Option Tmp) (x : Operand) (t : TypeId) (pos : String) (af : Array Edge) (g : Option (Nat × Bool)) (b : Nat) (hx : ρ x = PT b) (w : World) :
    (execOp ρ { dst := d, op := .fieldAddr 110 x 0, type := t, pos := pos, after := af, guard := g }).run Tryz.prog w = .ok (.value (PT b)) w := by
  simp [go_sem, hx, PT]
theorem x_field1 (ρ : Operand → Value) (d : Option Tmp) (x : Operand) (t : TypeId) (pos : String) (af : Array Edge) (g : Option (Nat × Bool)) (b : Nat) (hx : ρ x = PT b) (w : World) :
    (execOp ρ { dst := d, op := .fieldAddr 110 x 1, type := t, pos := pos, after := af, guard := g }).run Tryz.prog w = .ok (.value (.pointer (some ⟨b, 1, none⟩))) w := by
  simp [go_sem, hx, PT]
theorem x_field2 (ρ : Operand → Value) (d : Option Tmp) (x : Operand) (t : TypeId) (pos : String) (af : Array Edge) (g : Option (Nat × Bool)) (b : Nat) (hx : ρ x = PT b) (w : World) :
    (execOp ρ { dst := d, op := .fieldAddr 110 x 2, type := t, pos := pos, after := af, guard := g }).run Tryz.prog w = .ok (.value (.pointer (some ⟨b, 5, none⟩))) w := by
  simp [go_sem, hx, PT]
theorem x_field5 (ρ : Operand → Value) (d : Option Tmp) (x : Operand) (t : TypeId) (pos : String) (af : Array Edge) (g : Option (Nat × Bool)) (b : Nat) (hx : ρ x = PT b) (w : World) :
    (execOp ρ { dst := d, op := .fieldAddr 110 x 5, type := t, pos := pos, after := af, guard := g }).run Tryz.prog w = .ok (.value (.pointer (some ⟨b, 8, none⟩))) w := by
  simp [go_sem, hx, PT]
theorem x_loadOp (ρ : Operand → Value) (d : Option Tmp) (x : Operand) (t : TypeId) (pos : String) (af : Array Edge) (g : Option (Nat × Bool)) (b n : Nat) (hx : ρ x = PT b) (w : World) (hc : w.cell? ⟨b, 0, none⟩ = some (.int .i64 n)) :
    (execOp ρ { dst := d, op := .load 108 x, type := t, pos := pos, after := af, guard := g }).run Tryz.prog w = .ok (.value (.int .i64 n)) w := by
  simp [go_sem, hx, hc, PT]
theorem x_loadKids (ρ : Operand → Value) (d : Option Tmp) (x : Operand) (t : TypeId) (pos : String) (af : Array Edge) (g : Option (Nat × Bool)) (b n : Nat) (v : Value) (hx : ρ x = .pointer (some ⟨b, n, none⟩)) (w : World) (hc : w.cell? ⟨b, n, none⟩ = some v) :
    (execOp ρ { dst := d, op := .load 59 x, type := t, pos := pos, after := af, guard := g }).run Tryz.prog w = .ok (.value v) w := by
  simp [go_sem, hx, hc]
theorem x_neqOp (ρ : Operand → Value) (d : Option Tmp) (x y : Operand) (t : TypeId) (pos : String) (af : Array Edge) (g : Option (Nat × Bool)) (u v : Int) (hx : ρ x = .int .i64 u) (hy : ρ y = .int .i64 v) (w : World) :
    (execOp ρ { dst := d, op := .binOp .neq 108 x y 108, type := t, pos := pos, after := af, guard := g }).run Tryz.prog w = .ok (.value (.bool (u != v))) w := by
  simp [go_sem, hx, hy, bne]
theorem ReAt.cell0 [Forb] {w : World} {b : Nat} {r : RE} (h : ReAt w b r) : w.cell? ⟨b, 0, none⟩ = some (.int .i64 r.op) := by
  obtain ⟨v, hb, -⟩ := h.row; rw [hb.cell]; rfl
theorem ReAt.cellS [Forb] {w : World} {b : Nat} {r : RE} (h : ReAt w b r) : ∀ j, j < 4 → w.cell? ⟨b, 1 + j, none⟩ = some (.int .u64 (wd r.set j)) := by
  obtain ⟨v, hb, -⟩ := h.row
  intro j hj
  rw [hb.cell]
  match j, hj with
  | 0, _ => rfl
  | 1, _ => rfl
  | 2, _ => rfl
  | 3, _ => rfl
theorem ReAt.cell8 [Forb] {w : World} {b : Nat} {r : RE} (h : ReAt w b r) : w.cell? ⟨b, 8, none⟩ = some (.int .i64 r.size) := by
  obtain ⟨v, hb, -⟩ := h.row; rw [hb.cell]; rfl

/-- New memory, and draws. -/
structure More (w w' : World) : Prop where
  below : Below w.heap.size w w'
  drawn : w.drawn ≤ w'.drawn
theorem More.refl (w : World) : More w w := ⟨Below.refl _ _, Nat.le_refl _⟩
theorem More.trans {a b c : World} (h : More a b) (k : More b c) : More a c := ⟨h.below.trans (k.below.mono h.below.size), Nat.le_trans h.drawn k.drawn⟩
theorem More.drew {a b : World} (h : More a b) : More a { b with drawn := b.drawn + 1 } := ⟨⟨h.below.os, h.below.tape, h.below.output, h.below.size, h.below.block⟩, Nat.le_trans h.drawn (Nat.le_succ _)⟩
theorem TabAt.more {w w' : World} (h : TabAt w) (hm : More w w') : TabAt w' := h.agree (Agree.of_all (K := fun _ => True) hm.below) trivial

set_option maxHeartbeats 1000000 in
theorem compareFunc_any [Forb] (l1 l2 : List RE) (v1 v2 : Value) (w : World) (h1 : ResRow w v1 l1) (h2 : ResRow w v2 l2) (k1 : ∀ k ∈ l1, WfK k) (k2 : ∀ k ∈ l2, WfK k)
    (hc : ∀ r ∈ l1, ∀ o b b' W, More w W → WfK r → WfK o → ReAt W b r → ReAt W b' o → Calls Tryz.prog 101 #[PT b, PT b'] W fun e w' => e = .returned (.int .i64 (lexN r.key o.key)) ∧ More W w') :
    Calls Tryz.prog 131 #[v1, v2, .func (.func 101) #[] #[]] w fun e w' => e = .returned (.int .i64 (lexN (keysL l1 ++ [0]) (keysL l2 ++ [0]))) ∧ More w w' := by
  obtain ⟨n1, a1, cap1, rfl, -⟩ := h1.at
  obtain ⟨n2, a2, cap2, rfl, -⟩ := h2.at
  have ent := enters_of Tryz.func101 (by kernel_rfl) rfl
  obtain ⟨res, hres⟩ : ∃ res, res = lexN (keysL l1 ++ [0]) (keysL l2 ++ [0]) := ⟨_, rfl⟩
  rw [← hres]
  have HR := hide hres
  clear hres
  have H1 := hide h1
  have H2 := hide h2
  clear h1 h2
  go_enter Tryz.func131, Tryz.ntmps131
  go_wp2
  go_loopw [13] (fun i wr => ∃ k : Nat, k ≤ l1.length ∧ k ≤ l2.length ∧ i = .int .i64 k ∧ Hid (res = lexN (keysL (l1.drop k) ++ [0]) (keysL (l2.drop k) ++ [0])) ∧ Hid (More w wr)) (fun i _ => l1.length - (intOf i).toNat)
  case atStart => exact ⟨0, by omega, by omega, rfl, HR, More.refl w⟩
  case round =>
    clear HR
    obtain ⟨k, hk1, hk2, rfl, HR, HM⟩ := hrel
    obtain ⟨-, a1', c1', e1, g1⟩ := (H1.out.below HM.out.below).at
    obtain ⟨rfl, rfl⟩ : a1 = a1' ∧ cap1 = c1' := by cases e1; exact ⟨rfl, rfl⟩
    obtain ⟨-, a2', c2', e2, g2⟩ := (H2.out.below HM.out.below).at
    obtain ⟨rfl, rfl⟩ : a2 = a2' ∧ cap2 = c2' := by cases e2; exact ⟨rfl, rfl⟩
    clear e1 e2
    by_cases hlt : k < l1.length
    · have hkd : decide (k < l1.length) = true := by simp [hlt]
      obtain ⟨b1, o1, p1, rfl, -, d1, r1⟩ := g1 k hlt
      unfold PT at d1
      by_cases hlt2 : k < l2.length
      · obtain ⟨b2, o2, p2, rfl, -, d2, r2⟩ := g2 k hlt2
        unfold PT at d2
        have hkd2 : decide (l2.length ≤ k) = false := by simp; omega
        have hw1 := k1 _ (List.getElem_mem hlt)
        have hw2 := k2 _ (List.getElem_mem hlt2)
        have HC := hide (keys_cons hw1 hw2 (l1.drop (k + 1)) (l2.drop (k + 1)))
        rw [List.getElem_cons_drop, List.getElem_cons_drop] at HC
        have hcc := hc _ (List.getElem_mem hlt) l2[k] p1 p2 wr HM.out hw1 hw2 r1 r2
        generalize lexN (l1[k]).key (l2[k]).key = cc at HC hcc
        clear g1 g2 r1 r2 hw1 hw2
        go_wp2_with fail
        refine hcc.mono ?_
        rintro e w1 ⟨rfl, hm⟩
        have HM2 := hide (HM.out.trans hm)
        clear hm hcc d1 d2
        by_cases h0 : cc = 0
        · subst h0
          go_wp2
          refine ⟨⟨k + 1, by omega, by omega, by go_num, ?_, HM2⟩, by simp [intOf]; omega⟩
          have := HC.out
          rw [if_pos (by trivial)] at this
          exact HR.out.trans this
        · have hd0 : (cc == 0) = false := beq_eq_false_iff_ne.2 h0
          have H0 := hide h0
          clear h0
          go_wp2
          go_ret
          have := HC.out
          rw [if_neg H0.out] at this
          exact ⟨by rw [HR.out, this]; rfl, HM2.out⟩
      · obtain rfl : k = l2.length := by omega
        have hkd2 : decide (l2.length ≤ l2.length) = true := by simp
        have HF : Hid (res = 1) := by
          have := HR.out
          rw [List.drop_length, ← List.getElem_cons_drop hlt, keys_short] at this
          exact this
        clear g1 g2 r1
        go_wp2
        go_ret
        exact ⟨by rw [HF.out]; rfl, HM.out⟩
    · obtain rfl : k = l1.length := by omega
      have HL : Hid (res = if l1.length < l2.length then -1 else 0) := by
        have := HR.out
        rw [List.drop_length] at this
        by_cases h : l1.length < l2.length
        · rw [if_pos h]
          rw [← List.getElem_cons_drop h, keys_long] at this
          exact this
        · rw [if_neg h]
          have e : l2.drop l1.length = [] := List.drop_eq_nil_of_le (by omega)
          rw [e, lexN_self] at this
          exact this
      clear g1 g2
      by_cases h : l1.length < l2.length
      · have hd : decide ((l1.length : Int) < l2.length) = true := by simp; omega
        have hd' : decide (l1.length < l2.length) = true := by simp [h]
        go_wp2
        go_ret
        exact ⟨by rw [HL.out, if_pos h]; rfl, HM.out⟩
      · have hd : decide ((l1.length : Int) < l2.length) = false := by simp; omega
        have hd' : decide (l1.length < l2.length) = false := by simp; omega
        go_wp2
        go_ret
        exact ⟨by rw [HL.out, if_neg h]; rfl, HM.out⟩

set_option maxHeartbeats 2000000 in
theorem reCompare_any [Forb] (r : RE) : ∀ (o : RE) (b b' : Nat) (w : World), WfK r → WfK o → ReAt w b r → ReAt w b' o → TabAt w →
    Calls Tryz.prog 101 #[PT b, PT b'] w fun e w' => e = .returned (.int .i64 (lexN r.key o.key)) ∧ More w w' := by
  refine RE.ind (P := fun r => ∀ (o : RE) (b b' : Nat) (w : World), WfK r → WfK o → ReAt w b r → ReAt w b' o → TabAt w →
    Calls Tryz.prog 101 #[PT b, PT b'] w fun e w' => e = .returned (.int .i64 (lexN r.key o.key)) ∧ More w w') ?_ r
  intro op s ks ih o b b' w hr ho hb hb' hT
  have hkid : ∀ k ∈ (RE.mk op s ks).kids, ∀ (o : RE) (b b' : Nat) (w : World), WfK k → WfK o → ReAt w b k → ReAt w b' o → TabAt w →
    Calls Tryz.prog 101 #[PT b, PT b'] w fun e w' => e = .returned (.int .i64 (lexN k.key o.key)) ∧ More w w' := ih
  clear ih
  generalize RE.mk op s ks = r at *
  clear op s ks
  obtain ⟨res, hres⟩ : ∃ res, res = lexN r.key o.key := ⟨_, rfl⟩
  rw [← hres]
  by_cases hbb : b = b'
  · subst hbb
    obtain rfl := hb.one hb'
    rw [lexN_self] at hres
    have HR := hide hres
    have hself := ptr_same ⟨b, 0, none⟩
    clear hres
    unfold PT
    go_enter Tryz.func101, Tryz.ntmps101
    go_wp2
    go_ret
    exact ⟨by rw [HR.out]; rfl, More.refl _⟩
  · obtain ⟨v1, hk1, hrow1⟩ := hb.row
    obtain ⟨v2, hk2, hrow2⟩ := hb'.row
    have hoth := ptr_other w hbb hk1 hk2
    obtain ⟨C, hCd⟩ : ∃ C : World → Prop, C = fun W => More w W := ⟨_, rfl⟩
    have hCm : ∀ W, C W → More w W := fun W h => by rw [hCd] at h; exact h
    have hmC : ∀ W, More w W → C W := fun W h => by rw [hCd]; exact h
    have hC1 : ∀ W, C W → ReAt W b r := fun W h => hb.keep (hCm W h).below
    have hC2 : ∀ W, C W → ReAt W b' o := fun W h => hb'.keep (hCm W h).below
    have hCk1 : ∀ W, C W → W.cell? ⟨b, 5, none⟩ = some v1 := fun W h => by rw [(hk1.below (hCm W h).below hk1.lt).cell]; rfl
    have hCk2 : ∀ W, C W → W.cell? ⟨b', 5, none⟩ = some v2 := fun W h => by rw [(hk2.below (hCm W h).below hk2.lt).cell]; rfl
    have hC0 : C w := hmC _ (More.refl w)
    have hCd2 : ∀ W, C W → C { W with drawn := W.drawn + 1 } := fun W h => hmC _ (hCm W h).drew
    clear hCd hk1 hk2
    have HR := hide hres
    have HT := hide hT
    have HR1 := hide hrow1
    have HR2 := hide hrow2
    clear hres hT hrow1 hrow2
    unfold PT
    go_enter Tryz.func101, Tryz.ntmps101
    go_wp2
    rw [show Value.pointer (some ⟨b, 0, none⟩) = PT b from rfl, show Value.pointer (some ⟨b', 0, none⟩) = PT b' from rfl]
    clear hoth
    refine w_lit (C := C) (by kernel_rfl) (by kernel_rfl) (hCd2 _ hC0) ?_
    refine w_value (PT b) (by kernel_rfl) (fun w hw => x_move _ _ _ _ _ _ _ _ rfl w) ?_
    simp only [Act.put, List.setIfInBounds_toArray, List.set_cons_succ, List.set_cons_zero]
    refine w_value (PT b) (by kernel_rfl) (fun w hw => x_nilCheck _ _ _ _ _ _ _ _ rfl w) ?_
    simp only [Act.put, List.setIfInBounds_toArray, List.set_cons_succ, List.set_cons_zero]
    refine w_value (PT b) (by kernel_rfl) (fun w hw => x_field0 _ _ _ _ _ _ _ _ rfl w) ?_
    simp only [Act.put, List.setIfInBounds_toArray, List.set_cons_succ, List.set_cons_zero]
    refine w_value (.int .i64 r.op) (by kernel_rfl) (fun w hw => x_loadOp _ _ _ _ _ _ _ _ _ rfl w (hC1 w hw).cell0) ?_
    simp only [Act.put, List.setIfInBounds_toArray, List.set_cons_succ, List.set_cons_zero]
    refine w_value (PT b') (by kernel_rfl) (fun w hw => x_move _ _ _ _ _ _ _ _ rfl w) ?_
    simp only [Act.put, List.setIfInBounds_toArray, List.set_cons_succ, List.set_cons_zero]
    refine w_value (PT b') (by kernel_rfl) (fun w hw => x_nilCheck _ _ _ _ _ _ _ _ rfl w) ?_
    simp only [Act.put, List.setIfInBounds_toArray, List.set_cons_succ, List.set_cons_zero]
    refine w_value (PT b') (by kernel_rfl) (fun w hw => x_field0 _ _ _ _ _ _ _ _ rfl w) ?_
    simp only [Act.put, List.setIfInBounds_toArray, List.set_cons_succ, List.set_cons_zero]
    refine w_value (.int .i64 o.op) (by kernel_rfl) (fun w hw => x_loadOp _ _ _ _ _ _ _ _ _ rfl w (hC2 w hw).cell0) ?_
    simp only [Act.put, List.setIfInBounds_toArray, List.set_cons_succ, List.set_cons_zero]
    refine w_value (.bool ((r.op : Int) != (o.op : Int))) (by kernel_rfl) (fun w hw => x_neqOp _ _ _ _ _ _ _ _ _ _ rfl rfl w) ?_
    simp only [Act.put, List.setIfInBounds_toArray, List.set_cons_succ, List.set_cons_zero]
    refine w_nil ?_
    clear hC0
    intro w1 hC0
    by_cases hop : r.op = o.op
    · rw [show ((r.op : Int) != (o.op : Int)) = false from by simp [hop]]
      go_wp2
      refine w_lit (C := C) (by kernel_rfl) (by kernel_rfl) (hCd2 _ hC0) ?_
      refine w_value (PT b) (by kernel_rfl) (fun w hw => x_move _ _ _ _ _ _ _ _ rfl w) ?_
      simp only [Act.put, List.setIfInBounds_toArray, List.set_cons_succ, List.set_cons_zero]
      refine w_value (PT b) (by kernel_rfl) (fun w hw => x_nilCheck _ _ _ _ _ _ _ _ rfl w) ?_
      simp only [Act.put, List.setIfInBounds_toArray, List.set_cons_succ, List.set_cons_zero]
      refine w_value (.pointer (some ⟨b, 1, none⟩)) (by kernel_rfl) (fun w hw => x_field1 _ _ _ _ _ _ _ _ rfl w) ?_
      simp only [Act.put, List.setIfInBounds_toArray, List.set_cons_succ, List.set_cons_zero]
      refine w_value (SV r.set) (by kernel_rfl) (fun w hw => x_loadAt _ _ _ _ _ _ _ _ _ _ rfl w (hC1 w hw).cellS) ?_
      simp only [Act.put, List.setIfInBounds_toArray, List.set_cons_succ, List.set_cons_zero]
      refine w_value (PT b') (by kernel_rfl) (fun w hw => x_move _ _ _ _ _ _ _ _ rfl w) ?_
      simp only [Act.put, List.setIfInBounds_toArray, List.set_cons_succ, List.set_cons_zero]
      refine w_value (PT b') (by kernel_rfl) (fun w hw => x_nilCheck _ _ _ _ _ _ _ _ rfl w) ?_
      simp only [Act.put, List.setIfInBounds_toArray, List.set_cons_succ, List.set_cons_zero]
      refine w_value (.pointer (some ⟨b', 1, none⟩)) (by kernel_rfl) (fun w hw => x_field1 _ _ _ _ _ _ _ _ rfl w) ?_
      simp only [Act.put, List.setIfInBounds_toArray, List.set_cons_succ, List.set_cons_zero]
      refine w_value (SV o.set) (by kernel_rfl) (fun w hw => x_loadAt _ _ _ _ _ _ _ _ _ _ rfl w (hC2 w hw).cellS) ?_
      simp only [Act.put, List.setIfInBounds_toArray, List.set_cons_succ, List.set_cons_zero]
      refine w_value (.bool (r.set != o.set)) (by kernel_rfl) (fun w hw => x_neqS _ _ _ _ _ _ _ _ _ _ rfl rfl w) ?_
      simp only [Act.put, List.setIfInBounds_toArray, List.set_cons_succ, List.set_cons_zero]
      refine w_nil ?_
      clear hC0
      intro w1 hC0
      by_cases hset : r.set = o.set
      · rw [show (r.set != o.set) = false from by simp [hset]]
        have HK := hide (key_kids hop hset)
        go_wp2
        refine w_lit (C := C) (by kernel_rfl) (by kernel_rfl) (hCd2 _ hC0) ?_
        refine w_value (PT b) (by kernel_rfl) (fun w hw => x_move _ _ _ _ _ _ _ _ rfl w) ?_
        simp only [Act.put, List.setIfInBounds_toArray, List.set_cons_succ, List.set_cons_zero]
        refine w_value (PT b) (by kernel_rfl) (fun w hw => x_nilCheck _ _ _ _ _ _ _ _ rfl w) ?_
        simp only [Act.put, List.setIfInBounds_toArray, List.set_cons_succ, List.set_cons_zero]
        refine w_value (.pointer (some ⟨b, 5, none⟩)) (by kernel_rfl) (fun w hw => x_field2 _ _ _ _ _ _ _ _ rfl w) ?_
        simp only [Act.put, List.setIfInBounds_toArray, List.set_cons_succ, List.set_cons_zero]
        refine w_value (v1) (by kernel_rfl) (fun w hw => x_loadKids _ _ _ _ _ _ _ _ _ _ rfl w (hCk1 w hw)) ?_
        simp only [Act.put, List.setIfInBounds_toArray, List.set_cons_succ, List.set_cons_zero]
        refine w_value (PT b') (by kernel_rfl) (fun w hw => x_move _ _ _ _ _ _ _ _ rfl w) ?_
        simp only [Act.put, List.setIfInBounds_toArray, List.set_cons_succ, List.set_cons_zero]
        refine w_value (PT b') (by kernel_rfl) (fun w hw => x_nilCheck _ _ _ _ _ _ _ _ rfl w) ?_
        simp only [Act.put, List.setIfInBounds_toArray, List.set_cons_succ, List.set_cons_zero]
        refine w_value (.pointer (some ⟨b', 5, none⟩)) (by kernel_rfl) (fun w hw => x_field2 _ _ _ _ _ _ _ _ rfl w) ?_
        simp only [Act.put, List.setIfInBounds_toArray, List.set_cons_succ, List.set_cons_zero]
        refine w_value (v2) (by kernel_rfl) (fun w hw => x_loadKids _ _ _ _ _ _ _ _ _ _ rfl w (hCk2 w hw)) ?_
        simp only [Act.put, List.setIfInBounds_toArray, List.set_cons_succ, List.set_cons_zero]
        refine w_callC 131 #[v1, v2, .func (.func 101) #[] #[]] (.int .i64 (lexN (keysL r.kids ++ [0]) (keysL o.kids ++ [0]))) (by kernel_rfl) (x_call3 _ _ _ _ _ _ _ _ _ _ _ _ _ _ _ _ rfl rfl rfl rfl (enters_of Tryz.func131 (by kernel_rfl) rfl))
          (fun W hW => (compareFunc_any r.kids o.kids v1 v2 W (HR1.out.below (hCm W hW).below) (HR2.out.below (hCm W hW).below) (by rw [r.eta] at hr; exact hr.kid) (by rw [o.eta] at ho; exact ho.kid)
            (fun k hk o b b' W' hm h1 h2 h3 h4 => hkid k hk o b b' W' h1 h2 h3 h4 (HT.out.more ((hCm W hW).trans hm)))).mono fun e w' h => ⟨h.1, hmC _ ((hCm W hW).trans h.2)⟩) ?_
        simp only [Act.put, List.setIfInBounds_toArray, List.set_cons_succ, List.set_cons_zero]
        refine w_value (.int .i64 (lexN (keysL r.kids ++ [0]) (keysL o.kids ++ [0]))) (by kernel_rfl) (fun w hw => x_assign _ _ _ _ _ _ _ _ rfl w) ?_
        simp only [Act.put, List.setIfInBounds_toArray, List.set_cons_succ, List.set_cons_zero]
        refine w_nil ?_
        clear hC0
        intro w1 hC0
        have HM := hide (hCm _ hC0)
        clear hC0 hCm hmC hC1 hC2 hCk1 hCk2 hCd2 hkid
        go_wp2
        go_ret
        exact ⟨by rw [HR.out, HK.out]; rfl, HM.out⟩
      · rw [show (r.set != o.set) = true from by simp [hset]]
        have HK := hide (key_set hr ho hop hset)
        go_wp2
        refine w_lit (C := C) (by kernel_rfl) (by kernel_rfl) (hCd2 _ hC0) ?_
        refine w_value (PT b) (by kernel_rfl) (fun w hw => x_move _ _ _ _ _ _ _ _ rfl w) ?_
        simp only [Act.put, List.setIfInBounds_toArray, List.set_cons_succ, List.set_cons_zero]
        refine w_value (PT b) (by kernel_rfl) (fun w hw => x_nilCheck _ _ _ _ _ _ _ _ rfl w) ?_
        simp only [Act.put, List.setIfInBounds_toArray, List.set_cons_succ, List.set_cons_zero]
        refine w_value (.pointer (some ⟨b, 1, none⟩)) (by kernel_rfl) (fun w hw => x_field1 _ _ _ _ _ _ _ _ rfl w) ?_
        simp only [Act.put, List.setIfInBounds_toArray, List.set_cons_succ, List.set_cons_zero]
        refine w_value (SV r.set) (by kernel_rfl) (fun w hw => x_loadAt _ _ _ _ _ _ _ _ _ _ rfl w (hC1 w hw).cellS) ?_
        simp only [Act.put, List.setIfInBounds_toArray, List.set_cons_succ, List.set_cons_zero]
        refine w_value (PT b') (by kernel_rfl) (fun w hw => x_move _ _ _ _ _ _ _ _ rfl w) ?_
        simp only [Act.put, List.setIfInBounds_toArray, List.set_cons_succ, List.set_cons_zero]
        refine w_value (PT b') (by kernel_rfl) (fun w hw => x_nilCheck _ _ _ _ _ _ _ _ rfl w) ?_
        simp only [Act.put, List.setIfInBounds_toArray, List.set_cons_succ, List.set_cons_zero]
        refine w_value (.pointer (some ⟨b', 1, none⟩)) (by kernel_rfl) (fun w hw => x_field1 _ _ _ _ _ _ _ _ rfl w) ?_
        simp only [Act.put, List.setIfInBounds_toArray, List.set_cons_succ, List.set_cons_zero]
        refine w_value (SV o.set) (by kernel_rfl) (fun w hw => x_loadAt _ _ _ _ _ _ _ _ _ _ rfl w (hC2 w hw).cellS) ?_
        simp only [Act.put, List.setIfInBounds_toArray, List.set_cons_succ, List.set_cons_zero]
        refine w_callC 130 #[SV r.set, SV o.set] (.int .i64 (lexN (rnB (runsOf r.set)) (rnB (runsOf o.set)))) (by kernel_rfl) (x_call2 _ _ _ _ _ _ _ _ _ _ _ _ _ rfl rfl rfl (enters_of Tryz.func130 (by kernel_rfl) rfl))
          (fun W hW => (compareSets_any r.set o.set W (HT.out.more (hCm W hW))).mono fun e w' h => ⟨h.1, hmC _ ((hCm W hW).trans ⟨h.2.1, h.2.2⟩)⟩) ?_
        simp only [Act.put, List.setIfInBounds_toArray, List.set_cons_succ, List.set_cons_zero]
        refine w_value (.int .i64 (lexN (rnB (runsOf r.set)) (rnB (runsOf o.set)))) (by kernel_rfl) (fun w hw => x_assign _ _ _ _ _ _ _ _ rfl w) ?_
        simp only [Act.put, List.setIfInBounds_toArray, List.set_cons_succ, List.set_cons_zero]
        refine w_nil ?_
        clear hC0
        intro w1 hC0
        have HM := hide (hCm _ hC0)
        clear hC0 hCm hmC hC1 hC2 hCk1 hCk2 hCd2 hkid
        go_wp2
        go_ret
        exact ⟨by rw [HR.out, HK.out]; rfl, HM.out⟩
    · rw [show ((r.op : Int) != (o.op : Int)) = true from by simp; omega]
      have HK := hide (key_op hop)
      go_wp2
      refine w_lit (C := C) (by kernel_rfl) (by kernel_rfl) (hCd2 _ hC0) ?_
      refine w_value (PT b) (by kernel_rfl) (fun w hw => x_move _ _ _ _ _ _ _ _ rfl w) ?_
      simp only [Act.put, List.setIfInBounds_toArray, List.set_cons_succ, List.set_cons_zero]
      refine w_value (PT b) (by kernel_rfl) (fun w hw => x_nilCheck _ _ _ _ _ _ _ _ rfl w) ?_
      simp only [Act.put, List.setIfInBounds_toArray, List.set_cons_succ, List.set_cons_zero]
      refine w_value (PT b) (by kernel_rfl) (fun w hw => x_field0 _ _ _ _ _ _ _ _ rfl w) ?_
      simp only [Act.put, List.setIfInBounds_toArray, List.set_cons_succ, List.set_cons_zero]
      refine w_value (.int .i64 r.op) (by kernel_rfl) (fun w hw => x_loadOp _ _ _ _ _ _ _ _ _ rfl w (hC1 w hw).cell0) ?_
      simp only [Act.put, List.setIfInBounds_toArray, List.set_cons_succ, List.set_cons_zero]
      refine w_value (PT b') (by kernel_rfl) (fun w hw => x_move _ _ _ _ _ _ _ _ rfl w) ?_
      simp only [Act.put, List.setIfInBounds_toArray, List.set_cons_succ, List.set_cons_zero]
      refine w_value (PT b') (by kernel_rfl) (fun w hw => x_nilCheck _ _ _ _ _ _ _ _ rfl w) ?_
      simp only [Act.put, List.setIfInBounds_toArray, List.set_cons_succ, List.set_cons_zero]
      refine w_value (PT b') (by kernel_rfl) (fun w hw => x_field0 _ _ _ _ _ _ _ _ rfl w) ?_
      simp only [Act.put, List.setIfInBounds_toArray, List.set_cons_succ, List.set_cons_zero]
      refine w_value (.int .i64 o.op) (by kernel_rfl) (fun w hw => x_loadOp _ _ _ _ _ _ _ _ _ rfl w (hC2 w hw).cell0) ?_
      simp only [Act.put, List.setIfInBounds_toArray, List.set_cons_succ, List.set_cons_zero]
      refine w_callC 129 #[.int .i64 r.op, .int .i64 o.op] (.int .i64 (cmpN r.op o.op)) (by kernel_rfl) (x_call2 _ _ _ _ _ _ _ _ _ _ _ _ _ rfl rfl rfl (enters_of Tryz.func129 (by kernel_rfl) rfl))
          (fun W hW => (compareOp_any r.op o.op W).mono fun e w' h => ⟨h.1, h.2 ▸ hW⟩) ?_
      simp only [Act.put, List.setIfInBounds_toArray, List.set_cons_succ, List.set_cons_zero]
      refine w_value (.int .i64 (cmpN r.op o.op)) (by kernel_rfl) (fun w hw => x_assign _ _ _ _ _ _ _ _ rfl w) ?_
      simp only [Act.put, List.setIfInBounds_toArray, List.set_cons_succ, List.set_cons_zero]
      refine w_nil ?_
      clear hC0
      intro w1 hC0
      have HM := hide (hCm _ hC0)
      clear hC0 hCm hmC hC1 hC2 hCk1 hCk2 hCd2 hkid
      go_wp2
      go_ret
      exact ⟨by rw [HR.out, HK.out]; rfl, HM.out⟩

theorem ptr_nsame (a : Addr) (w : World) : (binOp .neq 30 (.pointer (some a)) (.pointer (some a))).run Tryz.prog w = .ok (.bool false) w := by
  have h := ptr_same a w
  simp only [binOp, Sem.run_bind] at h ⊢
  cases e : (Op.equal 30 (.pointer (some a)) (.pointer (some a))).run Tryz.prog w with
  | ok v w' =>
    rw [e] at h
    simp [Result.andThen] at h
    simp [Result.andThen, h.1, h.2]
  | _ => rw [e] at h; simp [Result.andThen] at h
theorem x_eqIntC (ρ : Operand → Value) (d : Option Tmp) (x : Operand) (n : Int) (t : TypeId) (pos : String) (af : Array Edge) (g : Option (Nat × Bool)) (u : Int) (hx : ρ x = .int .i64 u) (hy : ρ (.const (.int .i64 n)) = .int .i64 n) (w : World) :
    (execOp ρ { dst := d, op := .binOp .eql 3 x (.const (.int .i64 n)) 3, type := t, pos := pos, after := af, guard := g }).run Tryz.prog w = .ok (.value (.bool (u == n))) w := by
  simp [go_sem, hx, hy]
theorem x_eqIntB (ρ : Operand → Value) (d : Option Tmp) (x y : Operand) (t : TypeId) (pos : String) (af : Array Edge) (g : Option (Nat × Bool)) (u v : Int) (c : Bool) (hc : (u == v) = c) (hx : ρ x = .int .i64 u) (hy : ρ y = .int .i64 v) (w : World) :
    (execOp ρ { dst := d, op := .binOp .eql 3 x y 3, type := t, pos := pos, after := af, guard := g }).run Tryz.prog w = .ok (.value (.bool c)) w := by
  rw [← hc]; exact x_eqInt ρ d x y t pos af g u v hx hy w
theorem x_loadSize (ρ : Operand → Value) (d : Option Tmp) (x : Operand) (t : TypeId) (pos : String) (af : Array Edge) (g : Option (Nat × Bool)) (b o : Nat) (n : Int) (hx : ρ x = .pointer (some ⟨b, o, none⟩)) (w : World) (hc : w.cell? ⟨b, o, none⟩ = some (.int .i64 n)) :
    (execOp ρ { dst := d, op := .load 3 x, type := t, pos := pos, after := af, guard := g }).run Tryz.prog w = .ok (.value (.int .i64 n)) w := by
  simp [go_sem, hx, hc]

set_option maxHeartbeats 1000000 in
theorem same_re [Forb] (r o : RE) (b b' : Nat) (w : World) (hr : WfK r) (ho : WfK o) (hb : ReAt w b r) (hb' : ReAt w b' o) (hT : TabAt w) :
    Calls Tryz.prog 87 #[PT b, PT b'] w fun e w' => e = .returned (.bool (lexN r.key o.key == 0)) ∧ More w w' := by
  obtain ⟨v1, hk1, -⟩ := hb.row
  obtain ⟨v2, hk2, -⟩ := hb'.row
  have c6 := hk1.cell 6
  have d6 := hk2.cell 6
  simp only [reC, List.getElem?_toArray, List.getElem?_cons_zero, List.getElem?_cons_succ, PT] at c6 d6
  have hs1 := ptr_nsame ⟨b, 0, none⟩
  have hs2 := ptr_nsame ⟨b', 0, none⟩
  obtain ⟨C, hCd⟩ : ∃ C : World → Prop, C = fun W => More w W := ⟨_, rfl⟩
  have hCm : ∀ W, C W → More w W := fun W h => by rw [hCd] at h; exact h
  have hmC : ∀ W, More w W → C W := fun W h => by rw [hCd]; exact h
  have hC1 : ∀ W, C W → ReAt W b r := fun W h => hb.keep (hCm W h).below
  have hC2 : ∀ W, C W → ReAt W b' o := fun W h => hb'.keep (hCm W h).below
  have hC0 : C { w with drawn := w.drawn + 1 } := hmC _ (More.refl w).drew
  have hsz : r.size ≠ o.size → (lexN r.key o.key == 0) = false := fun h => beq_eq_false_iff_ne.2 fun e => h (by rw [key_inj hr ho (lexN_zero _ _ e)])
  obtain ⟨res, hres⟩ : ∃ res, res = (lexN r.key o.key == 0) := ⟨_, rfl⟩
  rw [← hres] at hsz ⊢
  have HR := hide hres
  have HZ := hide hsz
  have HT := hide hT
  clear hCd hk1 hk2 hres hsz hT
  unfold PT
  go_enter Tryz.func87, Tryz.ntmps87
  go_wp2
  rw [show Value.pointer (some ⟨b, 0, none⟩) = PT b from rfl, show Value.pointer (some ⟨b', 0, none⟩) = PT b' from rfl]
  clear hs1 hs2 c6 d6
  refine w_lit (C := C) (by kernel_rfl) (by kernel_rfl) hC0 ?_
  refine w_value (PT b) (by kernel_rfl) (fun w hw => x_move _ _ _ _ _ _ _ _ rfl w) ?_
  simp only [Act.put, List.setIfInBounds_toArray, List.set_cons_succ, List.set_cons_zero]
  refine w_value (PT b) (by kernel_rfl) (fun w hw => x_nilCheck _ _ _ _ _ _ _ _ rfl w) ?_
  simp only [Act.put, List.setIfInBounds_toArray, List.set_cons_succ, List.set_cons_zero]
  refine w_value (.pointer (some ⟨b, 8, none⟩)) (by kernel_rfl) (fun w hw => x_field5 _ _ _ _ _ _ _ _ rfl w) ?_
  simp only [Act.put, List.setIfInBounds_toArray, List.set_cons_succ, List.set_cons_zero]
  refine w_value (.int .i64 r.size) (by kernel_rfl) (fun w hw => x_loadSize _ _ _ _ _ _ _ _ _ _ rfl w (hC1 w hw).cell8) ?_
  simp only [Act.put, List.setIfInBounds_toArray, List.set_cons_succ, List.set_cons_zero]
  refine w_value (PT b') (by kernel_rfl) (fun w hw => x_move _ _ _ _ _ _ _ _ rfl w) ?_
  simp only [Act.put, List.setIfInBounds_toArray, List.set_cons_succ, List.set_cons_zero]
  refine w_value (PT b') (by kernel_rfl) (fun w hw => x_nilCheck _ _ _ _ _ _ _ _ rfl w) ?_
  simp only [Act.put, List.setIfInBounds_toArray, List.set_cons_succ, List.set_cons_zero]
  refine w_value (.pointer (some ⟨b', 8, none⟩)) (by kernel_rfl) (fun w hw => x_field5 _ _ _ _ _ _ _ _ rfl w) ?_
  simp only [Act.put, List.setIfInBounds_toArray, List.set_cons_succ, List.set_cons_zero]
  refine w_value (.int .i64 o.size) (by kernel_rfl) (fun w hw => x_loadSize _ _ _ _ _ _ _ _ _ _ rfl w (hC2 w hw).cell8) ?_
  simp only [Act.put, List.setIfInBounds_toArray, List.set_cons_succ, List.set_cons_zero]
  by_cases hz : r.size = o.size
  · refine w_value (.bool true) (by kernel_rfl) (fun w hw => x_eqIntB _ _ _ _ _ _ _ _ (r.size : Int) (o.size : Int) true (by simp [hz]) rfl rfl w) ?_
    simp only [Act.put, List.setIfInBounds_toArray, List.set_cons_succ, List.set_cons_zero]
    refine w_value (.bool true) (by kernel_rfl) (fun w hw => x_move _ _ _ _ _ _ _ _ rfl w) ?_
    simp only [Act.put, List.setIfInBounds_toArray, List.set_cons_succ, List.set_cons_zero]
    refine w_value (PT b) (by kernel_rfl) (fun w hw => x_move _ _ _ _ _ _ _ _ rfl w) ?_
    simp only [Act.put, List.setIfInBounds_toArray, List.set_cons_succ, List.set_cons_zero]
    refine w_value (PT b') (by kernel_rfl) (fun w hw => x_move _ _ _ _ _ _ _ _ rfl w) ?_
    simp only [Act.put, List.setIfInBounds_toArray, List.set_cons_succ, List.set_cons_zero]
    refine w_callC 101 #[PT b, PT b'] (.int .i64 (lexN r.key o.key)) (by kernel_rfl) (x_call2 _ _ _ _ _ _ _ _ _ _ _ _ _ rfl rfl rfl (enters_of Tryz.func101 (by kernel_rfl) rfl))
      (fun W hW => (reCompare_any r o b b' W hr ho (hC1 W hW) (hC2 W hW) (HT.out.more (hCm W hW))).mono fun e w' h => ⟨h.1, hmC _ ((hCm W hW).trans h.2)⟩) ?_
    simp only [Act.put, List.setIfInBounds_toArray, List.set_cons_succ, List.set_cons_zero]
    refine w_value (.bool (lexN r.key o.key == 0)) (by kernel_rfl) (fun w hw => x_eqIntC _ _ _ _ _ _ _ _ _ rfl rfl w) ?_
    simp only [Act.put, List.setIfInBounds_toArray, List.set_cons_succ, List.set_cons_zero]
    refine w_value (.bool (lexN r.key o.key == 0)) (by kernel_rfl) (fun w hw => x_pick _ _ _ _ _ _ _ _ _ true _ _ rfl rfl rfl w) ?_
    simp only [Act.put, List.setIfInBounds_toArray, List.set_cons_succ, List.set_cons_zero]
    refine w_value (.bool (lexN r.key o.key == 0)) (by kernel_rfl) (fun w hw => x_assign _ _ _ _ _ _ _ _ rfl w) ?_
    simp only [Act.put, List.setIfInBounds_toArray, List.set_cons_succ, List.set_cons_zero]
    refine w_nil ?_
    intro w1 hC1'
    have HM := hide (hCm _ hC1')
    clear hC0 hCm hmC hC1 hC2 hC1'
    go_wp2
    go_ret
    exact ⟨by rw [HR.out]; rfl, HM.out⟩
  · refine w_value (.bool false) (by kernel_rfl) (fun w hw => x_eqIntB _ _ _ _ _ _ _ _ (r.size : Int) (o.size : Int) false (beq_eq_false_iff_ne.2 (by omega)) rfl rfl w) ?_
    simp only [Act.put, List.setIfInBounds_toArray, List.set_cons_succ, List.set_cons_zero]
    refine w_value (.bool false) (by kernel_rfl) (fun w hw => x_move _ _ _ _ _ _ _ _ rfl w) ?_
    simp only [Act.put, List.setIfInBounds_toArray, List.set_cons_succ, List.set_cons_zero]
    refine w_skip (by kernel_rfl) ?_
    simp only [Act.put, List.setIfInBounds_toArray, List.set_cons_succ, List.set_cons_zero]
    refine w_skip (by kernel_rfl) ?_
    simp only [Act.put, List.setIfInBounds_toArray, List.set_cons_succ, List.set_cons_zero]
    refine w_skip (by kernel_rfl) ?_
    simp only [Act.put, List.setIfInBounds_toArray, List.set_cons_succ, List.set_cons_zero]
    refine w_skip (by kernel_rfl) ?_
    simp only [Act.put, List.setIfInBounds_toArray, List.set_cons_succ, List.set_cons_zero]
    refine w_value (.bool false) (by kernel_rfl) (fun w hw => x_pick _ _ _ _ _ _ _ _ _ false _ _ rfl rfl rfl w) ?_
    simp only [Act.put, List.setIfInBounds_toArray, List.set_cons_succ, List.set_cons_zero]
    refine w_value (.bool false) (by kernel_rfl) (fun w hw => x_assign _ _ _ _ _ _ _ _ rfl w) ?_
    simp only [Act.put, List.setIfInBounds_toArray, List.set_cons_succ, List.set_cons_zero]
    refine w_nil ?_
    intro w1 hC1'
    have HM := hide (hCm _ hC1')
    clear hC0 hCm hmC hC1 hC2 hC1'
    go_wp2
    go_ret
    exact ⟨by rw [HZ.out hz]; rfl, HM.out⟩
end Go.Proofs.YtjcfnmjjkadaeaaGreatDoor
/- A budget in memory: Grant, after, Take, Used. -/
namespace Go.Proofs.YtjcfnmjjkadaeaaGreatDoor
set_option maxRecDepth 100000
set_option linter.unusedSimpArgs false
set_option linter.unusedVariables false
open Go.RowKit

/-- A budget: g were granted, t were taken. -/
structure BudAt (w : World) (b : Nat) (g t : Int) : Prop where
  blk : Blk w b #[.int .i64 g, .int .i64 t] 96
  most : g ≤ 9223372036854775807
  ok : BudOk g t
theorem BudAt.below {w w' : World} {b B : Nat} {g t : Int} (h : BudAt w b g t) (hb : Below B w w') (hB : b < B) : BudAt w' b g t := ⟨h.blk.below hb hB, h.most, h.ok⟩
def errI (ok : Bool) : Int := if ok then 0 else 5

theorem load64_any (b i : Nat) (v : Int) (w : World) (hc : w.cell? ⟨b, i, none⟩ = some (.int .i64 v)) :
    Calls Tryz.prog 74 #[.pointer (some ⟨b, i, none⟩)] w fun e w' => e = .returned (.int .i64 v) ∧ w' = w := by
  have hld := run_call_load (P := Tryz.prog) Tryz.func107 (by kernel_rfl) (by kernel_rfl) (by kernel_rfl) .i64 (by kernel_rfl) hc
  go_enter Tryz.func74, Tryz.ntmps74
  go_wp2
  go_ret
  exact ⟨rfl, rfl⟩
theorem cas64_any (b i : Nat) (v n : Int) (w : World) (hc : w.cell? ⟨b, i, none⟩ = some (.int .i64 v)) (hf : w.frozen? ⟨b, i, none⟩ = false) :
    Calls Tryz.prog 76 #[.pointer (some ⟨b, i, none⟩), .int .i64 v, .int .i64 n] w fun e w' => e = .returned (.bool true) ∧ w' = w.setCell ⟨b, i, none⟩ (.int .i64 n) := by
  have hcas := run_call_cas_hit (P := Tryz.prog) Tryz.func108 (by kernel_rfl) (by kernel_rfl) (by kernel_rfl) .i64 (by kernel_rfl) (y := n) hc hf
  go_enter Tryz.func76, Tryz.ntmps76
  go_wp2
  go_ret
  exact ⟨rfl, rfl⟩

theorem i64_not (t : Int) (h : -9223372036854775808 ≤ t ∧ t ≤ 9223372036854775807) : bits .xor .i64 (-1) t = -t - 1 := by
  have key : (BitVec.ofInt 64 (-1) ^^^ BitVec.ofInt 64 t).toNat = 2 ^ 64 - 1 - (t % ((2 ^ 64 : Nat) : Int)).toNat := by
    rw [show BitVec.ofInt 64 (-1) = BitVec.allOnes 64 from by decide, BitVec.allOnes_xor, BitVec.toNat_not, BitVec.toNat_ofInt]
  show IntKind.i64.wrap ((BitVec.ofInt 64 (-1) ^^^ BitVec.ofInt 64 t).toNat : Nat) = -t - 1
  rw [key, IntKind.wrap_i64]
  omega
theorem after_any (b : Nat) (g t n : Int) (w : World) (h : BudAt w b g t) (hn : 0 ≤ n ∧ n ≤ 9223372036854775807) :
    Calls Tryz.prog 75 #[PT b, .int .i64 t, .int .i64 n] w fun e w' => e = .returned (.tuple #[.int .i64 (aft g t n).1, .int .i64 (errI (aft g t n).2)]) ∧ w' = w := by
  have c0 := h.blk.cell 0
  simp only [List.getElem?_toArray, List.getElem?_cons_zero] at c0
  have hmost := h.most
  have hok := h.ok
  unfold BudOk usedI at hok
  clear h
  unfold PT
  go_enter Tryz.func75, Tryz.ntmps75
  by_cases h0 : n = 0
  · subst h0
    go_wp2
    exact bodyPost_ret (v := .tuple #[.int .i64 t, .int .i64 0]) (by simp [results, Tryz.results75, go_sem]) rfl ⟨rfl, rfl⟩
  · have d0 : (n == 0) = false := beq_eq_false_iff_ne.2 h0
    by_cases h1 : t < 0
    · have e : aft g t n = (t, false) := by unfold aft; rw [if_neg h0, if_pos h1]
      rw [e]
      clear hok hmost e hn h0
      go_wp2
      exact bodyPost_ret (v := .tuple #[.int .i64 t, .int .i64 5]) (by simp [results, Tryz.results75, go_sem]) rfl ⟨rfl, rfl⟩
    · rw [if_neg h1] at hok
      have hs : wrap64 (g - t) = g - t := by unfold wrap64; omega
      have hnt : bits .xor .i64 (-1) t = -t - 1 := i64_not t (by omega)
      by_cases h2 : g - t < n
      · have e : aft g t n = (-t - 1, false) := by unfold aft; rw [if_neg h0, if_neg h1, if_pos h2]
        have hx : wrap64 (-t - 1) = -t - 1 := by unfold wrap64; omega
        rw [e]
        clear hok hmost e hn h0
        go_wp2
        exact bodyPost_ret (v := .tuple #[.int .i64 (-t - 1), .int .i64 5]) (by simp [results, Tryz.results75, go_sem]) rfl ⟨rfl, rfl⟩
      · have e : aft g t n = (t + n, true) := by unfold aft; rw [if_neg h0, if_neg h1, if_neg h2]
        have hx : wrap64 (t + n) = t + n := by unfold wrap64; omega
        rw [e]
        clear hok hmost e hn h0
        go_wp2
        exact bodyPost_ret (v := .tuple #[.int .i64 (t + n), .int .i64 0]) (by simp [results, Tryz.results75, go_sem]) rfl ⟨rfl, rfl⟩

theorem take_any (b : Nat) (g t n : Int) (w : World) (h : BudAt w b g t) (hn : 0 ≤ n ∧ n ≤ 9223372036854775807) :
    Calls Tryz.prog 40 #[PT b, .int .i64 n] w fun e w' => e = .returned (.int .i64 (errI (aft g t n).2)) ∧ BudAt w' b g (aft g t n).1 ∧ w' = w.setCell ⟨b, 1, none⟩ (.int .i64 (aft g t n).1) := by
  have H := hide h
  have c0 := h.blk.cell 0
  have c1 := h.blk.cell 1
  have f1 := h.blk.frozen 1
  simp only [List.getElem?_toArray, List.getElem?_cons_zero, List.getElem?_cons_succ] at c0 c1
  have hld := hide (load64_any b 1 t w c1)
  have haf := hide (after_any b g t n w h hn)
  have hcas := hide (cas64_any b 1 t (aft g t n).1 w c1 f1)
  have hd : decide (n < 0) = false := decide_eq_false (by omega)
  clear h f1 c0 c1
  unfold PT at haf
  unfold PT
  go_enter Tryz.func40, Tryz.ntmps40
  go_wp2
  go_loopw [5] (fun _ wr => wr = w) (fun _ _ => 0)
  case atStart => rfl
  case round =>
    subst hrel
    go_wp2_with fail
    refine hld.out.mono ?_
    rintro e w' ⟨rfl, rfl⟩
    go_wp2_with fail
    refine haf.out.mono ?_
    rintro e w' ⟨rfl, rfl⟩
    go_wp2_with fail
    refine hcas.out.mono ?_
    rintro e w' ⟨rfl, rfl⟩
    go_wp2
    go_ret
    exact ⟨rfl, ⟨H.out.blk.set 1 _, H.out.most, aft_ok H.out.ok hn.1⟩, rfl⟩
theorem grant_any (n : Int) (w : World) (hn : n ≤ 9223372036854775807) :
    Calls Tryz.prog 12 #[.int .i64 n] w fun e w' => ∃ b, e = .returned (PT b) ∧ BudAt w' b (max n 0) 0 ∧ w.heap.size ≤ b ∧ Below w.heap.size w w' := by
  go_enter Tryz.func12, Tryz.ntmps12
  go_wp2
  all_goals go_ret
  · refine ⟨w.heap.size, rfl, ⟨?_, by omega, by unfold BudOk usedI; simp; omega⟩, Nat.le_refl _, (Below.refl _ _).alloc (Nat.le_refl _) _⟩
    rw [show max n 0 = 0 from by omega]
    exact Blk.new _ _ _
  · refine ⟨w.heap.size, rfl, ⟨?_, by omega, by unfold BudOk usedI; simp; omega⟩, Nat.le_refl _, (Below.refl _ _).alloc (Nat.le_refl _) _⟩
    rw [show max n 0 = n from by omega]
    exact Blk.new _ _ _
end Go.Proofs.YtjcfnmjjkadaeaaGreatDoor
