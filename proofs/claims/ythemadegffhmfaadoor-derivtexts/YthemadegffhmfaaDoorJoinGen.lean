/- Texts of this claim put together: Quiet3, Held, SetG, Row, MathNext, Marks, Gen. -/
import Derived.Test.YthemadegffhmfaaDoorJoinQuietX
import Derived.Deep.RegionHeld3
import Derived.Test.YthemadegffhmfaaDoorJoinSetD
import Derived.Deep.AppendLies
import Derived.Deep.MidRow
import Derived.Laws.BytesArg
import Derived.BigGuardIn
/- The quiet walk behind a structure, so that no tactic unfolds a goal with guarded operations. -/
namespace Go.Proofs.YthemadegffhmfaaDoor
set_option maxRecDepth 100000
open Go.RowKit

structure WQ (ops : Array Oper) (C : World → Prop) (Q : Act → Prop) (l : List Oper) (a : Act) : Prop where
  out : wpQuiet Tryd.prog ops C Q l a

section
variable {C : World → Prop} {ops : Array Oper} {Q : Act → Prop} {a : Act} {o : Oper} {rest : List Oper}
theorem w_skip (hw : Region.wanted o (yielded ops a.tmps) = false) (h : WQ ops C Q rest (a.put o.dst undef)) : WQ ops C Q (o :: rest) a := ⟨q_skip hw h.out⟩
theorem w_value (v : Value) (hw : Region.wanted o (yielded ops a.tmps) = true) (h : ∀ w, C w → (execOp a.eval o).run Tryd.prog w = .ok (.value v) w) (hk : WQ ops C Q rest (a.put o.dst v)) : WQ ops C Q (o :: rest) a :=
  ⟨q_want hw fun _ hK => q_value v h (hK _ hk.out)⟩
theorem w_call (hG : Grows C) (f : FuncId) (vs : Array Value) (v : Value) (hw : Region.wanted o (yielded ops a.tmps) = true) (h : ∀ w, (execOp a.eval o).run Tryd.prog w = .ok (.enter f vs) w)
    (hc : ∀ w, C w → Calls Tryd.prog f vs w fun e w' => e = .returned v ∧ Below w.heap.size w w') (hk : WQ ops C Q rest (a.put o.dst v)) : WQ ops C Q (o :: rest) a :=
  ⟨q_want hw fun _ hK => q_call hG f vs v h hc (hK _ hk.out)⟩
theorem w_nil (h : Q a) : WQ ops C Q [] a := ⟨wpQuiet_nil h⟩
theorem w_lit {id : Nat} {Q' : Exit → Act → World → Prop} {w : World} {l : List Oper} (hm : (Tryd.prog).follows .mixedOrders = true) (hB : Region.lexB .any l.toArray = true) (hC : C { w with drawn := w.drawn + 1 })
    (h : WQ l.toArray C (fun a' => ∀ w', C w' → Q' .normal a' w') l a) : (Code.region id l.toArray true).wp Tryd.prog Q' a w :=
  quiet_lit hm hB hC h.out
end
end Go.Proofs.YthemadegffhmfaaDoor
/- Moves of a walk through a region that draws its order, whose loads are taken first. -/
namespace Go.Proofs.YthemadegffhmfaaDoor
set_option maxRecDepth 100000
open Go.RowKit

section
variable {ops : Array Oper} {S : World → Prop} {Q : Exit → Act → World → Prop} {fuel : Nat} {listed : Array Bool} {a : Act} {w : World} {oi : Oper} {rest : List Oper}
theorem at_drop {i : Nat} (hd : ops.toList.drop i = oi :: rest) : ops[i]? = some oi := by
  have h : (ops.toList.drop i)[0]? = some oi := by rw [hd]; rfl
  rw [List.getElem?_drop] at h
  simpa using h
theorem h_take (i : Nat) (v : Value) (hi : ops.toList.drop i = oi :: rest) (hs : Region.noSelect ops = true) (hf : Region.free .any ops listed i = true) (hr : (Region.ready .any ops listed).contains i = true)
    (hw : Region.wanted oi (yielded ops a.tmps) = true) (hv : ∀ w, S w → (execOp a.eval oi).run Tryd.prog w = .ok (.value v) w) (hS : S w)
    (h : wpAnyH Tryd.prog .any ops (NoPanic Q) S fuel (listed.setIfInBounds i true) (a.put oi.dst v) w) : wpAnyH Tryd.prog .any ops (NoPanic Q) S (fuel + 1) listed a w :=
  wpAnyH_take (at_drop hi) hs hf hr (fun _ _ _ h => (h : False).elim) (.inl ⟨hw, hv⟩) hS h
theorem h_call (i : Nat) (f : FuncId) (vs : Array Value) (v : Value) (hi : ops.toList.drop i = oi :: rest) (hr : Region.ready .any ops listed = [i])
    (hw : Region.wanted oi (yielded ops a.tmps) = true) (hv : (execOp a.eval oi).run Tryd.prog w = .ok (.enter f vs) w)
    (hc : Calls Tryd.prog f vs w fun e w' => e = .returned v ∧ S w')
    (h : ∀ w', S w' → wpAnyH Tryd.prog .any ops (NoPanic Q) S fuel (listed.setIfInBounds i true) (a.put oi.dst v) w') : wpAnyH Tryd.prog .any ops (NoPanic Q) S (fuel + 1) listed a w := by
  refine wpAnyH_all hr (by simp) ?_
  intro j hj
  obtain rfl : j = i := by simpa using hj
  unfold wpOp
  simp only [at_drop hi, hw, if_true]
  refine .inl ?_
  unfold Oper.wp
  rw [hv, Oper.upon_enter]
  refine hc.mono ?_
  rintro e w' ⟨rfl, hS⟩
  exact ⟨hS, h w' hS⟩
theorem h_step (i : Nat) (w' : World) (hi : ops.toList.drop i = oi :: rest) (hr : Region.ready .any ops listed = [i])
    (hw : Region.wanted oi (yielded ops a.tmps) = true) (hv : (execOp a.eval oi).run Tryd.prog w = .ok .skip w') (hS : S w')
    (h : wpAnyH Tryd.prog .any ops (NoPanic Q) S fuel (listed.setIfInBounds i true) (a.put oi.dst undef) w') : wpAnyH Tryd.prog .any ops (NoPanic Q) S (fuel + 1) listed a w := by
  refine wpAnyH_all hr (by simp) ?_
  intro j hj
  obtain rfl : j = i := by simpa using hj
  unfold wpOp
  simp only [at_drop hi, hw, if_true]
  refine .inl ?_
  unfold Oper.wp
  rw [hv, Oper.upon_skip]
  exact ⟨hS, h⟩
theorem h_alloc (i : Nat) (v : Value) (w' : World) (hi : ops.toList.drop i = oi :: rest) (hr : Region.ready .any ops listed = [i])
    (hw : Region.wanted oi (yielded ops a.tmps) = true) (hv : (execOp a.eval oi).run Tryd.prog w = .ok (.value v) w') (hS : S w')
    (h : wpAnyH Tryd.prog .any ops (NoPanic Q) S fuel (listed.setIfInBounds i true) (a.put oi.dst v) w') : wpAnyH Tryd.prog .any ops (NoPanic Q) S (fuel + 1) listed a w := by
  refine wpAnyH_all hr (by simp) ?_
  intro j hj
  obtain rfl : j = i := by simpa using hj
  unfold wpOp
  simp only [at_drop hi, hw, if_true]
  refine .inl ?_
  unfold Oper.wp
  rw [hv, Oper.upon_value]
  exact ⟨hS, h⟩
end
end Go.Proofs.YthemadegffhmfaaDoor
/- Contract: the iterator that Runs hands out. -/
namespace Go.Proofs.YthemadegffhmfaaDoor
set_option maxRecDepth 100000
open Go.RowKit Go.Shelf
attribute [local go_sem] Oper.semAt_some

/-- The cells of the walk through a set's runs: yield; the first and the last byte of the open run; whether one is open. -/
def RunCells (N l : Nat) (cur : Option (Nat × Nat)) (W : World) : Prop :=
  Blk W N #[.func (.yield l) #[] #[]] 115 ∧ Blk W (N + 1) #[.int .u8 ((cur.map Prod.fst).getD 0 : Nat)] 5 ∧ Blk W (N + 2) #[.int .u8 ((cur.map Prod.snd).getD 0 : Nat)] 5 ∧ Blk W (N + 3) #[.bool cur.isSome] 4

theorem RunCells.agree {N l : Nat} {cur : Option (Nat × Nat)} {K : Nat → Prop} {W W' : World} (h : RunCells N l cur W) (ha : Agree K W W') (hk : ∀ k, N ≤ k → k < N + 4 → K k) : RunCells N l cur W' :=
  ⟨h.1.agree ha (hk _ (by omega) (by omega)), h.2.1.agree ha (hk _ (by omega) (by omega)), h.2.2.1.agree ha (hk _ (by omega) (by omega)), h.2.2.2.agree ha (hk _ (by omega) (by omega))⟩

/-- The body's blocks: those of the loop around, and the four cells. -/
structure RunOwn (N : Nat) (Mi Mo : Nat → Prop) : Prop where
  iff : ∀ k, Mi k ↔ Mo k ∨ (N ≤ k ∧ k < N + 4)
  out : ∀ k, N ≤ k → k < N + 5 → ¬ Mo k

theorem RunOwn.foot {N : Nat} {Mi Mo Mo' : Nat → Prop} {W W' : World} (h : RunOwn N Mi Mo) (hf : Foot Mo Mo' W W') (hN : N + 5 ≤ W.heap.size) :
    RunOwn N (fun k => Mo' k ∨ (N ≤ k ∧ k < N + 4)) Mo' ∧ Foot Mi (fun k => Mo' k ∨ (N ≤ k ∧ k < N + 4)) W W' := by
  refine ⟨⟨fun k => Iff.rfl, fun k h1 h2 => hf.out (by omega) (h.out k h1 h2)⟩, fun k hk => ?_, hf.agree.mono fun k _ hk hm => hk ((h.iff k).2 (.inl hm))⟩
  rcases hk with hk | hk
  · obtain ⟨h1, h2⟩ := hf.into k hk
    exact ⟨h1.elim (fun h1 => .inl ((h.iff k).2 (.inl h1))) .inr, h2⟩
  · exact ⟨.inl ((h.iff k).2 (.inr hk)), by have := hf.agree.size; omega⟩

theorem RunCells.opened {N l : Nat} {cur : Option (Nat × Nat)} {W : World} (h : RunCells N l cur W) (x : Nat) :
    RunCells N l (some (x, x)) (((W.setCell ⟨N + 1, 0, none⟩ (.int .u8 x)).setCell ⟨N + 1 + 1, 0, none⟩ (.int .u8 x)).setCell ⟨N + 1 + 1 + 1, 0, none⟩ (.bool true)) := by
  obtain ⟨g0, g1, g2, g3⟩ := h
  exact ⟨((g0.setOther _ _ (by simp)).setOther _ _ (by simp; omega)).setOther _ _ (by simp; omega), ((g1.set 0 _).setOther _ _ (by simp)).setOther _ _ (by simp),
    ((g2.setOther _ _ (by simp)).set 0 _).setOther _ _ (by simp), ((g3.setOther _ _ (by simp)).setOther _ _ (by simp)).set 0 _⟩
theorem RunCells.last {N l f la : Nat} {W : World} (h : RunCells N l (some (f, la)) W) (x : Nat) : RunCells N l (some (f, x)) (W.setCell ⟨N + 1 + 1, 0, none⟩ (.int .u8 x)) := by
  obtain ⟨g0, g1, g2, g3⟩ := h
  exact ⟨g0.setOther _ _ (by simp; omega), g1.setOther _ _ (by simp), g2.set 0 _, g3.setOther _ _ (by simp)⟩

/-- Between two bytes. -/
def RunI (N l : Nat) (J : List (Nat × Nat) → (Nat → Prop) → World → Prop) (pre : List Nat) (Mi : Nat → Prop) (W : World) : Prop :=
  ∃ Mo, RunOwn N Mi Mo ∧ N + 5 ≤ W.heap.size ∧ (∀ k, Mo k → k < W.heap.size) ∧ J (runSt pre).1 Mo W ∧ RunCells N l (runSt pre).2 W
/-- The loop around has been left. -/
def RunIx (N : Nat) (s : BitVec 256) (Jx : List (Nat × Nat) → (Nat → Prop) → World → Prop) (c : Code) (_ : List Nat) (Mi : Nat → Prop) (W : World) : Prop :=
  c = .ret ∧ ∃ Mo em, RunOwn N Mi Mo ∧ em <+: runsOf s ∧ Jx em Mo W

theorem RunI.mk {N l : Nat} {J : List (Nat × Nat) → (Nat → Prop) → World → Prop} {pre : List Nat} {em : List (Nat × Nat)} {cur : Option (Nat × Nat)} {Mi Mo : Nat → Prop} {W : World}
    (hs : runSt pre = (em, cur)) (ho : RunOwn N Mi Mo) (hz : N + 5 ≤ W.heap.size) (hlt : ∀ k, Mo k → k < W.heap.size) (hj : J em Mo W) (hc : RunCells N l cur W) : RunI N l J pre Mi W :=
  ⟨Mo, ho, hz, hlt, by rw [hs]; exact hj, by rw [hs]; exact hc⟩

theorem runFoot {N : Nat} {M Mi Mo : Nat → Prop} {W W0 W1 : World} (hN : W.heap.size = N) (hb : Below N W W0 ∧ W.drawn ≤ W0.drawn) (hF : Foot (fun k => M k ∨ (N ≤ k ∧ k < N + 4)) Mi W0 W1) (ho : RunOwn N Mi Mo) : Foot M Mo W W1 := by
  have hs := hb.1.size
  refine ⟨fun k hk => ?_, ?_⟩
  · obtain ⟨h1, h2⟩ := hF.into k ((ho.iff k).2 (.inl hk))
    refine ⟨?_, h2⟩
    rcases h1 with (h1 | h1) | h1
    · exact .inl h1
    · exact .inr (by omega)
    · exact .inr (by omega)
  · refine (Agree.of_drawn (K := fun k => ¬ M k) (hN ▸ hb.1) hb.2).trans' hF.agree fun k hk hn h => ?_
    rcases h with h | h
    · exact hn h
    · omega

set_option maxRecDepth 100000 in
set_option maxHeartbeats 2000000 in
theorem runs1_any (s : BitVec 256) (Bs : Nat) (W : World) (hB : Blk W Bs (WS s) 39) (hT : TabAt W) :
    Iter Tryd.prog 95 #[.pointer (some ⟨Bs, 0, none⟩)] (fun x : Nat × Nat => #[.int .u8 x.1, .int .u8 x.2]) (runsOf s) (fun k => k = Bs ∨ k = 1) W := by
  intro l J Jx M hJ hJx hY hM hown h0
  have c0 := hB.cell 0; have c1 := hB.cell 1; have c2 := hB.cell 2; have c3 := hB.cell 3
  simp only [List.getElem?_toArray, List.getElem?_cons_zero, List.getElem?_cons_succ] at c0 c1 c2 c3
  have hBs := hB.lt
  have hBs1 : Bs < W.heap.size + 1 := by omega
  have hBs2 : Bs < W.heap.size + 1 + 1 := by omega
  have hBs3 : Bs < W.heap.size + 1 + 1 + 1 := by omega
  refine callsIn_of_wp_marks Tryd.func95 rfl trivial ?_ rfl
  simp only [Tryd.ntmps95, List.size_toArray, List.length_cons, List.length_nil, Nat.reduceAdd, Nat.reduceSub, Array.replicate_succ, Array.replicate_zero, List.push_toArray, List.append_toArray, List.nil_append, List.cons_append]
  gi_wp2_with fail
  refine ⟨trivial, rfl, ?_⟩
  refine (callsIn_wide.2 (bytes_any s _)).mono ?_
  rintro e w1 ⟨rfl, rfl⟩
  gi_wp2
  refine wpIn_world (fun W' => RunCells W.heap.size l none W' ∧ Blk W' (W.heap.size + 4) (WS s) 39 ∧ Below W.heap.size W W' ∧ W.drawn ≤ W'.drawn) ⟨⟨?_, ?_, ?_, ?_⟩, ?_, ?_, Nat.le_refl _⟩ ?_
  · exact ((((Blk.newAt (by simp) _ _).alloc _).alloc _).alloc _).alloc _
  · exact (((Blk.newAt (by simp) _ _).alloc _).alloc _).alloc _
  · exact ((Blk.newAt (by simp) _ _).alloc _).alloc _
  · exact (Blk.newAt (by simp) _ _).alloc _
  · exact Blk.newAt (by simp) _ _
  · exact (((((Below.refl _ _).alloc (Nat.le_refl _) _).alloc (by simp) _).alloc (by simp; omega) _).alloc (by simp; omega) _).alloc (by simp; omega) _
  rintro W0 ⟨hcells, k6, hbel⟩
  have z6 := k6.lt
  have hT0 : TabAt W0 := hT.agree (Agree.of_all (K := fun _ => True) hbel.1) trivial
  have hG : 1 < W.heap.size := World.block_lt_of_cell? _ _ (hT 0 (by omega))
  have hMG : ¬ M 1 := hown _ (.inr rfl)
  have HT := hide hT0
  have HB := hide hbel
  have HY := hide hY
  clear hT hT0 hbel c0 c1 c2 c3 hBs hBs1 hBs2 hBs3 hY
  have h00 : J [] M W0 := hJ _ _ _ _ h0 (Agree.of_drawn HB.out.1 HB.out.2)
  generalize hN : W.heap.size = N at *
  refine wpIn_rangeM (gf := 98) (lb := #[.pointer (some ⟨N + 4, 0, none⟩)]) rfl enters_bytes (encs := fun x : Nat => #[.int .u8 x]) (xs := bytesOf s)
    (own := fun k => k = N + 4 ∨ k = 1)
    (fun W1 hb => bytes1_any s _ W1 (k6.below hb z6) (HT.out.agree (Agree.of_all (K := fun _ => True) hb) trivial)) (fun _ => rfl)
    (RunI N l J)
    (RunIx N s Jx)
    (fun _ Mi A B h ha => by
      obtain ⟨Mo, ho, hz, hlt, hj, hc⟩ := h
      exact ⟨Mo, ho, Nat.le_trans hz ha.size, fun k hk => Nat.lt_of_lt_of_le (hlt k hk) ha.size, hJ _ _ _ _ hj (ha.mono fun k _ hk => (ho.iff k).2 (.inl hk)), hc.agree ha fun k h1 h2 => (ho.iff k).2 (.inr ⟨h1, h2⟩)⟩)
    (fun _ _ Mi A B h ha => by
      obtain ⟨rfl, Mo, em, ho, hp, hj⟩ := h
      exact ⟨rfl, Mo, em, ho, hp, hJx _ _ _ _ hj (ha.mono fun k _ hk => (ho.iff k).2 (.inl hk))⟩)
    (fun k => M k ∨ (N ≤ k ∧ k < N + 4)) (fun k hk => by rcases hk with h | h; have := hM k h; omega; omega)
    (fun k hk => by
      rcases hk with rfl | rfl
      · exact ⟨fun h => by rcases h with h | h; have := hM _ h; omega; omega, by omega⟩
      · exact ⟨fun h => by rcases h with h | h; exact hMG h; omega, by omega⟩)
    ⟨M, ⟨fun k => Iff.rfl, fun k h1 h2 hm => by have := hM k hm; omega⟩, by omega, fun k hk => by have := hM k hk; omega, h00, hcells⟩
    (fun x => { tmps := #[.func (.yield l) #[] #[], .pointer (some ⟨Bs, 0, none⟩), .pointer (some ⟨N, 0, none⟩), .pointer (some ⟨N + 1, 0, none⟩), .pointer (some ⟨N + 1 + 1, 0, none⟩), .pointer (some ⟨N + 1 + 1 + 1, 0, none⟩), .int .u8 x,
        SV s, .func (.func 98) #[] #[.pointer (some ⟨N + 1 + 1 + 1 + 1, 0, none⟩)], .int .u8 x,
        undef, undef, undef, undef, undef, undef, undef, undef, undef, undef, undef, undef, undef, undef, undef, undef, undef, undef, undef, undef, undef, undef, undef], defers := [] }) ?assign ?body ?done ?stop
  case assign =>
    intro l x W K hK
    gi_wp2
    exact hK
  case body =>
    rintro l' pre x Mi W1 hpre ⟨Mo, ho, hz, hlt, hj, hc⟩ hMi
    obtain ⟨em, cur, hst⟩ : ∃ em cur, runSt pre = (em, cur) := ⟨_, _, rfl⟩
    have hsn := runSt_snoc pre x
    rw [hst] at hj hc hsn
    have hx := bytes_prefix_lt s pre x hpre
    obtain ⟨g0, g1, g2, g3⟩ := hc
    have m1 : Mi (N + 1) := (ho.iff _).2 (.inr (by omega))
    have m2 : Mi (N + 2) := (ho.iff _).2 (.inr (by omega))
    have m3 : Mi (N + 3) := (ho.iff _).2 (.inr (by omega))
    have f1 := g1.frozen 0; have f2 := g2.frozen 0; have f3 := g3.frozen 0
    have e0 := g0.cell 0; have e1 := g1.cell 0; have e2 := g2.cell 0; have e3 := g3.cell 0
    simp only [List.getElem?_toArray, List.getElem?_cons_zero] at e0 e1 e2 e3
    have HPre := hide hpre
    have HO := hide ho
    have HJ := hide hj
    have HS := hide hst
    have HSN := hide hsn
    clear hpre ho hj hst hsn
    have hcc : RunCells N l cur W1 := ⟨g0, g1, g2, g3⟩
    have HC := hide hcc
    clear hcc
    have hag3 : Agree (fun k => ¬ Mi k) W1 (((W1.setCell ⟨N + 1, 0, none⟩ (.int .u8 x)).setCell ⟨N + 1 + 1, 0, none⟩ (.int .u8 x)).setCell ⟨N + 1 + 1 + 1, 0, none⟩ (.bool true)) :=
      ((Agree.setCell _ _ _ (fun h => h m1)).trans (Agree.setCell _ _ _ (fun h => h m2))).trans (Agree.setCell _ _ _ (fun h => h m3))
    have HA3 := hide hag3
    clear hag3
    cases cur with
    | none =>
      simp only [Option.map_none, Option.getD_none, Option.isSome_none] at e1 e2 e3
      gi_wp2
      refine ⟨fun _ _ => trivial, ?_⟩
      gi_wp2
      exact ⟨Mi, Foot.same hMi HA3.out, RunI.mk HSN.out HO.out (Nat.le_trans hz HA3.out.size) (fun k hk => Nat.lt_of_lt_of_le (hlt k hk) HA3.out.size)
        (hJ _ _ _ _ HJ.out (((Agree.setCell _ _ _ (HO.out.out _ (by simp) (by simp))).trans (Agree.setCell _ _ _ (HO.out.out _ (by simp; omega) (by simp)))).trans (Agree.setCell _ _ _ (HO.out.out _ (by simp; omega) (by simp))))) (HC.out.opened x)⟩
    | some r =>
      obtain ⟨f, la⟩ := r
      simp only [Option.map_some, Option.getD_some, Option.isSome_some] at e1 e2 e3
      obtain ⟨q, hq⟩ := runSt_last pre f la (by rw [HS.out])
      have hnx := HPre.out
      rw [hq] at hnx
      obtain ⟨hl1, hl2⟩ := bytes_next s q la x hnx
      clear hq hnx
      by_cases hb : x = la + 1
      · have hb' : ((x : Int) - (la : Int) == 1) = true := by rw [beq_iff_eq]; omega
        have HB1 := hide hb
        clear hb
        gi_wp2
        have hag : Agree (fun k => ¬ Mi k) W1 (W1.setCell ⟨N + 1 + 1, 0, none⟩ (.int .u8 x)) := Agree.setCell _ _ _ (fun h => h m2)
        refine ⟨Mi, Foot.same hMi hag, RunI.mk (cur := some (f, x)) (em := em) ?_ HO.out (Nat.le_trans hz hag.size) (fun k hk => Nat.lt_of_lt_of_le (hlt k hk) hag.size)
          (hJ _ _ _ _ HJ.out (Agree.setCell _ _ _ (HO.out.out _ (by simp; omega) (by simp)))) (HC.out.last x)⟩
        rw [HSN.out]; simp only [runStep]; rw [if_pos HB1.out]
      · have hb' : ((x : Int) - (la : Int) == 1) = false := by rw [beq_eq_false_iff_ne]; omega
        have HB1 := hide hb
        clear hb
        have hsn2 : runSt (pre ++ [x]) = (em ++ [(f, la)], some (x, x)) := by rw [HSN.out]; simp only [runStep]; rw [if_neg HB1.out]
        have hem : em ++ [(f, la)] <+: runsOf s := by
          have := runSt_prefix HPre.out
          rw [hsn2] at this
          exact this
        obtain ⟨fn, tmps, assign, body, hyy, hR⟩ := HY.out em (f, la) Mo W1 hem HJ.out hlt
        have HR := hide hR
        have HE := hide hem
        have HS2 := hide hsn2
        clear hR hem hsn2
        gi_wp2
        refine ⟨rfl, ?_⟩
        refine RoundIn.mono (F := Fence.wide) HR.out ?_
        rintro e W3 ⟨M3, hF3, ⟨rfl, hJ3⟩ | ⟨rfl, hJx3⟩⟩
        · obtain ⟨ho3, hFi⟩ := HO.out.foot hF3 hz
          have hc3 : RunCells N l (some (f, la)) W3 := HC.out.agree hF3.agree (fun k h1 h2 => HO.out.out k h1 (by omega))
          have HC3 := hide hc3
          have HF3 := hide hF3
          have HJ3 := hide hJ3
          obtain ⟨g0, g1, g2, g3⟩ := hc3
          have f1 := g1.frozen 0; have f2 := g2.frozen 0; have f3 := g3.frozen 0
          have e1 := g1.cell 0; have e2 := g2.cell 0; have e3 := g3.cell 0
          simp only [List.getElem?_toArray, List.getElem?_cons_zero] at e1 e2 e3
          have hz3 : N + 5 ≤ W3.heap.size := Nat.le_trans hz hF3.agree.size
          have HO3 := hide ho3
          have HFi := hide hFi
          clear hF3 hJ3 ho3 hFi
          gi_wp2
          have hag : ∀ K : Nat → Prop, ¬ K (N + 1) → ¬ K (N + 2) → ¬ K (N + 3) → Agree K W3 (((W3.setCell ⟨N + 1, 0, none⟩ (.int .u8 x)).setCell ⟨N + 1 + 1, 0, none⟩ (.int .u8 x)).setCell ⟨N + 1 + 1 + 1, 0, none⟩ (.bool true)) :=
            fun K k1 k2 k3 => ((Agree.setCell _ _ _ k1).trans (Agree.setCell _ _ _ k2)).trans (Agree.setCell _ _ _ k3)
          have hm : ∀ k, N ≤ k → k < N + 4 → (M3 k ∨ (N ≤ k ∧ k < N + 4)) := fun k h1 h2 => .inr ⟨h1, h2⟩
          have hag2 := hag (fun k => ¬ (M3 k ∨ (N ≤ k ∧ k < N + 4))) (fun h => h (hm _ (by omega) (by omega))) (fun h => h (hm _ (by omega) (by omega))) (fun h => h (hm _ (by omega) (by omega)))
          exact ⟨_, HFi.out.trans (Foot.same HFi.out.lt hag2), RunI.mk HS2.out HO3.out (Nat.le_trans hz3 hag2.size) (fun k hk => Nat.lt_of_lt_of_le (HF3.out.lt k hk) hag2.size)
            (hJ _ _ _ _ HJ3.out (hag M3 (HO3.out.out _ (by omega) (by omega)) (HO3.out.out _ (by omega) (by omega)) (HO3.out.out _ (by omega) (by omega)))) (HC3.out.opened x)⟩
        · obtain ⟨ho3, hFi⟩ := HO.out.foot hF3 hz
          have HO3 := hide ho3
          have HFi := hide hFi
          have HJ3 := hide hJx3
          clear hF3 hJx3 ho3 hFi
          gi_wp2
          exact ⟨_, HFi.out, rfl, M3, _, HO3.out, HE.out, HJ3.out⟩
  case done =>
    rintro D Mi W1 ⟨Mo, ho, hz, hlt, hj, hc⟩ hF hD hK hn
    obtain ⟨em, cur, hst⟩ : ∃ em cur, runSt (bytesOf s) = (em, cur) := ⟨_, _, rfl⟩
    have hrs : runsOf s = em ++ cur.toList := by unfold runsOf runsL; rw [hst]
    rw [hst] at hj hc
    have HF := hide hF
    have HK := hide hK
    have HO := hide ho
    have HJ := hide hj
    have HRS := hide hrs
    have HC := hide hc
    obtain ⟨g0, g1, g2, g3⟩ := hc
    have e0 := g0.cell 0; have e1 := g1.cell 0; have e2 := g2.cell 0; have e3 := g3.cell 0
    simp only [List.getElem?_toArray, List.getElem?_cons_zero] at e0 e1 e2 e3
    clear hF hK ho hj hrs hst g0 g1 g2 g3
    cases cur with
    | none =>
      simp only [Option.map_none, Option.getD_none, Option.isSome_none] at e1 e2 e3
      gi_wp2
      refine leave_mark_end HK.out (results_none rfl _ _ _) ⟨⟨_, rfl⟩, Mo, (runFoot hN HB.out HF.out HO.out).put (by have := HB.out.1.size; omega) _, .inl ?_⟩
      rw [HRS.out, Option.toList_none, List.append_nil]
      exact hJ _ _ _ _ HJ.out (Agree.putObj _ _ _ (fun h => hn ((HO.out.iff _).2 (.inl h))))
    | some r =>
      obtain ⟨f, la⟩ := r
      simp only [Option.map_some, Option.getD_some, Option.isSome_some] at e1 e2 e3
      have hem : em ++ [(f, la)] <+: runsOf s := by rw [HRS.out]; exact List.prefix_rfl
      obtain ⟨fn, tmps, assign, body, hyy, hR⟩ := HY.out em (f, la) Mo W1 hem HJ.out hlt
      have HR := hide hR
      clear hR hem
      gi_wp2
      refine ⟨rfl, ?_⟩
      refine RoundIn.mono (F := Fence.wide) HR.out ?_
      rintro e W3 ⟨M3, hF3, ⟨rfl, hJ3⟩ | ⟨rfl, hJx3⟩⟩
      · have HF3 := hide hF3
        have HJ3 := hide hJ3
        clear hF3 hJ3
        gi_wp2
        have hD1 : D < W1.heap.size := (Array.getElem?_eq_some_iff.1 HK.out).1
        have hMoD : ¬ Mo D := fun h => hn ((HO.out.iff _).2 (.inl h))
        refine leave_mark_end ((HF3.out.agree.block D hD1 hMoD).trans HK.out) (results_none rfl _ _ _) ⟨⟨_, rfl⟩, M3, ((runFoot hN HB.out HF.out HO.out).trans HF3.out).put (by have := HB.out.1.size; omega) _, .inl ?_⟩
        rw [HRS.out]
        exact hJ _ _ _ _ HJ3.out (Agree.putObj _ _ _ (HF3.out.out hD1 hMoD))
      · have HF3 := hide hF3
        have HJ3 := hide hJx3
        clear hF3 hJx3
        gi_wp2
        have hD1 : D < W1.heap.size := (Array.getElem?_eq_some_iff.1 HK.out).1
        have hMoD : ¬ Mo D := fun h => hn ((HO.out.iff _).2 (.inl h))
        refine leave_mark_end ((HF3.out.agree.block D hD1 hMoD).trans HK.out) (results_none rfl _ _ _) ⟨⟨_, rfl⟩, M3, ((runFoot hN HB.out HF.out HO.out).trans HF3.out).put (by have := HB.out.1.size; omega) _, .inr ⟨_, ?_, hJx _ _ _ _ HJ3.out (Agree.putObj _ _ _ (HF3.out.out hD1 hMoD))⟩⟩
        rw [HRS.out]; exact List.prefix_rfl
  case stop =>
    rintro D c pre Mi W1 hp ⟨rfl, Mo, em, ho, hem, hjx⟩ hF hD hK hn
    have HF := hide hF
    have HK := hide hK
    have HO := hide ho
    have HJ := hide hjx
    have HE := hide hem
    clear hF hK ho hjx hem hp
    gi_wp2
    exact leave_mark HK.out (results_none rfl _ _ _) ⟨⟨_, rfl⟩, Mo, (runFoot hN HB.out HF.out HO.out).put (by have := HB.out.1.size; omega) _, .inr ⟨em, HE.out, hJx _ _ _ _ HJ.out (Agree.putObj _ _ _ (fun h => hn ((HO.out.iff _).2 (.inl h))))⟩⟩
end Go.Proofs.YthemadegffhmfaaDoor
/- Slices that came in. -/
namespace Go.Proofs.YthemadegffhmfaaDoor
set_option maxRecDepth 100000
open Go.RowKit

/-- A slice of bytes that came in. -/
def BytesRow (w : World) (v : Value) (l : List Nat) : Prop :=
  (∀ x ∈ l, x < 256) ∧ l.length ≤ 9223372036854775807 ∧ ∃ a cap, v = .slice a l.length cap ∧ ∀ k, k < l.length → ∃ b off, a = some ⟨b, off, none⟩ ∧ b < w.heap.size ∧ w.cell? ⟨b, off + k, none⟩ = some (.int .u8 (l.getD k 0))

/-- A slice of sets. -/
def SetsRow (w : World) (v : Value) (l : List (BitVec 256)) : Prop :=
  l.length ≤ 9223372036854775807 ∧ ∃ a cap, v = .slice a l.length cap ∧ ∀ k, k < l.length → ∃ b off, a = some ⟨b, off, none⟩ ∧ b < w.heap.size ∧ ∀ j, j < 4 → w.cell? ⟨b, off + k * 4 + j, none⟩ = some (.int .u64 (wd (l.getD k 0) j))
theorem SetsRow.below {w w' : World} {v : Value} {l : List (BitVec 256)} (h : SetsRow w v l) (hb : Below w.heap.size w w') : SetsRow w' v l := by
  obtain ⟨h1, a, cap, rfl, h2⟩ := h
  refine ⟨h1, a, cap, rfl, fun k hk => ?_⟩
  obtain ⟨b, off, e, hlt, hc⟩ := h2 k hk
  refine ⟨b, off, e, Nat.lt_of_lt_of_le hlt hb.size, fun j hj => ?_⟩
  rw [← hc j hj]
  exact World.cell?_of_block (w := w) (hb.block b hlt)

end Go.Proofs.YthemadegffhmfaaDoor
/- What comes next in a set: bytes and runs, in order. -/
namespace Go.Proofs.YthemadegffhmfaaDoor
set_option maxRecDepth 100000

/-- One above the last byte that came. -/
def nxt (pre : List Nat) : Nat := (pre.getLast?.map (· + 1)).getD 0
theorem nxt_snoc (pre : List Nat) (x : Nat) : nxt (pre ++ [x]) = x + 1 := by simp [nxt]
theorem mem_bytes (s : BitVec 256) (j : Nat) : j ∈ bytesOf s ↔ j < 256 ∧ s.getLsbD j = true := by
  rw [bytesOf_filter, List.mem_filter, List.mem_range]
theorem next_byte (s : BitVec 256) (pre : List Nat) (x : Nat) (h : pre ++ [x] <+: bytesOf s) : nxt pre ≤ x ∧ x < 256 ∧ s.getLsbD x = true ∧ ∀ j, nxt pre ≤ j → j < x → s.getLsbD j = false := by
  have hx : x ∈ bytesOf s := h.subset (by simp)
  obtain ⟨hx1, hx2⟩ := (mem_bytes s x).1 hx
  obtain ⟨rest, hr⟩ := h
  have hup := bytesOf_up s
  rw [← hr, List.append_assoc, List.singleton_append, List.pairwise_append] at hup
  obtain ⟨u1, u2, u3⟩ := hup
  have hle : ∀ p ∈ pre, p < nxt pre := by
    intro p hp
    rcases List.eq_nil_or_concat pre with rfl | ⟨q, l, rfl⟩
    · simp at hp
    · rw [List.concat_eq_append] at *
      rw [nxt_snoc]
      rw [List.pairwise_append] at u1
      rcases List.mem_append.1 hp with hp | hp
      · have := u1.2.2 p hp l (by simp); omega
      · simp at hp; omega
  refine ⟨?_, hx1, hx2, ?_⟩
  · rcases List.eq_nil_or_concat pre with rfl | ⟨q, l, rfl⟩
    · simp [nxt]
    · rw [List.concat_eq_append] at *
      rw [nxt_snoc]
      have := u3 l (by simp) x (by simp)
      omega
  · intro j h1 h2
    cases hj : s.getLsbD j with
    | false => rfl
    | true =>
      have hm : j ∈ bytesOf s := (mem_bytes s j).2 ⟨by omega, hj⟩
      rw [← hr, List.append_assoc, List.singleton_append] at hm
      rcases List.mem_append.1 hm with hm | hm
      · have := hle j hm; omega
      · rcases List.mem_cons.1 hm with hm | hm
        · omega
        · have := (List.pairwise_cons.1 u2).1 j hm; omega

/-- The bytes of a run. -/
def runB (r : Nat × Nat) : List Nat := List.range' r.1 (r.2 + 1 - r.1)
/-- Runs that lie apart, each not empty. -/
def RunsOk (rs : List (Nat × Nat)) : Prop := (∀ r ∈ rs, r.1 ≤ r.2) ∧ rs.Pairwise fun r q => r.2 + 1 < q.1
theorem runB_ext (f l : Nat) (h : f ≤ l) : runB (f, l + 1) = runB (f, l) ++ [l + 1] := by
  unfold runB
  rw [show l + 1 + 1 - f = (l + 1 - f) + 1 from by omega, List.range'_concat, Nat.one_mul, show f + (l + 1 - f) = l + 1 from by omega]
theorem runB_one (b : Nat) : runB (b, b) = [b] := by simp [runB]
theorem mem_runB (r : Nat × Nat) (k : Nat) : k ∈ runB r ↔ r.1 ≤ k ∧ k ≤ r.2 := by
  unfold runB; rw [List.mem_range'_1]; omega
theorem length_runB (r : Nat × Nat) : (runB r).length = r.2 + 1 - r.1 := by simp [runB]

theorem runSt_spec (l : List Nat) (h : l.Pairwise (· < ·)) : (runsL l).flatMap runB = l ∧ RunsOk (runsL l) := by
  have key : ∀ n, ∀ l : List Nat, l.length = n → l.Pairwise (· < ·) → (runsL l).flatMap runB = l ∧ RunsOk (runsL l) := by
    intro n
    induction n with
    | zero =>
      intro l hl _
      obtain rfl := List.eq_nil_of_length_eq_zero hl
      exact ⟨rfl, by simp [RunsOk, runsL, runSt]⟩
    | succ n ih =>
      intro l hl hp
      rcases List.eq_nil_or_concat l with rfl | ⟨q, b, rfl⟩
      · simp at hl
      · rw [List.concat_eq_append] at *
        have hq := (List.pairwise_append.1 hp).1
        have hlt := (List.pairwise_append.1 hp).2.2
        obtain ⟨i1, i2, i3⟩ := ih q (by simpa using hl) hq
        have hl := runSt_last q
        have hnone := runSt_none q
        have hempty : q = [] → runSt q = ([], none) := by rintro rfl; rfl
        unfold runsL at *
        rw [runSt_snoc]
        generalize runSt q = st at *
        obtain ⟨em, cur⟩ := st
        cases cur with
        | none =>
          simp only [runStep, Option.toList_none, List.append_nil, Option.toList_some] at *
          have he : em = [] := congrArg Prod.fst (hempty (hnone trivial))
          subst he
          simp at i1
          subst i1
          exact ⟨by simp [runB_one], by simp [RunsOk]⟩
        | some r =>
          obtain ⟨f, la⟩ := r
          obtain ⟨q', rfl⟩ := hl f la rfl
          have hlb : la < b := hlt la (by simp) b (by simp)
          simp only [Option.toList_some] at i1 i2 i3
          have hfl : f ≤ la := i2 (f, la) (by simp)
          simp only [runStep]
          split
          · rename_i e
            subst e
            simp only [Option.toList_some]
            refine ⟨?_, ?_, ?_⟩
            · rw [List.flatMap_append, List.flatMap_singleton, runB_ext f la hfl, ← List.append_assoc]
              rw [List.flatMap_append, List.flatMap_singleton] at i1
              rw [i1]
            · intro r hr
              rcases List.mem_append.1 hr with hr | hr
              · exact i2 r (List.mem_append_left _ hr)
              · simp at hr; subst hr; simp; omega
            · rw [List.pairwise_append] at *
              refine ⟨i3.1, by simp, fun r hr q hq => ?_⟩
              simp at hq; subst hq
              exact i3.2.2 r hr (f, la) (by simp)
          · rename_i e
            simp only [Option.toList_some]
            refine ⟨?_, ?_, ?_⟩
            · rw [List.flatMap_append, List.flatMap_singleton, runB_one, i1]
            · intro r hr
              rcases List.mem_append.1 hr with hr | hr
              · exact i2 r hr
              · simp at hr; subst hr; simp
            · rw [List.pairwise_append]
              refine ⟨i3, by simp, fun r hr q hq => ?_⟩
              simp at hq; subst hq
              rcases List.mem_append.1 hr with hr | hr
              · have := (List.pairwise_append.1 i3).2.2 r hr (f, la) (by simp)
                simp at this ⊢; omega
              · simp at hr; subst hr; simp; omega
  exact key _ l rfl h

/-- One above the last run that came. -/
def nxr (pre : List (Nat × Nat)) : Nat := (pre.getLast?.map (·.2 + 1)).getD 0
theorem nxr_snoc (pre : List (Nat × Nat)) (r : Nat × Nat) : nxr (pre ++ [r]) = r.2 + 1 := by simp [nxr]
/-- How many bytes are in some runs. -/
def tot (rs : List (Nat × Nat)) : Nat := (rs.flatMap runB).length
theorem tot_snoc (pre : List (Nat × Nat)) (r : Nat × Nat) : tot (pre ++ [r]) = tot pre + (r.2 + 1 - r.1) := by
  simp [tot, length_runB]
theorem tot_runs (s : BitVec 256) : tot (runsOf s) = (bytesOf s).length := by
  unfold tot runsOf; rw [(runSt_spec _ (bytesOf_up s)).1]
theorem tot_le {pre rs : List (Nat × Nat)} (h : pre <+: rs) : tot pre ≤ tot rs := by
  obtain ⟨q, rfl⟩ := h; simp [tot]
theorem next_run (s : BitVec 256) (pre : List (Nat × Nat)) (a b : Nat) (h : pre ++ [(a, b)] <+: runsOf s) :
    nxr pre ≤ a ∧ a ≤ b ∧ b < 256 ∧ (∀ k, a ≤ k → k ≤ b → s.getLsbD k = true) ∧ (∀ k, k + 1 = a → s.getLsbD k = false) ∧ (b < 255 → s.getLsbD (b + 1) = false) := by
  obtain ⟨f1, o1, o2⟩ := runSt_spec _ (bytesOf_up s)
  obtain ⟨rest, hr⟩ := h
  have hr' : runsL (bytesOf s) = pre ++ (a, b) :: rest := by
    have : runsL (bytesOf s) = runsOf s := rfl
    rw [this, ← hr]; simp
  rw [hr'] at f1 o1 o2
  have hab : a ≤ b := o1 (a, b) (by simp)
  have mem : ∀ k, k ∈ bytesOf s ↔ (∃ r ∈ pre, r.1 ≤ k ∧ k ≤ r.2) ∨ (a ≤ k ∧ k ≤ b) ∨ (∃ r ∈ rest, r.1 ≤ k ∧ k ≤ r.2) := by
    intro k
    rw [← f1, List.mem_flatMap]
    simp only [List.mem_append, List.mem_cons, mem_runB]
    constructor
    · rintro ⟨r, (h | rfl | h), hk⟩
      · exact .inl ⟨r, h, hk⟩
      · exact .inr (.inl hk)
      · exact .inr (.inr ⟨r, h, hk⟩)
    · rintro (⟨r, h, hk⟩ | hk | ⟨r, h, hk⟩)
      · exact ⟨r, .inl h, hk⟩
      · exact ⟨(a, b), .inr (.inl rfl), hk⟩
      · exact ⟨r, .inr (.inr h), hk⟩
  have hpre : ∀ r ∈ pre, r.2 + 1 < a := fun r hr2 => (List.pairwise_append.1 o2).2.2 r hr2 (a, b) (by simp)
  have hrest : ∀ r ∈ rest, b + 1 < r.1 := fun r hr2 => (List.pairwise_cons.1 (List.pairwise_append.1 o2).2.1).1 r hr2
  have hb256 : b < 256 := ((mem_bytes s b).1 ((mem b).2 (.inr (.inl ⟨hab, Nat.le_refl _⟩)))).1
  have no : ∀ k, k < 256 → ¬ k ∈ bytesOf s → s.getLsbD k = false := fun k hk hn => by
    cases hj : s.getLsbD k with
    | false => rfl
    | true => exact absurd ((mem_bytes s k).2 ⟨hk, hj⟩) hn
  refine ⟨?_, hab, hb256, fun k h1 h2 => ((mem_bytes s k).1 ((mem k).2 (.inr (.inl ⟨h1, h2⟩)))).2, fun k hk => no k (by omega) fun hm => ?_, fun hb => no (b + 1) (by omega) fun hm => ?_⟩
  · rcases List.eq_nil_or_concat pre with rfl | ⟨q, r, rfl⟩
    · simp [nxr]
    · rw [List.concat_eq_append] at *
      rw [nxr_snoc]
      have := hpre r (by simp); omega
  · rcases (mem k).1 hm with ⟨r, h1, h2⟩ | h2 | ⟨r, h1, h2⟩
    · have := hpre r h1; omega
    · omega
    · have := hrest r h1; omega
  · rcases (mem (b + 1)).1 hm with ⟨r, h1, h2⟩ | h2 | ⟨r, h1, h2⟩
    · have := hpre r h1; omega
    · omega
    · have := hrest r h1; omega
end Go.Proofs.YthemadegffhmfaaDoor
/- Leaving a function that ranged over functions: several marks. -/
namespace Go.Proofs.YthemadegffhmfaaDoor
set_option maxRecDepth 100000
open Go.RowKit

/-- Several blocks for deferred calls, shut one behind the other. -/
def shutAll (W : World) : List Nat → World
  | [] => W
  | D :: Ds => shutAll (W.putObj D (.deferred none)) Ds
theorem leaves_marks {P : Program} {fn : Func} {R : Ending → World → Prop} {tmps : Array Value} {v : Value} : ∀ (Ds : List Nat) (W : World), Ds.Nodup → (∀ D ∈ Ds, W.heap[D]? = some (.deferred (some []))) →
    (results fn tmps).run P (shutAll W Ds) = .ok v (shutAll W Ds) → R (.returned v) (shutAll W Ds) → LeavesInM Fence.wide 0 P fn tmps R (Ds.map fun D => { target := .collected D, args := #[] }) .returning W
  | [], W, _, _, hr, hR => ⟨_, hr, hR⟩
  | D :: Ds, W, hn, hD, hr, hR => by
    refine ⟨by simp, .inl ⟨D, _, rfl, run_takeDeferred (hD D (by simp)), ?_⟩⟩
    refine leaves_marks Ds _ (List.nodup_cons.1 hn).2 (fun D' h' => ?_) hr hR
    have hne : D' ≠ D := fun e => (List.nodup_cons.1 hn).1 (e ▸ h')
    exact (World.putObj_heap_other hne).trans (hD D' (by simp [h']))
theorem Blk.shutAll {b : Nat} {c : Array Value} {t : TypeId} : ∀ (Ds : List Nat) {w : World}, Blk w b c t → (∀ D ∈ Ds, b ≠ D) → Blk (shutAll w Ds) b c t
  | [], _, h, _ => h
  | D :: Ds, _, h, hn => Blk.shutAll Ds (h.putObj D _ (hn D (by simp))) (fun D' h' => hn D' (by simp [h']))
theorem below_shutAll {B : Nat} {a : World} : ∀ (Ds : List Nat) {w : World}, Below B a w → (∀ D ∈ Ds, B ≤ D) → Below B a (shutAll w Ds)
  | [], _, h, _ => h
  | D :: Ds, _, h, hn => below_shutAll Ds (below_put h (hn D (by simp)) _) (fun D' h' => hn D' (by simp [h']))
end Go.Proofs.YthemadegffhmfaaDoor
/- General laws: operations of regions, appends, what is kept. -/
namespace Go.Proofs.YthemadegffhmfaaDoor
set_option maxRecDepth 100000
open Go.RowKit

def sA : BitVec 256 := setOf [97]
def sAB : BitVec 256 := setOf [97, 98]
def sB : BitVec 256 := setOf [98]

theorem own_below {base e size n : Nat} {v : Value} {xs : List Value} {W W' : World} (h : W.ownsRow base e size v n xs) (hb : Below W.heap.size W W') : W'.ownsRow base e size v n xs := by
  refine ⟨h.1, ?_⟩
  rcases h.2 with h2 | ⟨g, cap, cur, h1, h2, h3, h4⟩
  · exact .inl h2
  · exact .inr ⟨g, cap, cur, h1, h2, (hb.block g (Array.getElem?_eq_some_iff.1 h3).1).trans h3, h4⟩

theorem below_setCells {B : Nat} {a : World} (b : Nat) (hb : B ≤ b) : ∀ (vs : List Value) (o : Nat) {w : World}, Below B a w → Below B a (w.setCells b o vs)
  | [], _, _, h => h
  | _ :: r, _, _, h => below_setCells b hb r _ (h.setCell hb _)
theorem heap_setCells (b k : Nat) (hk : k ≠ b) : ∀ (vs : List Value) (o : Nat) (w : World), (w.setCells b o vs).heap[k]? = w.heap[k]?
  | [], _, _ => rfl
  | _ :: r, _, _ => (heap_setCells b k hk r _ _).trans (Below.heap_setCell _ _ _ _ hk)

theorem range_below {w w' : World} {b : Nat} {cs : List Value} (h : w.rangeAt b 0 cs) (hb : Below w.heap.size w w') (hlt : b < w.heap.size) : w'.rangeAt b 0 cs := fun j v hv => by
  rw [← h j v hv]
  exact World.cell?_of_block (w := w) (hb.block b hlt)
theorem size_setCells (b : Nat) : ∀ (vs : List Value) (o : Nat) (w : World), (w.setCells b o vs).heap.size = w.heap.size
  | [], _, _ => rfl
  | _ :: r, _, _ => (size_setCells b r _ _).trans (by simp [World.setCell])

theorem x_len3 (ρ : Operand → Value) (d : Option Tmp) (x : Operand) (t : TypeId) (pos : String) (af : Array Edge) (g : Option (Nat × Bool)) (a : Option Addr) (n cap : Nat) (hx : ρ x = .slice a n cap) (w : World) :
    (execOp ρ { dst := d, op := .call { callee := .builtin .len, args := #[x], argTypes := #[44] }, type := t, pos := pos, after := af, guard := g }).run Tryd.prog w = .ok (.value (.int .i64 n)) w := by
  simp [go_sem, hx]
theorem x_idxS (ρ : Operand → Value) (d : Option Tmp) (x y : Operand) (t : TypeId) (pos : String) (af : Array Edge) (g : Option (Nat × Bool)) (b off len cap n : Nat) (hx : ρ x = .slice (some ⟨b, off, none⟩) len cap) (hy : ρ y = .int .i64 n) (h1 : n < len) (w : World) :
    (execOp ρ { dst := d, op := .indexAddr 44 x y, type := t, pos := pos, after := af, guard := g }).run Tryd.prog w = .ok (.value (.pointer (some ⟨b, off + n * 4, none⟩))) w := by
  simp [go_sem, hx, hy, h1]
theorem x_loadAt (ρ : Operand → Value) (d : Option Tmp) (x : Operand) (t : TypeId) (pos : String) (af : Array Edge) (g : Option (Nat × Bool)) (b o : Nat) (s : BitVec 256) (hx : ρ x = .pointer (some ⟨b, o, none⟩)) (w : World) (hB : ∀ j, j < 4 → w.cell? ⟨b, o + j, none⟩ = some (.int .u64 (wd s j))) :
    (execOp ρ { dst := d, op := .load 39 x, type := t, pos := pos, after := af, guard := g }).run Tryd.prog w = .ok (.value (SV s)) w := by
  have c0 := hB 0 (by omega); have c1 := hB 1 (by omega); have c2 := hB 2 (by omega); have c3 := hB 3 (by omega)
  rw [Nat.add_zero] at c0
  simp [go_sem, hx, c0, c1, c2, c3]
theorem x_buildS (ρ : Operand → Value) (d : Option Tmp) (x : Operand) (t : TypeId) (pos : String) (af : Array Edge) (g : Option (Nat × Bool)) (c : Nat) (w : World) (hx : ρ x = .int .u8 c) :
    (execOp ρ { dst := d, op := .buildSlice 33 1 #[(0, x)], type := t, pos := pos, after := af, guard := g }).run Tryd.prog w = .ok (.value (.slice (some ⟨w.heap.size, 0, none⟩) 1 1)) (w.alloc (.cells #[.int .u8 c] 5)) := by
  simp [go_sem, hx]

section
variable {ops : Array Oper} {S : World → Prop} {Q : Exit → Act → World → Prop} {fuel : Nat} {listed : Array Bool} {a : Act} {w : World} {oi : Oper} {rest : List Oper}
/-- Whatever is ready alone. -/
theorem h_oper (i : Nat) (hi : ops.toList.drop i = oi :: rest) (hr : Region.ready .any ops listed = [i]) (hw : Region.wanted oi (yielded ops a.tmps) = true)
    (h : oi.wp Tryd.prog a w (fun a' w' => S w' ∧ wpAnyH Tryd.prog .any ops (NoPanic Q) S fuel (listed.setIfInBounds i true) a' w') (NoPanic Q)) : wpAnyH Tryd.prog .any ops (NoPanic Q) S (fuel + 1) listed a w := by
  refine wpAnyH_all hr (by simp) ?_
  intro j hj
  obtain rfl : j = i := by simpa using hj
  unfold wpOp
  simp only [at_drop hi, hw, if_true]
  exact .inl h
/-- A call that is ready alone, with all that it tells. -/
theorem h_callE (i : Nat) (f : FuncId) (vs : Array Value) (R : Value → World → Prop) (hi : ops.toList.drop i = oi :: rest) (hr : Region.ready .any ops listed = [i])
    (hw : Region.wanted oi (yielded ops a.tmps) = true) (hv : (execOp a.eval oi).run Tryd.prog w = .ok (.enter f vs) w)
    (hc : Calls Tryd.prog f vs w fun e w' => ∃ v, e = .returned v ∧ R v w') (hRS : ∀ v w', R v w' → S w')
    (h : ∀ v w', R v w' → wpAnyH Tryd.prog .any ops (NoPanic Q) S fuel (listed.setIfInBounds i true) (a.put oi.dst v) w') : wpAnyH Tryd.prog .any ops (NoPanic Q) S (fuel + 1) listed a w := by
  refine h_oper i hi hr hw ?_
  unfold Oper.wp
  rw [hv, Oper.upon_enter]
  refine hc.mono ?_
  rintro e w' ⟨v, rfl, hR⟩
  exact ⟨hRS v w' hR, h v w' hR⟩
end

/-- append of whatever lies there, none too. -/
theorem wp_append_at {o : Oper} {a : Act} {w : World} {K : Act → World → Prop} {Q : Exit → Act → World → Prop} (s x : Operand) (t : TypeId)
    (ho : o.op = .call { callee := .builtin .append, args := #[s, x], argTypes := #[t, t] })
    (base : Nat) (e : TypeId) (i : TypeInfo) (z : Value) (size bytes : Nat) (ht : (Tryd.prog).underlying t = some (.slice e)) (hi : (Tryd.prog).info? e = some i) (hz : i.zero = some z)
    (hsize : i.size = size) (hby : i.bytes = bytes) (hzs : z.cells.size = size) (hsz : 0 < size)
    (v : Value) (n : Nat) (xs : List Value) (hs : a.eval s = v) (hown : w.ownsRow base e size v n xs)
    (ad : Addr) (m c : Nat) (news : List Value) (hx : a.eval x = .slice (some ad) m c) (hl : news.length = m * size) (hnews : ∀ j u, news[j]? = some u → w.cell? (ad.add j) = some u) (h1 : ∀ u ∈ news, u.oneCell' = true)
    (h63 : n + m ≤ maxLen) (hbytes : (n + m) * bytes ≤ 140737488355328) (hbase : base ≤ w.heap.size)
    (h : ∀ v' w', w'.ownsRow base e size v' (n + m) (xs ++ news) → w.grownBy w' v.ownBlock → K (a.put o.dst v') w') : o.wp Tryd.prog a w K Q := by
  obtain ⟨v', w', hr, h2, h3, -⟩ := run_append_own_at (P := Tryd.prog) w base t o.type e i z size bytes ht hi hz hsize hby hzs hsz v n xs hown ad m c news hl hnews h1 h63 hbytes hbase
  unfold Oper.wp execOp
  simp only [ho, resolve, invoke, builtin, Sem.run_bind, Sem.run_pure, Result.andThen_ok, List.map_toArray, List.map_cons, List.map_nil, hs, hx, hr]
  exact h v' w' h2 h3
theorem x_neqS (ρ : Operand → Value) (d : Option Tmp) (x y : Operand) (t : TypeId) (pos : String) (af : Array Edge) (g : Option (Nat × Bool)) (u v : BitVec 256) (hx : ρ x = SV u) (hy : ρ y = SV v) (w : World) :
    (execOp ρ { dst := d, op := .binOp .neq 39 x y 39, type := t, pos := pos, after := af, guard := g }).run Tryd.prog w = .ok (.value (.bool (u != v))) w := by
  have h := eqSV u v
  simp [go_sem, hx, hy, h, bne]
theorem x_sliceLo (ρ : Operand → Value) (d : Option Tmp) (x y : Operand) (ty : TypeId) (pos : String) (af : Array Edge) (g : Option (Nat × Bool)) (b off len cap t : Nat) (hx : ρ x = .slice (some ⟨b, off, none⟩) len cap) (hy : ρ y = .int .i64 t) (h1 : t < len) (h2 : len ≤ cap) (w : World) :
    (execOp ρ { dst := d, op := .slice 44 x (some y) none none, type := ty, pos := pos, after := af, guard := g }).run Tryd.prog w = .ok (.value (.slice (some ⟨b, off + t * 4, none⟩) (len - t) (cap - t))) w := by
  have e1 : t ≤ len := by omega
  have e2 : ¬ cap = t := by omega
  simp [go_sem, hx, hy, e1, e2]
theorem x_sliceHi (ρ : Operand → Value) (d : Option Tmp) (x y : Operand) (ty : TypeId) (pos : String) (af : Array Edge) (g : Option (Nat × Bool)) (b off len cap t : Nat) (hx : ρ x = .slice (some ⟨b, off, none⟩) len cap) (hy : ρ y = .int .i64 t) (h1 : t < len) (h2 : len ≤ cap) (w : World) :
    (execOp ρ { dst := d, op := .slice 44 x none (some y) none, type := ty, pos := pos, after := af, guard := g }).run Tryd.prog w = .ok (.value (.slice (some ⟨b, off, none⟩) t cap)) w := by
  simp [go_sem, hx, hy]
  omega
theorem x_buildNil (ρ : Operand → Value) (d : Option Tmp) (ty : TypeId) (pos : String) (af : Array Edge) (g : Option (Nat × Bool)) (w : World) :
    (execOp ρ { dst := d, op := .buildSlice 44 0 #[], type := ty, pos := pos, after := af, guard := g }).run Tryd.prog w = .ok (.value (.slice (some ⟨w.heap.size, 0, none⟩) 0 0)) (w.alloc (.cells #[] 39)) := by
  simp [go_sem]
theorem below_grown {N : Nat} {w0 W W' : World} {v : Value} {e size n : Nat} {xs : List Value} (h : Below N w0 W) (hg : W.grownBy W' v.ownBlock) (ho : W.ownsRow N e size v n xs) (hN : N ≤ w0.heap.size) : Below N w0 W' := by
  have hne : ∀ k, k < N → some k ≠ v.ownBlock := fun k hk e => by
    rcases ho.2 with ⟨rfl, -⟩ | ⟨g, cap, cur, rfl, h2, -⟩
    · cases e
    · simp [Value.ownBlock] at e; omega
  exact ⟨hg.os.trans h.os, hg.tape.trans h.tape, hg.output.trans h.output, Nat.le_trans h.size hg.size, fun k hk => (hg.block k (by have := h.size; omega) (hne k hk)).trans (h.block k hk)⟩
theorem i64_and255 (n : Int) : bits .and .i64 n 255 = n % 256 := by
  have h15 : (BitVec.ofInt 64 255).toNat = 2 ^ 8 - 1 := by decide
  have key : (BitVec.ofInt 64 n &&& BitVec.ofInt 64 255).toNat = (n % ((2 ^ 64 : Nat) : Int)).toNat % 2 ^ 8 := by
    rw [BitVec.toNat_and, BitVec.toNat_ofInt, h15, Nat.and_two_pow_sub_one_eq_mod]
  show IntKind.i64.wrap ((BitVec.ofInt 64 n &&& BitVec.ofInt 64 255).toNat : Nat) = n % 256
  rw [key, IntKind.wrap_i64]
  omega
theorem and255 (n : Int) : ∃ m : Nat, m < 256 ∧ bits .and .i64 n 255 = (m : Int) := ⟨(n % 256).toNat, by omega, by rw [i64_and255]; omega⟩

/-- The number in a block of one cell. -/
def cellNat (W : World) (b : Nat) : Nat := match W.cell? ⟨b, 0, none⟩ with | some v => (intOf v).toNat | none => 0
theorem cellNat_of {W : World} {b k : Nat} {t : TypeId} (h : Blk W b #[.int .i64 k] t) : cellNat W b = k := by
  unfold cellNat; rw [h.cell]; simp [intOf]
theorem x_loadInt (ρ : Operand → Value) (d : Option Tmp) (x : Operand) (t : TypeId) (pos : String) (af : Array Edge) (g : Option (Nat × Bool)) (b n : Nat) (v : Int) (hx : ρ x = .pointer (some ⟨b, n, none⟩)) (w : World) (hc : w.cell? ⟨b, n, none⟩ = some (.int .i64 v)) :
    (execOp ρ { dst := d, op := .load 3 x, type := t, pos := pos, after := af, guard := g }).run Tryd.prog w = .ok (.value (.int .i64 v)) w := by
  simp [go_sem, hx, hc]
theorem x_neqInt (ρ : Operand → Value) (d : Option Tmp) (x y : Operand) (t : TypeId) (pos : String) (af : Array Edge) (g : Option (Nat × Bool)) (u v : Int) (hx : ρ x = .int .i64 u) (hy : ρ y = .int .i64 v) (w : World) :
    (execOp ρ { dst := d, op := .binOp .neq 3 x y 3, type := t, pos := pos, after := af, guard := g }).run Tryd.prog w = .ok (.value (.bool (u != v))) w := by
  simp [go_sem, hx, hy]
theorem x_min (ρ : Operand → Value) (d : Option Tmp) (x y : Operand) (t : TypeId) (pos : String) (af : Array Edge) (g : Option (Nat × Bool)) (u v : Int) (hx : ρ x = .int .i64 u) (hy : ρ y = .int .i64 v) (w : World) :
    (execOp ρ { dst := d, op := .call { callee := .builtin .min, args := #[x, y], argTypes := #[3, 3] }, type := t, pos := pos, after := af, guard := g }).run Tryd.prog w = .ok (.value (.int .i64 (min u v))) w := by
  simp [go_sem, hx, hy]
  rw [Int.min_def]; split <;> split <;> omega
theorem x_storeBool (ρ : Operand → Value) (d : Option Tmp) (x y : Operand) (t : TypeId) (pos : String) (af : Array Edge) (g : Option (Nat × Bool)) (b : Nat) (v r : Bool) (hx : ρ x = .pointer (some ⟨b, 0, none⟩)) (hy : ρ y = .bool v) (w : World) (hc : Blk w b #[.bool r] 4) :
    (execOp ρ { dst := d, op := .store 4 x y, type := t, pos := pos, after := af, guard := g }).run Tryd.prog w = .ok .skip (w.setCell ⟨b, 0, none⟩ (.bool v)) := by
  have h1 := hc.cell 0; have h2 := hc.frozen 0
  simp only [List.getElem?_toArray, List.getElem?_cons_zero] at h1
  simp [go_sem, hx, hy, h1, h2]
theorem i64_and15 (n : Int) : bits .and .i64 n 15 = n % 16 := by
  have h15 : (BitVec.ofInt 64 15).toNat = 2 ^ 4 - 1 := by decide
  have key : (BitVec.ofInt 64 n &&& BitVec.ofInt 64 15).toNat = (n % ((2 ^ 64 : Nat) : Int)).toNat % 2 ^ 4 := by
    rw [BitVec.toNat_and, BitVec.toNat_ofInt, h15, Nat.and_two_pow_sub_one_eq_mod]
  show IntKind.i64.wrap ((BitVec.ofInt 64 n &&& BitVec.ofInt 64 15).toNat : Nat) = n % 16
  rw [key, IntKind.wrap_i64]
  omega
theorem and15 (n : Int) : ∃ m : Nat, m < 16 ∧ bits .and .i64 n 15 = (m : Int) := ⟨(n % 16).toNat, by omega, by rw [i64_and15]; omega⟩
/-- A range over a function that is left by its own 'break' alone. -/
theorem wpIn_rangeB {P : Program} {α : Type} {g : Operand} {ps : Array Tmp} {assign body : Code} {Q : Exit → Act → World → Prop} {a : Act} {w : World} {id : Nat}
    {gf : Nat} {lb : Array Value} (hg : a.eval g = .func (.func gf) #[] lb) (eg : ∀ args w, (callFunc gf args).run P w = .ok (.enter gf args) w)
    {encs : α → Array Value} {xs : List α} {own : Nat → Prop} (hiter : ∀ W1, Below w.heap.size w W1 → Iter P gf lb encs xs own W1) (hps : ∀ x, (encs x).size = ps.size)
    (I Ix : List α → (Nat → Prop) → World → Prop) (hI : Stable I) (hIx : Stable Ix)
    (M : Nat → Prop) (hM : ∀ k, M k → k < w.heap.size) (hown : ∀ k, own k → ¬ M k ∧ k < w.heap.size) (h0 : I [] M w) (a₁ : α → Act)
    (hassign : ∀ (l : Nat) (x : α) (W : World) (K : Act → World → Prop), K (a₁ x) W →
      assign.wpIn (Fence.wide.inRound l) 0 P (Exit.then K (fun _ _ _ => False)) { tmps := (ps.zip (encs x)).foldl (fun t (p, v) => t.setIfInBounds p v) a.tmps, defers := [] } W)
    (hbody : ∀ (l : Nat) (pre : List α) (x : α) (M : Nat → Prop) (W : World), pre ++ [x] <+: xs → I pre M W → (∀ k, M k → k < W.heap.size) → body.wpIn (Fence.wide.inRound l) 0 P (postM I (fun c pre M W => c = .exit id ∧ Ix pre M W) (pre ++ [x]) M W) (a₁ x) W)
    (hend : ∀ (D : Nat) (M' : Nat → Prop) (W : World), (I xs M' W ∨ ∃ pre, pre <+: xs ∧ Ix pre M' W) → Foot M M' w W → w.heap.size ≤ D → W.heap[D]? = some (.deferred (some [])) → ¬ M' D →
      Q .normal { a with defers := { target := .collected D, args := #[] } :: a.defers } W) :
    (Code.rangeFunc g ps assign body).wpIn Fence.wide 0 P (Exit.inBlock id Q) a w := by
  refine wpIn_rangeM hg eg hiter hps I (fun c pre M W => c = .exit id ∧ Ix pre M W) hI (fun c s M A B h ha => ⟨h.1, hIx _ _ _ _ h.2 ha⟩) M hM hown h0 a₁ hassign hbody ?_ ?_
  · intro D M' W h hF hD hK hn
    exact hend D M' W (.inl h) hF hD hK hn
  · rintro D c pre M' W hp ⟨rfl, h⟩ hF hD hK hn
    refine wpIn_exit ?_
    simp only [Exit.inBlock, if_true]
    exact hend D M' W (.inr ⟨pre, hp, h⟩) hF hD hK hn
theorem cases4 {p q c : Prop} (h1 : p → q → c) (h2 : p → ¬ q → c) (h3 : ¬ p → q → c) (h4 : ¬ p → ¬ q → c) : c := by
  by_cases hp : p
  · by_cases hq : q
    · exact h1 hp hq
    · exact h2 hp hq
  · by_cases hq : q
    · exact h3 hp hq
    · exact h4 hp hq
theorem bytesOf_le (s : BitVec 256) : (bytesOf s).length ≤ 256 := by
  have h2 := List.length_filter_le (fun b => s.getLsbD b) (List.range 256)
  rw [← bytesOf_filter] at h2
  simpa using h2

theorem enters_runs : ∀ args w, (callFunc 95 args).run Tryd.prog w = .ok (.enter 95 args) w := enters_of Tryd.func95 (by kernel_rfl) rfl
/-- The text that the example gathers. -/
def outS (l : List (Nat × Nat)) : ByteArray := ⟨(l.flatMap fun r => [UInt8.ofNat r.1, UInt8.ofNat r.2]).toArray⟩
theorem outS_snoc (l : List (Nat × Nat)) (x : Nat × Nat) : outS (l ++ [x]) = outS l ++ strOfNums [(x.1 : Int), (x.2 : Int)] := by
  apply ByteArray.ext
  simp [outS, strOfNums, ByteArray.data_append]
theorem outS_size (l : List (Nat × Nat)) : (outS l).size = 2 * l.length := by
  induction l with
  | nil => rfl
  | cons a l ih =>
    simp [outS, ByteArray.size] at *
    omega
theorem two_bytes (W : World) (a b : Nat) : (convert 33 9 (.slice (some ⟨W.heap.size, 0, none⟩) 2 2)).run Tryd.prog (W.alloc (.cells #[.int .u8 a, .int .u8 b] 5)) = .ok (.string (strOfNums [(a : Int), (b : Int)])) (W.alloc (.cells #[.int .u8 a, .int .u8 b] 5)) := by
  refine run_convert_bytes_arg _ 33 5 Tryd.underlying33 Tryd.underlying5 _ 0 2 2 [(a : Int), (b : Int)] rfl ?_ 9 Tryd.underlying9
  intro i hi
  rw [(Blk.new W _ _).cell]
  match i, hi with
  | 0, _ => rfl
  | 1, _ => rfl

end Go.Proofs.YthemadegffhmfaaDoor
