/- Texts of this claim put together: SetG, Row. -/
import Derived.Test.YthhfpjehamhcbaaGreatDoorJoinQuietX
import Derived.Test.YthhfpjehamhcbaaGreatDoorJoinHeap
import Derived.Test.YthhfpjehamhcbaaGreatDoorJoinSetA
/- Contract: the iterator that Runs hands out. -/
namespace Go.Proofs.YthhfpjehamhcbaaGreatDoor
set_option maxRecDepth 100000
open Go.RowKit Go.Shelf
attribute [local go_sem] Oper.semAt_some

/-- The cells of the walk through a set's runs: yield; the first and the last byte of the open run; whether one is open. -/
def RunCells (N l : Nat) (cur : Option (Nat × Nat)) (W : World) : Prop :=
  Blk W N #[.func (.yield l) #[] #[]] 157 ∧ Blk W (N + 1) #[.int .u8 ((cur.map Prod.fst).getD 0 : Nat)] 5 ∧ Blk W (N + 2) #[.int .u8 ((cur.map Prod.snd).getD 0 : Nat)] 5 ∧ Blk W (N + 3) #[.bool cur.isSome] 4

theorem RunCells.agree {N l : Nat} {cur : Option (Nat × Nat)} {K : Nat → Prop} {W W' : World} (h : RunCells N l cur W) (ha : Agree K W W') (hk : ∀ k, N ≤ k → k < N + 4 → K k) : RunCells N l cur W' :=
  ⟨h.1.agree ha (hk _ (by omega) (by omega)), h.2.1.agree ha (hk _ (by omega) (by omega)), h.2.2.1.agree ha (hk _ (by omega) (by omega)), h.2.2.2.agree ha (hk _ (by omega) (by omega))⟩

/-- The body's blocks: those of the loop around, and the four cells. -/
structure RunOwn (N : Nat) (Mi Mo : Nat → Prop) : Prop where
  iff : ∀ k, Mi k ↔ Mo k ∨ (N ≤ k ∧ k < N + 4)
  out : ∀ k, N ≤ k → k < N + 5 → ¬ Mo k

theorem RunOwn.foot {N : Nat} {Mi Mo Mo' : Nat → Prop} {W W' : World} (h : RunOwn N Mi Mo) (hf : Foot Mo Mo' W W') (hN : N + 5 ≤ W.heap.size) :
    RunOwn N (fun k => Mo' k ∨ (N ≤ k ∧ k < N + 4)) Mo' ∧ Foot Mi (fun k => Mo' k ∨ (N ≤ k ∧ k < N + 4)) W W' := by
  refine ⟨⟨fun k => Iff.rfl, fun k h1 h2 => hf.out (by omega) (h.out k h1 h2)⟩, fun k hk => ?_, hf.agree.mono fun k _ hk hm => hk ((h.iff k).2 (.inl hm))⟩
  rcases hk with hk | hk
  · obtain ⟨h1, h2⟩ := hf.into k hk
    exact ⟨h1.elim (fun h1 => .inl ((h.iff k).2 (.inl h1))) .inr, h2⟩
  · exact ⟨.inl ((h.iff k).2 (.inr hk)), by have := hf.agree.size; omega⟩

theorem RunCells.opened {N l : Nat} {cur : Option (Nat × Nat)} {W : World} (h : RunCells N l cur W) (x : Nat) :
    RunCells N l (some (x, x)) (((W.setCell ⟨N + 1, 0, none⟩ (.int .u8 x)).setCell ⟨N + 1 + 1, 0, none⟩ (.int .u8 x)).setCell ⟨N + 1 + 1 + 1, 0, none⟩ (.bool true)) := by
  obtain ⟨g0, g1, g2, g3⟩ := h
  exact ⟨((g0.setOther _ _ (by simp)).setOther _ _ (by simp; omega)).setOther _ _ (by simp; omega), ((g1.set 0 _).setOther _ _ (by simp)).setOther _ _ (by simp),
    ((g2.setOther _ _ (by simp)).set 0 _).setOther _ _ (by simp), ((g3.setOther _ _ (by simp)).setOther _ _ (by simp)).set 0 _⟩
theorem RunCells.last {N l f la : Nat} {W : World} (h : RunCells N l (some (f, la)) W) (x : Nat) : RunCells N l (some (f, x)) (W.setCell ⟨N + 1 + 1, 0, none⟩ (.int .u8 x)) := by
  obtain ⟨g0, g1, g2, g3⟩ := h
  exact ⟨g0.setOther _ _ (by simp; omega), g1.setOther _ _ (by simp), g2.set 0 _, g3.setOther _ _ (by simp)⟩

/-- Between two bytes. -/
def RunI (N l : Nat) (J : List (Nat × Nat) → (Nat → Prop) → World → Prop) (pre : List Nat) (Mi : Nat → Prop) (W : World) : Prop :=
  ∃ Mo, RunOwn N Mi Mo ∧ N + 5 ≤ W.heap.size ∧ (∀ k, Mo k → k < W.heap.size) ∧ J (runSt pre).1 Mo W ∧ RunCells N l (runSt pre).2 W
/-- The loop around has been left. -/
def RunIx (N : Nat) (s : BitVec 256) (Jx : List (Nat × Nat) → (Nat → Prop) → World → Prop) (c : Code) (_ : List Nat) (Mi : Nat → Prop) (W : World) : Prop :=
  c = .ret ∧ ∃ Mo em, RunOwn N Mi Mo ∧ em <+: runsOf s ∧ Jx em Mo W

theorem RunI.mk {N l : Nat} {J : List (Nat × Nat) → (Nat → Prop) → World → Prop} {pre : List Nat} {em : List (Nat × Nat)} {cur : Option (Nat × Nat)} {Mi Mo : Nat → Prop} {W : World}
    (hs : runSt pre = (em, cur)) (ho : RunOwn N Mi Mo) (hz : N + 5 ≤ W.heap.size) (hlt : ∀ k, Mo k → k < W.heap.size) (hj : J em Mo W) (hc : RunCells N l cur W) : RunI N l J pre Mi W :=
  ⟨Mo, ho, hz, hlt, by rw [hs]; exact hj, by rw [hs]; exact hc⟩

theorem runFoot {N : Nat} {M Mi Mo : Nat → Prop} {W W0 W1 : World} (hN : W.heap.size = N) (hb : Below N W W0 ∧ W.drawn ≤ W0.drawn) (hF : Foot (fun k => M k ∨ (N ≤ k ∧ k < N + 4)) Mi W0 W1) (ho : RunOwn N Mi Mo) : Foot M Mo W W1 := by
  have hs := hb.1.size
  refine ⟨fun k hk => ?_, ?_⟩
  · obtain ⟨h1, h2⟩ := hF.into k ((ho.iff k).2 (.inl hk))
    refine ⟨?_, h2⟩
    rcases h1 with (h1 | h1) | h1
    · exact .inl h1
    · exact .inr (by omega)
    · exact .inr (by omega)
  · refine (Agree.of_drawn (K := fun k => ¬ M k) (hN ▸ hb.1) hb.2).trans' hF.agree fun k hk hn h => ?_
    rcases h with h | h
    · exact hn h
    · omega

set_option maxRecDepth 100000 in
set_option maxHeartbeats 2000000 in
theorem runs1_any (s : BitVec 256) (Bs : Nat) (W : World) (hB : Blk W Bs (WS s) 49) (hT : TabAt W) :
    Iter Tryz.prog 144 #[.pointer (some ⟨Bs, 0, none⟩)] (fun x : Nat × Nat => #[.int .u8 x.1, .int .u8 x.2]) (runsOf s) (fun k => k = Bs ∨ k = 0) W := by
  intro l J Jx M hJ hJx hY hM hown h0
  have c0 := hB.cell 0; have c1 := hB.cell 1; have c2 := hB.cell 2; have c3 := hB.cell 3
  simp only [List.getElem?_toArray, List.getElem?_cons_zero, List.getElem?_cons_succ] at c0 c1 c2 c3
  have hBs := hB.lt
  have hBs1 : Bs < W.heap.size + 1 := by omega
  have hBs2 : Bs < W.heap.size + 1 + 1 := by omega
  have hBs3 : Bs < W.heap.size + 1 + 1 + 1 := by omega
  refine callsIn_of_wp_marks Tryz.func144 rfl trivial ?_ rfl
  simp only [Tryz.ntmps144, List.size_toArray, List.length_cons, List.length_nil, Nat.reduceAdd, Nat.reduceSub, Array.replicate_succ, Array.replicate_zero, List.push_toArray, List.append_toArray, List.nil_append, List.cons_append]
  gi_wp2_with fail
  refine ⟨trivial, rfl, ?_⟩
  refine (callsIn_wide.2 (bytes_any s _)).mono ?_
  rintro e w1 ⟨rfl, rfl⟩
  gi_wp2
  refine wpIn_world (fun W' => RunCells W.heap.size l none W' ∧ Blk W' (W.heap.size + 4) (WS s) 49 ∧ Below W.heap.size W W' ∧ W.drawn ≤ W'.drawn) ⟨⟨?_, ?_, ?_, ?_⟩, ?_, ?_, Nat.le_refl _⟩ ?_
  · exact ((((Blk.newAt (by simp) _ _).alloc _).alloc _).alloc _).alloc _
  · exact (((Blk.newAt (by simp) _ _).alloc _).alloc _).alloc _
  · exact ((Blk.newAt (by simp) _ _).alloc _).alloc _
  · exact (Blk.newAt (by simp) _ _).alloc _
  · exact Blk.newAt (by simp) _ _
  · exact (((((Below.refl _ _).alloc (Nat.le_refl _) _).alloc (by simp) _).alloc (by simp; omega) _).alloc (by simp; omega) _).alloc (by simp; omega) _
  rintro W0 ⟨hcells, k6, hbel⟩
  have z6 := k6.lt
  have hT0 : TabAt W0 := hT.agree (Agree.of_all (K := fun _ => True) hbel.1) trivial
  have hG : 0 < W.heap.size := World.block_lt_of_cell? _ _ (hT 0 (by omega))
  have hMG : ¬ M 0 := hown _ (.inr rfl)
  have HT := hide hT0
  have HB := hide hbel
  have HY := hide hY
  clear hT hT0 hbel c0 c1 c2 c3 hBs hBs1 hBs2 hBs3 hY
  have h00 : J [] M W0 := hJ _ _ _ _ h0 (Agree.of_drawn HB.out.1 HB.out.2)
  generalize hN : W.heap.size = N at *
  refine wpIn_rangeM (gf := 92) (lb := #[.pointer (some ⟨N + 4, 0, none⟩)]) rfl enters_bytes (encs := fun x : Nat => #[.int .u8 x]) (xs := bytesOf s)
    (own := fun k => k = N + 4 ∨ k = 0)
    (fun W1 hb => bytes1_any s _ W1 (k6.below hb z6) (HT.out.agree (Agree.of_all (K := fun _ => True) hb) trivial)) (fun _ => rfl)
    (RunI N l J)
    (RunIx N s Jx)
    (fun _ Mi A B h ha => by
      obtain ⟨Mo, ho, hz, hlt, hj, hc⟩ := h
      exact ⟨Mo, ho, Nat.le_trans hz ha.size, fun k hk => Nat.lt_of_lt_of_le (hlt k hk) ha.size, hJ _ _ _ _ hj (ha.mono fun k _ hk => (ho.iff k).2 (.inl hk)), hc.agree ha fun k h1 h2 => (ho.iff k).2 (.inr ⟨h1, h2⟩)⟩)
    (fun _ _ Mi A B h ha => by
      obtain ⟨rfl, Mo, em, ho, hp, hj⟩ := h
      exact ⟨rfl, Mo, em, ho, hp, hJx _ _ _ _ hj (ha.mono fun k _ hk => (ho.iff k).2 (.inl hk))⟩)
    (fun k => M k ∨ (N ≤ k ∧ k < N + 4)) (fun k hk => by rcases hk with h | h; have := hM k h; omega; omega)
    (fun k hk => by
      rcases hk with rfl | rfl
      · exact ⟨fun h => by rcases h with h | h; have := hM _ h; omega; omega, by omega⟩
      · exact ⟨fun h => by rcases h with h | h; exact hMG h; omega, by omega⟩)
    ⟨M, ⟨fun k => Iff.rfl, fun k h1 h2 hm => by have := hM k hm; omega⟩, by omega, fun k hk => by have := hM k hk; omega, h00, hcells⟩
    (fun x => { tmps := #[.func (.yield l) #[] #[], .pointer (some ⟨Bs, 0, none⟩), .pointer (some ⟨N, 0, none⟩), .pointer (some ⟨N + 1, 0, none⟩), .pointer (some ⟨N + 1 + 1, 0, none⟩), .pointer (some ⟨N + 1 + 1 + 1, 0, none⟩), .int .u8 x,
        SV s, .func (.func 92) #[] #[.pointer (some ⟨N + 1 + 1 + 1 + 1, 0, none⟩)], .int .u8 x,
        undef, undef, undef, undef, undef, undef, undef, undef, undef, undef, undef, undef, undef, undef, undef, undef, undef, undef, undef, undef, undef, undef, undef], defers := [] }) ?assign ?body ?done ?stop
  case assign =>
    intro l x W K hK
    gi_wp2
    exact hK
  case body =>
    rintro l' pre x Mi W1 hpre ⟨Mo, ho, hz, hlt, hj, hc⟩ hMi
    obtain ⟨em, cur, hst⟩ : ∃ em cur, runSt pre = (em, cur) := ⟨_, _, rfl⟩
    have hsn := runSt_snoc pre x
    rw [hst] at hj hc hsn
    have hx := bytes_prefix_lt s pre x hpre
    obtain ⟨g0, g1, g2, g3⟩ := hc
    have m1 : Mi (N + 1) := (ho.iff _).2 (.inr (by omega))
    have m2 : Mi (N + 2) := (ho.iff _).2 (.inr (by omega))
    have m3 : Mi (N + 3) := (ho.iff _).2 (.inr (by omega))
    have f1 := g1.frozen 0; have f2 := g2.frozen 0; have f3 := g3.frozen 0
    have e0 := g0.cell 0; have e1 := g1.cell 0; have e2 := g2.cell 0; have e3 := g3.cell 0
    simp only [List.getElem?_toArray, List.getElem?_cons_zero] at e0 e1 e2 e3
    have HPre := hide hpre
    have HO := hide ho
    have HJ := hide hj
    have HS := hide hst
    have HSN := hide hsn
    clear hpre ho hj hst hsn
    have hcc : RunCells N l cur W1 := ⟨g0, g1, g2, g3⟩
    have HC := hide hcc
    clear hcc
    have hag3 : Agree (fun k => ¬ Mi k) W1 (((W1.setCell ⟨N + 1, 0, none⟩ (.int .u8 x)).setCell ⟨N + 1 + 1, 0, none⟩ (.int .u8 x)).setCell ⟨N + 1 + 1 + 1, 0, none⟩ (.bool true)) :=
      ((Agree.setCell _ _ _ (fun h => h m1)).trans (Agree.setCell _ _ _ (fun h => h m2))).trans (Agree.setCell _ _ _ (fun h => h m3))
    have HA3 := hide hag3
    clear hag3
    cases cur with
    | none =>
      simp only [Option.map_none, Option.getD_none, Option.isSome_none] at e1 e2 e3
      gi_wp2
      refine ⟨fun _ _ => trivial, ?_⟩
      gi_wp2
      exact ⟨Mi, Foot.same hMi HA3.out, RunI.mk HSN.out HO.out (Nat.le_trans hz HA3.out.size) (fun k hk => Nat.lt_of_lt_of_le (hlt k hk) HA3.out.size)
        (hJ _ _ _ _ HJ.out (((Agree.setCell _ _ _ (HO.out.out _ (by simp) (by simp))).trans (Agree.setCell _ _ _ (HO.out.out _ (by simp; omega) (by simp)))).trans (Agree.setCell _ _ _ (HO.out.out _ (by simp; omega) (by simp))))) (HC.out.opened x)⟩
    | some r =>
      obtain ⟨f, la⟩ := r
      simp only [Option.map_some, Option.getD_some, Option.isSome_some] at e1 e2 e3
      obtain ⟨q, hq⟩ := runSt_last pre f la (by rw [HS.out])
      have hnx := HPre.out
      rw [hq] at hnx
      obtain ⟨hl1, hl2⟩ := bytes_next s q la x hnx
      clear hq hnx
      by_cases hb : x = la + 1
      · have hb' : ((x : Int) - (la : Int) == 1) = true := by rw [beq_iff_eq]; omega
        have HB1 := hide hb
        clear hb
        gi_wp2
        have hag : Agree (fun k => ¬ Mi k) W1 (W1.setCell ⟨N + 1 + 1, 0, none⟩ (.int .u8 x)) := Agree.setCell _ _ _ (fun h => h m2)
        refine ⟨Mi, Foot.same hMi hag, RunI.mk (cur := some (f, x)) (em := em) ?_ HO.out (Nat.le_trans hz hag.size) (fun k hk => Nat.lt_of_lt_of_le (hlt k hk) hag.size)
          (hJ _ _ _ _ HJ.out (Agree.setCell _ _ _ (HO.out.out _ (by simp; omega) (by simp)))) (HC.out.last x)⟩
        rw [HSN.out]; simp only [runStep]; rw [if_pos HB1.out]
      · have hb' : ((x : Int) - (la : Int) == 1) = false := by rw [beq_eq_false_iff_ne]; omega
        have HB1 := hide hb
        clear hb
        have hsn2 : runSt (pre ++ [x]) = (em ++ [(f, la)], some (x, x)) := by rw [HSN.out]; simp only [runStep]; rw [if_neg HB1.out]
        have hem : em ++ [(f, la)] <+: runsOf s := by
          have := runSt_prefix HPre.out
          rw [hsn2] at this
          exact this
        obtain ⟨fn, tmps, assign, body, hyy, hR⟩ := HY.out em (f, la) Mo W1 hem HJ.out hlt
        have HR := hide hR
        have HE := hide hem
        have HS2 := hide hsn2
        clear hR hem hsn2
        gi_wp2
        refine ⟨rfl, ?_⟩
        refine RoundIn.mono (F := Fence.wide) HR.out ?_
        rintro e W3 ⟨M3, hF3, ⟨rfl, hJ3⟩ | ⟨rfl, hJx3⟩⟩
        · obtain ⟨ho3, hFi⟩ := HO.out.foot hF3 hz
          have hc3 : RunCells N l (some (f, la)) W3 := HC.out.agree hF3.agree (fun k h1 h2 => HO.out.out k h1 (by omega))
          have HC3 := hide hc3
          have HF3 := hide hF3
          have HJ3 := hide hJ3
          obtain ⟨g0, g1, g2, g3⟩ := hc3
          have f1 := g1.frozen 0; have f2 := g2.frozen 0; have f3 := g3.frozen 0
          have e1 := g1.cell 0; have e2 := g2.cell 0; have e3 := g3.cell 0
          simp only [List.getElem?_toArray, List.getElem?_cons_zero] at e1 e2 e3
          have hz3 : N + 5 ≤ W3.heap.size := Nat.le_trans hz hF3.agree.size
          have HO3 := hide ho3
          have HFi := hide hFi
          clear hF3 hJ3 ho3 hFi
          gi_wp2
          have hag : ∀ K : Nat → Prop, ¬ K (N + 1) → ¬ K (N + 2) → ¬ K (N + 3) → Agree K W3 (((W3.setCell ⟨N + 1, 0, none⟩ (.int .u8 x)).setCell ⟨N + 1 + 1, 0, none⟩ (.int .u8 x)).setCell ⟨N + 1 + 1 + 1, 0, none⟩ (.bool true)) :=
            fun K k1 k2 k3 => ((Agree.setCell _ _ _ k1).trans (Agree.setCell _ _ _ k2)).trans (Agree.setCell _ _ _ k3)
          have hm : ∀ k, N ≤ k → k < N + 4 → (M3 k ∨ (N ≤ k ∧ k < N + 4)) := fun k h1 h2 => .inr ⟨h1, h2⟩
          have hag2 := hag (fun k => ¬ (M3 k ∨ (N ≤ k ∧ k < N + 4))) (fun h => h (hm _ (by omega) (by omega))) (fun h => h (hm _ (by omega) (by omega))) (fun h => h (hm _ (by omega) (by omega)))
          exact ⟨_, HFi.out.trans (Foot.same HFi.out.lt hag2), RunI.mk HS2.out HO3.out (Nat.le_trans hz3 hag2.size) (fun k hk => Nat.lt_of_lt_of_le (HF3.out.lt k hk) hag2.size)
            (hJ _ _ _ _ HJ3.out (hag M3 (HO3.out.out _ (by omega) (by omega)) (HO3.out.out _ (by omega) (by omega)) (HO3.out.out _ (by omega) (by omega)))) (HC3.out.opened x)⟩
        · obtain ⟨ho3, hFi⟩ := HO.out.foot hF3 hz
          have HO3 := hide ho3
          have HFi := hide hFi
          have HJ3 := hide hJx3
          clear hF3 hJx3 ho3 hFi
          gi_wp2
          exact ⟨_, HFi.out, rfl, M3, _, HO3.out, HE.out, HJ3.out⟩
  case done =>
    rintro D Mi W1 ⟨Mo, ho, hz, hlt, hj, hc⟩ hF hD hK hn
    obtain ⟨em, cur, hst⟩ : ∃ em cur, runSt (bytesOf s) = (em, cur) := ⟨_, _, rfl⟩
    have hrs : runsOf s = em ++ cur.toList := by unfold runsOf runsL; rw [hst]
    rw [hst] at hj hc
    have HF := hide hF
    have HK := hide hK
    have HO := hide ho
    have HJ := hide hj
    have HRS := hide hrs
    have HC := hide hc
    obtain ⟨g0, g1, g2, g3⟩ := hc
    have e0 := g0.cell 0; have e1 := g1.cell 0; have e2 := g2.cell 0; have e3 := g3.cell 0
    simp only [List.getElem?_toArray, List.getElem?_cons_zero] at e0 e1 e2 e3
    clear hF hK ho hj hrs hst g0 g1 g2 g3
    cases cur with
    | none =>
      simp only [Option.map_none, Option.getD_none, Option.isSome_none] at e1 e2 e3
      gi_wp2
      refine leave_mark_end HK.out (results_none rfl _ _ _) ⟨⟨_, rfl⟩, Mo, (runFoot hN HB.out HF.out HO.out).put (by have := HB.out.1.size; omega) _, .inl ?_⟩
      rw [HRS.out, Option.toList_none, List.append_nil]
      exact hJ _ _ _ _ HJ.out (Agree.putObj _ _ _ (fun h => hn ((HO.out.iff _).2 (.inl h))))
    | some r =>
      obtain ⟨f, la⟩ := r
      simp only [Option.map_some, Option.getD_some, Option.isSome_some] at e1 e2 e3
      have hem : em ++ [(f, la)] <+: runsOf s := by rw [HRS.out]; exact List.prefix_rfl
      obtain ⟨fn, tmps, assign, body, hyy, hR⟩ := HY.out em (f, la) Mo W1 hem HJ.out hlt
      have HR := hide hR
      clear hR hem
      gi_wp2
      refine ⟨rfl, ?_⟩
      refine RoundIn.mono (F := Fence.wide) HR.out ?_
      rintro e W3 ⟨M3, hF3, ⟨rfl, hJ3⟩ | ⟨rfl, hJx3⟩⟩
      · have HF3 := hide hF3
        have HJ3 := hide hJ3
        clear hF3 hJ3
        gi_wp2
        have hD1 : D < W1.heap.size := (Array.getElem?_eq_some_iff.1 HK.out).1
        have hMoD : ¬ Mo D := fun h => hn ((HO.out.iff _).2 (.inl h))
        refine leave_mark_end ((HF3.out.agree.block D hD1 hMoD).trans HK.out) (results_none rfl _ _ _) ⟨⟨_, rfl⟩, M3, ((runFoot hN HB.out HF.out HO.out).trans HF3.out).put (by have := HB.out.1.size; omega) _, .inl ?_⟩
        rw [HRS.out]
        exact hJ _ _ _ _ HJ3.out (Agree.putObj _ _ _ (HF3.out.out hD1 hMoD))
      · have HF3 := hide hF3
        have HJ3 := hide hJx3
        clear hF3 hJx3
        gi_wp2
        have hD1 : D < W1.heap.size := (Array.getElem?_eq_some_iff.1 HK.out).1
        have hMoD : ¬ Mo D := fun h => hn ((HO.out.iff _).2 (.inl h))
        refine leave_mark_end ((HF3.out.agree.block D hD1 hMoD).trans HK.out) (results_none rfl _ _ _) ⟨⟨_, rfl⟩, M3, ((runFoot hN HB.out HF.out HO.out).trans HF3.out).put (by have := HB.out.1.size; omega) _, .inr ⟨_, ?_, hJx _ _ _ _ HJ3.out (Agree.putObj _ _ _ (HF3.out.out hD1 hMoD))⟩⟩
        rw [HRS.out]; exact List.prefix_rfl
  case stop =>
    rintro D c pre Mi W1 hp ⟨rfl, Mo, em, ho, hem, hjx⟩ hF hD hK hn
    have HF := hide hF
    have HK := hide hK
    have HO := hide ho
    have HJ := hide hjx
    have HE := hide hem
    clear hF hK ho hjx hem hp
    gi_wp2
    exact leave_mark HK.out (results_none rfl _ _ _) ⟨⟨_, rfl⟩, Mo, (runFoot hN HB.out HF.out HO.out).put (by have := HB.out.1.size; omega) _, .inr ⟨em, HE.out, hJx _ _ _ _ HJ.out (Agree.putObj _ _ _ (fun h => hn ((HO.out.iff _).2 (.inl h))))⟩⟩
end Go.Proofs.YthhfpjehamhcbaaGreatDoor
/- Slices that came in. -/
namespace Go.Proofs.YthhfpjehamhcbaaGreatDoor
set_option maxRecDepth 100000
open Go.RowKit

/-- A slice of bytes that came in. -/
def BytesRow (w : World) (v : Value) (l : List Nat) : Prop :=
  (∀ x ∈ l, x < 256) ∧ l.length ≤ 9223372036854775807 ∧ ∃ a cap, v = .slice a l.length cap ∧ ∀ k, k < l.length → ∃ b off, a = some ⟨b, off, none⟩ ∧ b < w.heap.size ∧ w.cell? ⟨b, off + k, none⟩ = some (.int .u8 (l.getD k 0))

/-- A slice of sets. -/
def SetsRow (w : World) (v : Value) (l : List (BitVec 256)) : Prop :=
  l.length ≤ 9223372036854775807 ∧ ∃ a cap, v = .slice a l.length cap ∧ ∀ k, k < l.length → ∃ b off, a = some ⟨b, off, none⟩ ∧ b < w.heap.size ∧ ∀ j, j < 4 → w.cell? ⟨b, off + k * 4 + j, none⟩ = some (.int .u64 (wd (l.getD k 0) j))
theorem SetsRow.below {w w' : World} {v : Value} {l : List (BitVec 256)} (h : SetsRow w v l) (hb : Below w.heap.size w w') : SetsRow w' v l := by
  obtain ⟨h1, a, cap, rfl, h2⟩ := h
  refine ⟨h1, a, cap, rfl, fun k hk => ?_⟩
  obtain ⟨b, off, e, hlt, hc⟩ := h2 k hk
  refine ⟨b, off, e, Nat.lt_of_lt_of_le hlt hb.size, fun j hj => ?_⟩
  rw [← hc j hj]
  exact World.cell?_of_block (w := w) (hb.block b hlt)

end Go.Proofs.YthhfpjehamhcbaaGreatDoor
