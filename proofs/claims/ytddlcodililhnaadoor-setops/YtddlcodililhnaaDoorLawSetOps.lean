/- SetOps: the operations of sets, byte by byte. -/
import Derived.Test.YtddlcodililhnaaDoorSetH
import Derived.Test.YtddlcodililhnaaDoorQuiet2
import Derived.Test.YtddlcodililhnaaDoorMathCnt
import Derived.Test.YtddlcodililhnaaDoorLexSetOps
namespace Go.Proofs.YtddlcodililhnaaDoor
open Go.RowKit

/-- The blocks of SetOps. -/
structure Ops4 (s t : BitVec 256) (B xb yb N k : Nat) (w W : World) : Prop where
  s0 : Blk W B (WS s) 24
  t0 : Blk W (B + 1) (WS t) 24
  x0 : Blk W xb (bArr s.getLsbD) 4
  y0 : Blk W yb (bArr t.getLsbD) 4
  and0 : Blk W N (bArr fun j => decide (j < k) && (s.getLsbD j && t.getLsbD j)) 4
  or0 : Blk W (N + 1) (bArr fun j => decide (j < k) && (s.getLsbD j || t.getLsbD j)) 4
  minus0 : Blk W (N + 2) (bArr fun j => decide (j < k) && (s.getLsbD j && !t.getLsbD j)) 4
  not0 : Blk W (N + 3) (bArr fun j => decide (j < k) && !s.getLsbD j) 4
  below : Below B w W

theorem Ops4.round {s t : BitVec 256} {B xb yb N k : Nat} {w W : World} (h : Ops4 s t B xb yb N k w W) (hk : k < 256) (hB : B + 2 ≤ N) (hx : xb < N) (hy : yb < N) {v1 v2 v3 v4 : Bool}
    (e1 : v1 = (s.getLsbD k && t.getLsbD k)) (e2 : v2 = (s.getLsbD k || t.getLsbD k)) (e3 : v3 = (s.getLsbD k && !t.getLsbD k)) (e4 : v4 = !s.getLsbD k) :
    Ops4 s t B xb yb N (k + 1) w ((((W.setCell ⟨N, k, none⟩ (.bool v1)).setCell ⟨N + 1, k, none⟩ (.bool v2)).setCell ⟨N + 1 + 1, k, none⟩ (.bool v3)).setCell ⟨N + 1 + 1 + 1, k, none⟩ (.bool v4)) := by
  have oth : ∀ {b : Nat} {c : Array Value} {ty : TypeId}, Blk W b c ty → b < N → Blk ((((W.setCell ⟨N, k, none⟩ (.bool v1)).setCell ⟨N + 1, k, none⟩ (.bool v2)).setCell ⟨N + 1 + 1, k, none⟩ (.bool v3)).setCell ⟨N + 1 + 1 + 1, k, none⟩ (.bool v4)) b c ty :=
    fun hb hlt => (((hb.setOther _ _ (by simp; omega)).setOther _ _ (by simp; omega)).setOther _ _ (by simp; omega)).setOther _ _ (by simp; omega)
  have upd : ∀ (g : Nat → Bool) (v : Bool), v = g k → (bArr fun j => decide (j < k + 1) && g j) = bArr (fun j => if j = k then v else (decide (j < k) && g j)) := fun g v hv => bArr_congr fun j _ => by
    by_cases e : j = k
    · subst e; simp [hv]
    · have : (j < k + 1) = (j < k) := by apply propext; omega
      simp [e, this]
  refine ⟨oth h.s0 (by omega), oth h.t0 (by omega), oth h.x0 hx, oth h.y0 hy, ?_, ?_, ?_, ?_, (((h.below.setCell (by simp; omega) _).setCell (by simp; omega) _).setCell (by simp; omega) _).setCell (by simp; omega) _⟩
  · rw [upd _ v1 e1, ← bArr_set _ k _ hk]
    exact (((h.and0.set k _).setOther _ _ (by simp)).setOther _ _ (by simp; omega)).setOther _ _ (by simp; omega)
  · rw [upd _ v2 e2, ← bArr_set _ k _ hk]
    exact (((h.or0.setOther _ _ (by simp)).set k _).setOther _ _ (by simp)).setOther _ _ (by simp)
  · rw [upd _ v3 e3, ← bArr_set _ k _ hk]
    exact (((h.minus0.setOther _ _ (by simp)).setOther _ _ (by simp)).set k _).setOther _ _ (by simp)
  · rw [upd _ v4 e4, ← bArr_set _ k _ hk]
    exact (((h.not0.setOther _ _ (by simp)).setOther _ _ (by simp)).setOther _ _ (by simp)).set k _

theorem Ops4.step {s t : BitVec 256} {B xb yb N k : Nat} {w W W' : World} (h : Ops4 s t B xb yb N k w W) (hb : Below W.heap.size W W') : Ops4 s t B xb yb N k w W' :=
  ⟨h.s0.below hb h.s0.lt, h.t0.below hb h.t0.lt, h.x0.below hb h.x0.lt, h.y0.below hb h.y0.lt, h.and0.below hb h.and0.lt, h.or0.below hb h.or0.lt, h.minus0.below hb h.minus0.lt, h.not0.below hb h.not0.lt, h.below.trans (hb.mono (by have := h.s0.lt; omega))⟩
theorem Ops4.drew {s t : BitVec 256} {B xb yb N k : Nat} {w W : World} (h : Ops4 s t B xb yb N k w W) : Ops4 s t B xb yb N k w { W with drawn := W.drawn + 1 } :=
  ⟨h.s0, h.t0, h.x0, h.y0, h.and0, h.or0, h.minus0, h.not0, ⟨h.below.os, h.below.tape, h.below.output, h.below.size, h.below.block⟩⟩

set_option maxRecDepth 100000 in
set_option maxHeartbeats 4000000 in
theorem setOps_any (s t : BitVec 256) (w : World) (hT : TabAt w) :
    Calls Tryd.prog 3 #[SV s, SV t] w fun e w' => e = .returned (.bool true) ∧ Below w.heap.size w w' := by
  have HT := hide hT
  clear hT
  go_enter Tryd.func3, Tryd.ntmps3
  go_wp2_with fail
  refine (head1_any _ (HT.out.agree (Agree.of_all (K := fun _ => True) ((((Below.refl w.heap.size w).alloc (Nat.le_refl _) _).alloc (by simp) _))) trivial)).mono ?_
  rintro e w1 ⟨rfl, hb⟩
  have ks := ((Blk.newAt (w := w) rfl (WS s) 24).alloc (.cells (WS t) 24)).below hb (by simp; omega)
  have kt := (Blk.newAt (w := w.alloc (.cells (WS s) 24)) (n := w.heap.size + 1) (by simp) (WS t) 24).below hb (by simp)
  have HB1 := hide ((((Below.refl w.heap.size w).alloc (Nat.le_refl _) (.cells (WS s) 24)).alloc (by simp) (.cells (WS t) 24)).trans (hb.mono (by simp; omega)))
  clear hb
  have hx1 : w.heap.size + 2 ≤ w1.heap.size + 1 := by have := kt.lt; omega
  have c0 := ks.cell 0; have c1 := ks.cell 1; have c2 := ks.cell 2; have c3 := ks.cell 3
  simp only [List.getElem?_toArray, List.getElem?_cons_zero, List.getElem?_cons_succ] at c0 c1 c2 c3
  go_wp2_with fail
  refine (bools_any s _).mono ?_
  rintro e w2 ⟨rfl, hb, kx⟩
  have ks := ks.below hb ks.lt
  have kt := kt.below hb kt.lt
  have HB2 := hide (HB1.out.trans (hb.mono HB1.out.size))
  clear hb c0 c1 c2 c3
  generalize w1.heap.size + 1 = xb at *
  have d0 := kt.cell 0; have d1 := kt.cell 1; have d2 := kt.cell 2; have d3 := kt.cell 3
  simp only [List.getElem?_toArray, List.getElem?_cons_zero, List.getElem?_cons_succ] at d0 d1 d2 d3
  go_wp2_with fail
  refine (bools_any t _).mono ?_
  rintro e w3 ⟨rfl, hb, ky⟩
  have ks := ks.below hb ks.lt
  have kt := kt.below hb kt.lt
  have kx := kx.below hb kx.lt
  have HB3 := hide (HB2.out.trans (hb.mono HB2.out.size))
  clear hb d0 d1 d2 d3
  generalize w2.heap.size + 1 = yb at *
  have hmk := mkB
  have hxl := kx.lt; have hyl := ky.lt; have htl := kt.lt
  go_wp2_with fail
  clear hmk
  have hNB : w.heap.size + 2 ≤ w3.heap.size := by omega
  generalize hN : w3.heap.size = N at *
  go_loopw [11, 12, 13] (fun n le i wr => ∃ k : Nat, k ≤ 256 ∧ i = .int .i64 k ∧ n = .int .i64 (cnt s k) ∧ le = .int .i64 (lst s k) ∧ Ops4 s t w.heap.size xb yb N k w wr) (fun _ _ i _ => 256 - (intOf i).toNat)
  case atStart =>
    refine ⟨0, by omega, rfl, rfl, rfl, ?_⟩
    have z : ∀ g : Nat → Bool, (bArr fun j => decide (j < 0) && g j) = bArr fun _ => false := fun g => bArr_congr fun j _ => by simp
    refine ⟨(((ks.alloc _).alloc _).alloc _).alloc _, (((kt.alloc _).alloc _).alloc _).alloc _, (((kx.alloc _).alloc _).alloc _).alloc _, (((ky.alloc _).alloc _).alloc _).alloc _, ?_, ?_, ?_, ?_,
      (((HB3.out.alloc (by omega) _).alloc (by simp; omega) _).alloc (by simp; omega) _).alloc (by simp; omega) _⟩
    · rw [z]; exact (((Blk.newAt hN.symm _ _).alloc _).alloc _).alloc _
    · rw [z]; exact ((Blk.newAt (by simp [hN]) _ _).alloc _).alloc _
    · rw [z]; exact (Blk.newAt (by simp [hN]) _ _).alloc _
    · rw [z]; exact Blk.newAt (by simp [hN]) _ _
  case round =>
    obtain ⟨k, hk, rfl, rfl, rfl, hO⟩ := hrel
    have hc1 := cnt_le s k
    have hc2 := cnt_succ s k
    have hl1 := lst_ge s k
    have HC := hide hc2
    clear hc2
    by_cases hlt : k < 256
    · have hl1 : -1 ≤ lst s k ∧ lst s k < 256 := by rcases hl1 with h | h; exact h; omega
      obtain ⟨hl2, hl3⟩ := hl1
      have hd : decide ((k : Int) < 256) = true := by simp; omega
      have g1 := hO.x0.cell k; have g2 := hO.y0.cell k; have g3 := hO.and0.cell k; have g4 := hO.or0.cell k; have g5 := hO.minus0.cell k; have g6 := hO.not0.cell k
      rw [bArr_get _ k hlt] at g1 g2 g3 g4 g5 g6
      have q3 := hO.and0.frozen k; have q4 := hO.or0.frozen k; have q5 := hO.minus0.frozen k; have q6 := hO.not0.frozen k
      have HO := hide hO
      clear hO
      cases hsk : s.getLsbD k
      · have H1 := hide hsk
        cases htk : t.getLsbD k
        · have H2 := hide htk
          rw [hsk] at g1; rw [htk] at g2
          clear hsk htk
          have HLS := hide (lst_no s k H1.out)
          go_wp2
          exact ⟨⟨k + 1, by omega, by go_num, by rw [HC.out, H1.out]; rfl, by rw [HLS.out], HO.out.round hlt hNB hxl hyl (by rw [H1.out]; rfl) (by rw [H1.out, H2.out]; rfl) (by rw [H1.out]; rfl) (by rw [H1.out]; rfl)⟩, by simp [intOf]; omega⟩
        · have H2 := hide htk
          rw [hsk] at g1; rw [htk] at g2
          clear hsk htk
          have HLS := hide (lst_no s k H1.out)
          go_wp2
          exact ⟨⟨k + 1, by omega, by go_num, by rw [HC.out, H1.out]; rfl, by rw [HLS.out], HO.out.round hlt hNB hxl hyl (by rw [H1.out]; rfl) (by rw [H1.out, H2.out]; rfl) (by rw [H1.out]; rfl) (by rw [H1.out]; rfl)⟩, by simp [intOf]; omega⟩
      · have H1 := hide hsk
        cases htk : t.getLsbD k
        · have H2 := hide htk
          rw [hsk] at g1; rw [htk] at g2
          clear hsk htk
          by_cases hneg : lst s k < 0
          · have HLS := hide (lst_neg s k H1.out hneg)
            go_wp2
            exact ⟨⟨k + 1, by omega, by go_num, by rw [HC.out, H1.out]; rfl, by rw [HLS.out], HO.out.round hlt hNB hxl hyl (by rw [H1.out, H2.out]; rfl) (by rw [H1.out]; rfl) (by rw [H1.out, H2.out]; rfl) (by rw [H1.out]; rfl)⟩, by simp [intOf]; omega⟩
          · have hpos : 0 ≤ lst s k := by omega
            have HLS := hide (lst_pos s k hpos)
            clear hneg
            go_wp2
            exact ⟨⟨k + 1, by omega, by go_num, by rw [HC.out, H1.out]; rfl, by rw [HLS.out], HO.out.round hlt hNB hxl hyl (by rw [H1.out, H2.out]; rfl) (by rw [H1.out]; rfl) (by rw [H1.out, H2.out]; rfl) (by rw [H1.out]; rfl)⟩, by simp [intOf]; omega⟩
        · have H2 := hide htk
          rw [hsk] at g1; rw [htk] at g2
          clear hsk htk
          by_cases hneg : lst s k < 0
          · have HLS := hide (lst_neg s k H1.out hneg)
            go_wp2
            exact ⟨⟨k + 1, by omega, by go_num, by rw [HC.out, H1.out]; rfl, by rw [HLS.out], HO.out.round hlt hNB hxl hyl (by rw [H1.out, H2.out]; rfl) (by rw [H1.out]; rfl) (by rw [H1.out, H2.out]; rfl) (by rw [H1.out]; rfl)⟩, by simp [intOf]; omega⟩
          · have hpos : 0 ≤ lst s k := by omega
            have HLS := hide (lst_pos s k hpos)
            clear hneg
            go_wp2
            exact ⟨⟨k + 1, by omega, by go_num, by rw [HC.out, H1.out]; rfl, by rw [HLS.out], HO.out.round hlt hNB hxl hyl (by rw [H1.out, H2.out]; rfl) (by rw [H1.out]; rfl) (by rw [H1.out, H2.out]; rfl) (by rw [H1.out]; rfl)⟩, by simp [intOf]; omega⟩
    · obtain rfl : k = 256 := by omega
      clear hl1
      have c0 := hO.s0.cell 0; have c1 := hO.s0.cell 1; have c2 := hO.s0.cell 2; have c3 := hO.s0.cell 3
      simp only [List.getElem?_toArray, List.getElem?_cons_zero, List.getElem?_cons_succ] at c0 c1 c2 c3
      go_wp2_with fail
      refine (least_any s _ (HT.out.agree (Agree.of_all (K := fun _ => True) hO.below) trivial)).mono ?_
      obtain ⟨l0, hl0⟩ : ∃ l0, l0 = (bytesOf s).headD 0 := ⟨_, rfl⟩
      obtain ⟨is0, his⟩ : ∃ is0, is0 = !(bytesOf s).isEmpty := ⟨_, rfl⟩
      obtain ⟨n, hn⟩ : ∃ n, n = cnt s 256 := ⟨_, rfl⟩
      obtain ⟨le, hle⟩ : ∃ le, le = lst s 256 := ⟨_, rfl⟩
      rw [← hn, ← hle, show leastV (bytesOf s) = .tuple #[.int .u8 l0, .bool is0] from by rw [hl0, his]; rfl]
      have hl256 : l0 < 256 := by
        rw [hl0]
        cases e : bytesOf s with
        | nil => simp
        | cons x r => have := bytesOf_lt s x (by rw [e]; simp); simpa using this
      have h94 : sameB s s.getLsbD = true := sameB_true fun _ _ => rfl
      have h100 : sameB (s &&& t) (fun j => decide (j < 256) && (s.getLsbD j && t.getLsbD j)) = true := sameB_true fun i hi => by simp [hi]
      have h107 : sameB (s ||| t) (fun j => decide (j < 256) && (s.getLsbD j || t.getLsbD j)) = true := sameB_true fun i hi => by simp [hi]
      have h114 : sameB (s &&& ~~~t) (fun j => decide (j < 256) && (s.getLsbD j && !t.getLsbD j)) = true := sameB_true fun i hi => by simp [hi]
      have h120 : sameB (~~~s) (fun j => decide (j < 256) && !s.getLsbD j) = true := sameB_true fun i hi => by simp [hi]
      have h126 : ((card s : Int) == (n : Int)) = true := by rw [hn, card_cnt]; simp
      have h133 : ((s == 0#256) == ((n : Int) == 0)) = true := by rw [hn, empty_cnt]; simp
      have h139 : (is0 == decide (0 < (n : Int))) = true := by
        rw [his, hn, cnt_bytes]; cases bytesOf s <;> simp
      have h146 : ((l0 : Int) == max le 0) = true := by rw [hle, lst_bytes, hl0]; simp
      have h155 : ((s == t) == sameB s t.getLsbD) = true := by rw [sameB_eq]; simp
      clear hn hle hl0 his
      rintro e w5 ⟨rfl, hb⟩
      have hO5 : Ops4 s t w.heap.size xb yb N 256 w w5 := hO.step hb
      clear hb hO c0 c1 c2 c3
      go_wp2_with fail
      have hG : Grows (Ops4 s t w.heap.size xb yb N 256 w) := fun W W' h hb => h.step hb
      refine quiet_lit (C := Ops4 s t w.heap.size xb yb N 256 w) (by kernel_rfl) lexSetOps hO5.drew ?_
      refine q_want rfl fun K hK => q_value (SV s) (fun w hw => x_loadSet _ _ _ _ _ _ _ _ s rfl w hw.s0) ?_
      simp only [Act.put, List.setIfInBounds_toArray, List.set_cons_succ, List.set_cons_zero]
      refine hK _ ?_
      clear hK K
      refine q_want rfl fun K hK => q_value (.slice (some ⟨xb, 0, none⟩) 256 256) (fun w _ => x_move _ _ _ _ _ _ _ _ rfl w) ?_
      simp only [Act.put, List.setIfInBounds_toArray, List.set_cons_succ, List.set_cons_zero]
      refine hK _ ?_
      clear hK K
      refine q_want rfl fun K hK => q_call hG 13 #[SV s, .slice (some ⟨xb, 0, none⟩) 256 256] (.bool (sameB s s.getLsbD)) (x_call2 _ _ _ _ _ _ _ _ _ _ _ _ _ rfl rfl rfl (enters_of Tryd.func13 (by kernel_rfl) rfl)) (fun w hw => same_any s s.getLsbD _ w hw.x0) ?_
      rw [h94]
      simp only [Act.put, List.setIfInBounds_toArray, List.set_cons_succ, List.set_cons_zero]
      refine hK _ ?_
      clear hK K
      refine q_want rfl fun K hK => q_value (.bool true) (fun w _ => x_move _ _ _ _ _ _ _ _ rfl w) ?_
      simp only [Act.put, List.setIfInBounds_toArray, List.set_cons_succ, List.set_cons_zero]
      refine hK _ ?_
      clear hK K
      refine q_want rfl fun K hK => q_value (SV s) (fun w hw => x_loadSet _ _ _ _ _ _ _ _ s rfl w hw.s0) ?_
      simp only [Act.put, List.setIfInBounds_toArray, List.set_cons_succ, List.set_cons_zero]
      refine hK _ ?_
      clear hK K
      refine q_want rfl fun K hK => q_value (SV t) (fun w hw => x_loadSet _ _ _ _ _ _ _ _ t rfl w hw.t0) ?_
      simp only [Act.put, List.setIfInBounds_toArray, List.set_cons_succ, List.set_cons_zero]
      refine hK _ ?_
      clear hK K
      refine q_want rfl fun K hK => q_call hG 14 #[SV s, SV t] (SV (s &&& t)) (x_call2 _ _ _ _ _ _ _ _ _ _ _ _ _ rfl rfl rfl (enters_of Tryd.func14 (by kernel_rfl) rfl)) (fun w _ => and_any s t w) ?_
      simp only [Act.put, List.setIfInBounds_toArray, List.set_cons_succ, List.set_cons_zero]
      refine hK _ ?_
      clear hK K
      refine q_want rfl fun K hK => q_value (.slice (some ⟨N, 0, none⟩) 256 256) (fun w _ => x_move _ _ _ _ _ _ _ _ rfl w) ?_
      simp only [Act.put, List.setIfInBounds_toArray, List.set_cons_succ, List.set_cons_zero]
      refine hK _ ?_
      clear hK K
      refine q_want rfl fun K hK => q_call hG 13 #[SV (s &&& t), .slice (some ⟨N, 0, none⟩) 256 256] (.bool (sameB (s &&& t) (fun j => decide (j < 256) && (s.getLsbD j && t.getLsbD j)))) (x_call2 _ _ _ _ _ _ _ _ _ _ _ _ _ rfl rfl rfl (enters_of Tryd.func13 (by kernel_rfl) rfl)) (fun w hw => same_any (s &&& t) (fun j => decide (j < 256) && (s.getLsbD j && t.getLsbD j)) _ w hw.and0) ?_
      rw [h100]
      simp only [Act.put, List.setIfInBounds_toArray, List.set_cons_succ, List.set_cons_zero]
      refine hK _ ?_
      clear hK K
      refine q_want rfl fun K hK => q_value (.bool true) (fun w _ => x_pick _ _ _ _ _ _ _ _ _ true (.bool true) (.bool false) rfl rfl rfl w) ?_
      simp only [Act.put, List.setIfInBounds_toArray, List.set_cons_succ, List.set_cons_zero]
      refine hK _ ?_
      clear hK K
      refine q_want rfl fun K hK => q_value (.bool true) (fun w _ => x_move _ _ _ _ _ _ _ _ rfl w) ?_
      simp only [Act.put, List.setIfInBounds_toArray, List.set_cons_succ, List.set_cons_zero]
      refine hK _ ?_
      clear hK K
      refine q_want rfl fun K hK => q_value (SV s) (fun w hw => x_loadSet _ _ _ _ _ _ _ _ s rfl w hw.s0) ?_
      simp only [Act.put, List.setIfInBounds_toArray, List.set_cons_succ, List.set_cons_zero]
      refine hK _ ?_
      clear hK K
      refine q_want rfl fun K hK => q_value (SV t) (fun w hw => x_loadSet _ _ _ _ _ _ _ _ t rfl w hw.t0) ?_
      simp only [Act.put, List.setIfInBounds_toArray, List.set_cons_succ, List.set_cons_zero]
      refine hK _ ?_
      clear hK K
      refine q_want rfl fun K hK => q_call hG 15 #[SV s, SV t] (SV (s ||| t)) (x_call2 _ _ _ _ _ _ _ _ _ _ _ _ _ rfl rfl rfl (enters_of Tryd.func15 (by kernel_rfl) rfl)) (fun w _ => or_any s t w) ?_
      simp only [Act.put, List.setIfInBounds_toArray, List.set_cons_succ, List.set_cons_zero]
      refine hK _ ?_
      clear hK K
      refine q_want rfl fun K hK => q_value (.slice (some ⟨N + 1, 0, none⟩) 256 256) (fun w _ => x_move _ _ _ _ _ _ _ _ rfl w) ?_
      simp only [Act.put, List.setIfInBounds_toArray, List.set_cons_succ, List.set_cons_zero]
      refine hK _ ?_
      clear hK K
      refine q_want rfl fun K hK => q_call hG 13 #[SV (s ||| t), .slice (some ⟨N + 1, 0, none⟩) 256 256] (.bool (sameB (s ||| t) (fun j => decide (j < 256) && (s.getLsbD j || t.getLsbD j)))) (x_call2 _ _ _ _ _ _ _ _ _ _ _ _ _ rfl rfl rfl (enters_of Tryd.func13 (by kernel_rfl) rfl)) (fun w hw => same_any (s ||| t) (fun j => decide (j < 256) && (s.getLsbD j || t.getLsbD j)) _ w hw.or0) ?_
      rw [h107]
      simp only [Act.put, List.setIfInBounds_toArray, List.set_cons_succ, List.set_cons_zero]
      refine hK _ ?_
      clear hK K
      refine q_want rfl fun K hK => q_value (.bool true) (fun w _ => x_pick _ _ _ _ _ _ _ _ _ true (.bool true) (.bool false) rfl rfl rfl w) ?_
      simp only [Act.put, List.setIfInBounds_toArray, List.set_cons_succ, List.set_cons_zero]
      refine hK _ ?_
      clear hK K
      refine q_want rfl fun K hK => q_value (.bool true) (fun w _ => x_move _ _ _ _ _ _ _ _ rfl w) ?_
      simp only [Act.put, List.setIfInBounds_toArray, List.set_cons_succ, List.set_cons_zero]
      refine hK _ ?_
      clear hK K
      refine q_want rfl fun K hK => q_value (SV s) (fun w hw => x_loadSet _ _ _ _ _ _ _ _ s rfl w hw.s0) ?_
      simp only [Act.put, List.setIfInBounds_toArray, List.set_cons_succ, List.set_cons_zero]
      refine hK _ ?_
      clear hK K
      refine q_want rfl fun K hK => q_value (SV t) (fun w hw => x_loadSet _ _ _ _ _ _ _ _ t rfl w hw.t0) ?_
      simp only [Act.put, List.setIfInBounds_toArray, List.set_cons_succ, List.set_cons_zero]
      refine hK _ ?_
      clear hK K
      refine q_want rfl fun K hK => q_call hG 16 #[SV s, SV t] (SV (s &&& ~~~t)) (x_call2 _ _ _ _ _ _ _ _ _ _ _ _ _ rfl rfl rfl (enters_of Tryd.func16 (by kernel_rfl) rfl)) (fun w _ => minus_any s t w) ?_
      simp only [Act.put, List.setIfInBounds_toArray, List.set_cons_succ, List.set_cons_zero]
      refine hK _ ?_
      clear hK K
      refine q_want rfl fun K hK => q_value (.slice (some ⟨N + 1 + 1, 0, none⟩) 256 256) (fun w _ => x_move _ _ _ _ _ _ _ _ rfl w) ?_
      simp only [Act.put, List.setIfInBounds_toArray, List.set_cons_succ, List.set_cons_zero]
      refine hK _ ?_
      clear hK K
      refine q_want rfl fun K hK => q_call hG 13 #[SV (s &&& ~~~t), .slice (some ⟨N + 1 + 1, 0, none⟩) 256 256] (.bool (sameB (s &&& ~~~t) (fun j => decide (j < 256) && (s.getLsbD j && !t.getLsbD j)))) (x_call2 _ _ _ _ _ _ _ _ _ _ _ _ _ rfl rfl rfl (enters_of Tryd.func13 (by kernel_rfl) rfl)) (fun w hw => same_any (s &&& ~~~t) (fun j => decide (j < 256) && (s.getLsbD j && !t.getLsbD j)) _ w hw.minus0) ?_
      rw [h114]
      simp only [Act.put, List.setIfInBounds_toArray, List.set_cons_succ, List.set_cons_zero]
      refine hK _ ?_
      clear hK K
      refine q_want rfl fun K hK => q_value (.bool true) (fun w _ => x_pick _ _ _ _ _ _ _ _ _ true (.bool true) (.bool false) rfl rfl rfl w) ?_
      simp only [Act.put, List.setIfInBounds_toArray, List.set_cons_succ, List.set_cons_zero]
      refine hK _ ?_
      clear hK K
      refine q_want rfl fun K hK => q_value (.bool true) (fun w _ => x_move _ _ _ _ _ _ _ _ rfl w) ?_
      simp only [Act.put, List.setIfInBounds_toArray, List.set_cons_succ, List.set_cons_zero]
      refine hK _ ?_
      clear hK K
      refine q_want rfl fun K hK => q_value (SV s) (fun w hw => x_loadSet _ _ _ _ _ _ _ _ s rfl w hw.s0) ?_
      simp only [Act.put, List.setIfInBounds_toArray, List.set_cons_succ, List.set_cons_zero]
      refine hK _ ?_
      clear hK K
      refine q_want rfl fun K hK => q_call hG 17 #[SV s] (SV (~~~s)) (x_call1 _ _ _ _ _ _ _ _ _ _ rfl rfl (enters_of Tryd.func17 (by kernel_rfl) rfl)) (fun w _ => not_any s w) ?_
      simp only [Act.put, List.setIfInBounds_toArray, List.set_cons_succ, List.set_cons_zero]
      refine hK _ ?_
      clear hK K
      refine q_want rfl fun K hK => q_value (.slice (some ⟨N + 1 + 1 + 1, 0, none⟩) 256 256) (fun w _ => x_move _ _ _ _ _ _ _ _ rfl w) ?_
      simp only [Act.put, List.setIfInBounds_toArray, List.set_cons_succ, List.set_cons_zero]
      refine hK _ ?_
      clear hK K
      refine q_want rfl fun K hK => q_call hG 13 #[SV (~~~s), .slice (some ⟨N + 1 + 1 + 1, 0, none⟩) 256 256] (.bool (sameB (~~~s) (fun j => decide (j < 256) && !s.getLsbD j))) (x_call2 _ _ _ _ _ _ _ _ _ _ _ _ _ rfl rfl rfl (enters_of Tryd.func13 (by kernel_rfl) rfl)) (fun w hw => same_any (~~~s) (fun j => decide (j < 256) && !s.getLsbD j) _ w hw.not0) ?_
      rw [h120]
      simp only [Act.put, List.setIfInBounds_toArray, List.set_cons_succ, List.set_cons_zero]
      refine hK _ ?_
      clear hK K
      refine q_want rfl fun K hK => q_value (.bool true) (fun w _ => x_pick _ _ _ _ _ _ _ _ _ true (.bool true) (.bool false) rfl rfl rfl w) ?_
      simp only [Act.put, List.setIfInBounds_toArray, List.set_cons_succ, List.set_cons_zero]
      refine hK _ ?_
      clear hK K
      refine q_want rfl fun K hK => q_value (.bool true) (fun w _ => x_move _ _ _ _ _ _ _ _ rfl w) ?_
      simp only [Act.put, List.setIfInBounds_toArray, List.set_cons_succ, List.set_cons_zero]
      refine hK _ ?_
      clear hK K
      refine q_want rfl fun K hK => q_value (SV s) (fun w hw => x_loadSet _ _ _ _ _ _ _ _ s rfl w hw.s0) ?_
      simp only [Act.put, List.setIfInBounds_toArray, List.set_cons_succ, List.set_cons_zero]
      refine hK _ ?_
      clear hK K
      refine q_want rfl fun K hK => q_call hG 18 #[SV s] (.int .i64 (card s)) (x_call1 _ _ _ _ _ _ _ _ _ _ rfl rfl (enters_of Tryd.func18 (by kernel_rfl) rfl)) (fun w _ => len_any s w) ?_
      simp only [Act.put, List.setIfInBounds_toArray, List.set_cons_succ, List.set_cons_zero]
      refine hK _ ?_
      clear hK K
      refine q_want rfl fun K hK => q_value (.int .i64 ((n : Int))) (fun w _ => x_move _ _ _ _ _ _ _ _ rfl w) ?_
      simp only [Act.put, List.setIfInBounds_toArray, List.set_cons_succ, List.set_cons_zero]
      refine hK _ ?_
      clear hK K
      refine q_want rfl fun K hK => q_value (.bool ((card s : Int) == (n : Int))) (fun w _ => x_eqInt _ _ _ _ _ _ _ _ _ _ rfl rfl w) ?_
      rw [h126]
      simp only [Act.put, List.setIfInBounds_toArray, List.set_cons_succ, List.set_cons_zero]
      refine hK _ ?_
      clear hK K
      refine q_want rfl fun K hK => q_value (.bool true) (fun w _ => x_pick _ _ _ _ _ _ _ _ _ true (.bool true) (.bool false) rfl rfl rfl w) ?_
      simp only [Act.put, List.setIfInBounds_toArray, List.set_cons_succ, List.set_cons_zero]
      refine hK _ ?_
      clear hK K
      refine q_want rfl fun K hK => q_value (.bool true) (fun w _ => x_move _ _ _ _ _ _ _ _ rfl w) ?_
      simp only [Act.put, List.setIfInBounds_toArray, List.set_cons_succ, List.set_cons_zero]
      refine hK _ ?_
      clear hK K
      refine q_want rfl fun K hK => q_value (SV s) (fun w hw => x_loadSet _ _ _ _ _ _ _ _ s rfl w hw.s0) ?_
      simp only [Act.put, List.setIfInBounds_toArray, List.set_cons_succ, List.set_cons_zero]
      refine hK _ ?_
      clear hK K
      refine q_want rfl fun K hK => q_call hG 19 #[SV s] (.bool (s == 0#256)) (x_call1 _ _ _ _ _ _ _ _ _ _ rfl rfl (enters_of Tryd.func19 (by kernel_rfl) rfl)) (fun w _ => empty_any s w) ?_
      simp only [Act.put, List.setIfInBounds_toArray, List.set_cons_succ, List.set_cons_zero]
      refine hK _ ?_
      clear hK K
      refine q_want rfl fun K hK => q_value (.int .i64 ((n : Int))) (fun w _ => x_move _ _ _ _ _ _ _ _ rfl w) ?_
      simp only [Act.put, List.setIfInBounds_toArray, List.set_cons_succ, List.set_cons_zero]
      refine hK _ ?_
      clear hK K
      refine q_want rfl fun K hK => q_value (.bool (((n : Int) : Int) == 0)) (fun w _ => x_eqInt _ _ _ _ _ _ _ _ _ _ rfl rfl w) ?_
      simp only [Act.put, List.setIfInBounds_toArray, List.set_cons_succ, List.set_cons_zero]
      refine hK _ ?_
      clear hK K
      refine q_want rfl fun K hK => q_value (.bool ((s == 0#256) == (((n : Int) : Int) == 0))) (fun w _ => x_eqBool _ _ _ _ _ _ _ _ _ _ rfl rfl w) ?_
      rw [h133]
      simp only [Act.put, List.setIfInBounds_toArray, List.set_cons_succ, List.set_cons_zero]
      refine hK _ ?_
      clear hK K
      refine q_want rfl fun K hK => q_value (.bool true) (fun w _ => x_pick _ _ _ _ _ _ _ _ _ true (.bool true) (.bool false) rfl rfl rfl w) ?_
      simp only [Act.put, List.setIfInBounds_toArray, List.set_cons_succ, List.set_cons_zero]
      refine hK _ ?_
      clear hK K
      refine q_want rfl fun K hK => q_value (.bool true) (fun w _ => x_move _ _ _ _ _ _ _ _ rfl w) ?_
      simp only [Act.put, List.setIfInBounds_toArray, List.set_cons_succ, List.set_cons_zero]
      refine hK _ ?_
      clear hK K
      refine q_want rfl fun K hK => q_value (.bool is0) (fun w _ => x_move _ _ _ _ _ _ _ _ rfl w) ?_
      simp only [Act.put, List.setIfInBounds_toArray, List.set_cons_succ, List.set_cons_zero]
      refine hK _ ?_
      clear hK K
      refine q_want rfl fun K hK => q_value (.int .i64 ((n : Int))) (fun w _ => x_move _ _ _ _ _ _ _ _ rfl w) ?_
      simp only [Act.put, List.setIfInBounds_toArray, List.set_cons_succ, List.set_cons_zero]
      refine hK _ ?_
      clear hK K
      refine q_want rfl fun K hK => q_value (.bool (decide (0 < ((n : Int) : Int)))) (fun w _ => x_gtrInt _ _ _ _ _ _ _ _ _ _ rfl rfl w) ?_
      simp only [Act.put, List.setIfInBounds_toArray, List.set_cons_succ, List.set_cons_zero]
      refine hK _ ?_
      clear hK K
      refine q_want rfl fun K hK => q_value (.bool ((is0) == (decide (0 < ((n : Int) : Int))))) (fun w _ => x_eqBool _ _ _ _ _ _ _ _ _ _ rfl rfl w) ?_
      rw [h139]
      simp only [Act.put, List.setIfInBounds_toArray, List.set_cons_succ, List.set_cons_zero]
      refine hK _ ?_
      clear hK K
      refine q_want rfl fun K hK => q_value (.bool true) (fun w _ => x_pick _ _ _ _ _ _ _ _ _ true (.bool true) (.bool false) rfl rfl rfl w) ?_
      simp only [Act.put, List.setIfInBounds_toArray, List.set_cons_succ, List.set_cons_zero]
      refine hK _ ?_
      clear hK K
      refine q_want rfl fun K hK => q_value (.bool true) (fun w _ => x_move _ _ _ _ _ _ _ _ rfl w) ?_
      simp only [Act.put, List.setIfInBounds_toArray, List.set_cons_succ, List.set_cons_zero]
      refine hK _ ?_
      clear hK K
      refine q_want rfl fun K hK => q_value (.int .u8 ((l0 : Int))) (fun w _ => x_move _ _ _ _ _ _ _ _ rfl w) ?_
      simp only [Act.put, List.setIfInBounds_toArray, List.set_cons_succ, List.set_cons_zero]
      refine hK _ ?_
      clear hK K
      refine q_want rfl fun K hK => q_value (.int .i64 ((l0 : Int))) (fun w _ => x_convInt _ _ _ _ _ _ _ _ rfl (by omega) (by omega) w) ?_
      simp only [Act.put, List.setIfInBounds_toArray, List.set_cons_succ, List.set_cons_zero]
      refine hK _ ?_
      clear hK K
      refine q_want rfl fun K hK => q_value (.int .i64 le) (fun w _ => x_move _ _ _ _ _ _ _ _ rfl w) ?_
      simp only [Act.put, List.setIfInBounds_toArray, List.set_cons_succ, List.set_cons_zero]
      refine hK _ ?_
      clear hK K
      refine q_want rfl fun K hK => q_value (.int .i64 (max le 0)) (fun w _ => x_max _ _ _ _ _ _ _ _ _ _ rfl rfl w) ?_
      simp only [Act.put, List.setIfInBounds_toArray, List.set_cons_succ, List.set_cons_zero]
      refine hK _ ?_
      clear hK K
      refine q_want rfl fun K hK => q_value (.bool (((l0 : Int) : Int) == max le 0)) (fun w _ => x_eqInt _ _ _ _ _ _ _ _ _ _ rfl rfl w) ?_
      rw [h146]
      simp only [Act.put, List.setIfInBounds_toArray, List.set_cons_succ, List.set_cons_zero]
      refine hK _ ?_
      clear hK K
      refine q_want rfl fun K hK => q_value (.bool true) (fun w _ => x_pick _ _ _ _ _ _ _ _ _ true (.bool true) (.bool false) rfl rfl rfl w) ?_
      simp only [Act.put, List.setIfInBounds_toArray, List.set_cons_succ, List.set_cons_zero]
      refine hK _ ?_
      clear hK K
      refine q_want rfl fun K hK => q_value (.bool true) (fun w _ => x_move _ _ _ _ _ _ _ _ rfl w) ?_
      simp only [Act.put, List.setIfInBounds_toArray, List.set_cons_succ, List.set_cons_zero]
      refine hK _ ?_
      clear hK K
      refine q_want rfl fun K hK => q_value (SV s) (fun w hw => x_loadSet _ _ _ _ _ _ _ _ s rfl w hw.s0) ?_
      simp only [Act.put, List.setIfInBounds_toArray, List.set_cons_succ, List.set_cons_zero]
      refine hK _ ?_
      clear hK K
      refine q_want rfl fun K hK => q_value (SV t) (fun w hw => x_loadSet _ _ _ _ _ _ _ _ t rfl w hw.t0) ?_
      simp only [Act.put, List.setIfInBounds_toArray, List.set_cons_succ, List.set_cons_zero]
      refine hK _ ?_
      clear hK K
      refine q_want rfl fun K hK => q_value (.bool (s == t)) (fun w _ => x_eqSet _ _ _ _ _ _ _ _ s t rfl rfl w) ?_
      simp only [Act.put, List.setIfInBounds_toArray, List.set_cons_succ, List.set_cons_zero]
      refine hK _ ?_
      clear hK K
      refine q_want rfl fun K hK => q_value (SV s) (fun w hw => x_loadSet _ _ _ _ _ _ _ _ s rfl w hw.s0) ?_
      simp only [Act.put, List.setIfInBounds_toArray, List.set_cons_succ, List.set_cons_zero]
      refine hK _ ?_
      clear hK K
      refine q_want rfl fun K hK => q_value (.slice (some ⟨yb, 0, none⟩) 256 256) (fun w _ => x_move _ _ _ _ _ _ _ _ rfl w) ?_
      simp only [Act.put, List.setIfInBounds_toArray, List.set_cons_succ, List.set_cons_zero]
      refine hK _ ?_
      clear hK K
      refine q_want rfl fun K hK => q_call hG 13 #[SV s, .slice (some ⟨yb, 0, none⟩) 256 256] (.bool (sameB s t.getLsbD)) (x_call2 _ _ _ _ _ _ _ _ _ _ _ _ _ rfl rfl rfl (enters_of Tryd.func13 (by kernel_rfl) rfl)) (fun w hw => same_any s t.getLsbD _ w hw.y0) ?_
      simp only [Act.put, List.setIfInBounds_toArray, List.set_cons_succ, List.set_cons_zero]
      refine hK _ ?_
      clear hK K
      refine q_want rfl fun K hK => q_value (.bool ((s == t) == (sameB s t.getLsbD))) (fun w _ => x_eqBool _ _ _ _ _ _ _ _ _ _ rfl rfl w) ?_
      rw [h155]
      simp only [Act.put, List.setIfInBounds_toArray, List.set_cons_succ, List.set_cons_zero]
      refine hK _ ?_
      clear hK K
      refine q_want rfl fun K hK => q_value (.bool true) (fun w _ => x_pick _ _ _ _ _ _ _ _ _ true (.bool true) (.bool false) rfl rfl rfl w) ?_
      simp only [Act.put, List.setIfInBounds_toArray, List.set_cons_succ, List.set_cons_zero]
      refine hK _ ?_
      clear hK K
      refine q_want rfl fun K hK => q_value (.bool true) (fun w _ => x_assign _ _ _ _ _ _ _ _ rfl w) ?_
      simp only [Act.put, List.setIfInBounds_toArray, List.set_cons_succ, List.set_cons_zero]
      refine hK _ ?_
      clear hK K
      refine wpQuiet_nil ?_
      rintro w6 hO6
      go_wp2
      go_ret
      exact ⟨rfl, hO6.below⟩
end Go.Proofs.YtddlcodililhnaaDoor
