/- Texts of this claim put together: LxU, LxV. -/
import Derived.Test.YtjlgepahgmkamaaGreatDoorJoinLxG
import Derived.Test.YtjlgepahgmkamaaGreatDoorJoinRdW
import Derived.Test.YtjlgepahgmkamaaGreatDoorJoinStrL
/- scan: the byte that is written at a text's beginning, between quotes. -/
namespace Go.Proofs.YtjlgepahgmkamaaGreatDoor
set_option maxRecDepth 100000
set_option linter.unusedSimpArgs false
set_option linter.unusedVariables false
open Go.RowKit Go.Shelf

def preB (l : List Nat) : Bool := l.take 2 == [92, 120]
theorem bN_take (t : ByteArray) (m : Nat) : bytesN (t.extract 0 m) = (bytesN t).take m := by
  unfold bytesN
  rw [ByteArray.data_extract, Array.toList_extract, ← List.map_take]
  congr 1
theorem bytesN_inj {s t : ByteArray} (h : bytesN s = bytesN t) : s = t := by
  apply ByteArray.ext
  apply Array.toList_inj.1
  exact (List.map_inj_right fun a b h => UInt8.toNat_inj.1 h).1 h
set_option maxHeartbeats 1000000 in
theorem sHasPre_any (t : ByteArray) (w : World) :
    Calls Tryz.prog 99 #[.string t, .string ⟨#[92, 120]⟩] w fun e w' => e = .returned (.bool (preB (bytesN t))) ∧ w' = w := by
  have e2 : (⟨#[92, 120]⟩ : ByteArray).size = 2 := rfl
  by_cases h2 : 2 ≤ t.size
  · have d1 : decide ((2 : Int) ≤ (t.size : Int)) = true := by simp; omega
    have d2 : (2 : Int) ≤ (t.size : Int) := by omega
    obtain ⟨B, hB⟩ : ∃ B, ((t.extract 0 2).toList == [92, 120]) = B := ⟨_, rfl⟩
    have e : preB (bytesN t) = B := by
      rw [← hB, Bool.eq_iff_iff, beq_iff_eq]
      unfold preB
      rw [beq_iff_eq, ← bN_take, ByteArray.toList_eq]
      constructor
      · intro h
        have h2 : t.extract 0 2 = ⟨#[92, 120]⟩ := bytesN_inj (h.trans (by decide +kernel))
        rw [h2]
      · intro h
        unfold bytesN
        rw [h]
        rfl
    rw [e]
    clear e
    go_enter Tryz.func99, Tryz.ntmps99
    cases B <;> (go_wp2; go_ret; exact ⟨rfl, rfl⟩)
  · have d1 : decide ((2 : Int) ≤ (t.size : Int)) = false := by simp; omega
    have e : preB (bytesN t) = false := by
      unfold preB
      rw [beq_eq_false_iff_ne]
      intro h
      have := congrArg List.length h
      rw [List.length_take, bN_len] at this
      simp at this
      omega
    rw [e]
    clear e
    go_enter Tryz.func99, Tryz.ntmps99
    go_wp2
    go_ret
    exact ⟨rfl, rfl⟩
theorem hasPre_any (t : ByteArray) (w : World) :
    Calls Tryz.prog 83 #[.string t, .string ⟨#[92, 120]⟩] w fun e w' => e = .returned (.bool (preB (bytesN t))) ∧ w' = w := by
  have HI := hide (sHasPre_any t w)
  go_enter Tryz.func83, Tryz.ntmps83
  go_wp2_with fail
  refine HI.out.mono ?_
  rintro e w1 ⟨rfl, rfl⟩
  go_wp2
  go_ret
  exact ⟨rfl, rfl⟩
set_option maxHeartbeats 8000000 in
theorem lxScan_any (t : ByteArray) (w : World) (h0 : 0 < t.size) (hb : t.size ≤ 65536) (hT : TabAt w) :
    Calls Tryz.prog 63 #[.string t] w fun e w' => e = .returned (.tuple #[.int .u8 (scanL (bytesN t)).1, .int .i64 (scanL (bytesN t)).2]) ∧ Below w.heap.size w w' := by
  obtain ⟨c, r, hl⟩ : ∃ c r, bytesN t = c :: r := by
    have hlen := bN_len t
    cases hb : bytesN t with
    | nil => rw [hb] at hlen; simp at hlen; omega
    | cons c r => exact ⟨c, r, rfl⟩
  have hc : c < 256 := bN_lt t c (by rw [hl]; simp)
  obtain ⟨h1, e1⟩ := bN_at t 0 c (by rw [hl]; rfl)
  obtain ⟨u, hu⟩ : ∃ u, u = (scanL (bytesN t)).1 := ⟨_, rfl⟩
  obtain ⟨m, hm⟩ : ∃ m, m = (scanL (bytesN t)).2 := ⟨_, rfl⟩
  rw [← hu, ← hm]
  have HU := hide hu
  have HM := hide hm
  clear hu hm
  by_cases h92 : c = 92
  · have k92 : ((c : Int) != 92) = false := by rw [h92]; rfl
    obtain ⟨N, hN⟩ : ∃ N, N = if r.head? = some 120 then 4 else 2 := ⟨_, rfl⟩
    obtain ⟨z, hz⟩ : ∃ z, z = min N t.size := ⟨_, rfl⟩
    have hzl : z ≤ t.size := by omega
    have HTK : Hid ((bytesN t).take N = bytesN (t.extract 0 z)) := by
      show _ = _
      rw [bN_take]
      exact List.take_eq_take_iff.2 (by rw [bN_len]; omega)
    have HLZ : Hid (((bytesN t).take N).length = z) := by
      show _ = _
      rw [List.length_take, bN_len, hz]
    have HSC : Hid (scanL (bytesN t) = if (rdEnd (bytesN (t.extract 0 z))).err = 0 then (leastN (readQ (bytesN (t.extract 0 z))).1, z) else (0, 0)) := by
      show _ = _
      rw [← HTK.out]
      rw [hl] at HLZ ⊢
      rw [scanL, if_pos h92, ← hN, HLZ.out]
    have hpre : preB (bytesN t) = decide (r.head? = some 120) := by
      rw [hl, h92]
      cases r with
      | nil => simp [preB]
      | cons x r =>
        show ([92, x] == [92, 120]) = decide (some x = some 120)
        by_cases hx : x = 120
        · subst hx; rfl
        · simp [hx]
    have HP : Hid (∀ W, Calls Tryz.prog 83 #[.string t, .string ⟨#[92, 120]⟩] W fun e w' => e = .returned (.bool (decide (r.head? = some 120))) ∧ w' = W) := fun W => by rw [← hpre]; exact hasPre_any t W
    have HRD := hide (read_any (t.extract 0 z) w (by have := extract_size t 0 z; omega) hT)
    have HT := hide hT
    clear hpre hT hl
    obtain ⟨B, hB⟩ : ∃ B, decide (r.head? = some 120) = B := ⟨_, rfl⟩
    rw [hB] at HP
    have hNB : N = if B = true then 4 else 2 := by rw [hN, ← hB]; simp
    have hmin : min (N : Int) (t.size : Int) = (z : Int) := by omega
    have hz0 : (0 : Int) ≤ (z : Int) := by omega
    have hzt : (z : Int) ≤ (t.size : Int) := by omega
    clear hN hB hz h92
    go_enter Tryz.func63, Tryz.ntmps63
    cases B
    all_goals
      simp only [Bool.false_eq_true, if_true, if_false] at hNB
      subst hNB
      first | rw [show ((4 : Nat) : Int) = 4 from rfl] at hmin | rw [show ((2 : Nat) : Int) = 2 from rfl] at hmin
      go_wp2_with fail
      refine (HP.out _).mono ?_
      rintro e w1 ⟨rfl, rfl⟩
      go_wp2_with fail
      refine HRD.out.mono ?_
      intro e w2 hp
      by_cases he : (rdEnd (bytesN (t.extract 0 z))).err = 0
      · obtain ⟨q, rfl, hq, hb2⟩ := hp.1 he
        have HB2 := hide hb2
        have HT2 : Hid (TabAt w2) := HT.out.agree (Agree.of_all (K := fun _ => True) hb2) trivial
        have HS : Hid (scanL (bytesN t) = (leastN (readQ (bytesN (t.extract 0 z))).1, z)) := by show _ = _; rw [HSC.out, if_pos he]
        obtain ⟨st, hst⟩ : ∃ st, st = (readQ (bytesN (t.extract 0 z))).1.set := ⟨_, rfl⟩
        have c1 := hq.cellS 0 (by omega); have c2 := hq.cellS 1 (by omega); have c3 := hq.cellS 2 (by omega); have c4 := hq.cellS 3 (by omega)
        rw [← hst] at c1 c2 c3 c4
        have HLT := hide (least_any st w2 HT2.out)
        have HLN : Hid (leastN (readQ (bytesN (t.extract 0 z))).1 = (bytesOf st).headD 0) := by show _ = _; unfold leastN; rw [hst]
        unfold SV at HLT
        clear hp hb2 hq hst he
        unfold PT
        go_wp2_with fail
        refine HLT.out.mono ?_
        rintro e w3 ⟨rfl, hb3⟩
        have HB3 := hide hb3
        clear hb3
        unfold leastV
        go_wp2
        refine bodyPost_ret (v := .tuple #[.int .u8 (((bytesOf st).headD 0 : Nat) : Int), .int .i64 (z : Int)]) (by simp [results, Tryz.results63, go_sem]) rfl ⟨?_, HB2.out.trans (HB3.out.mono HB2.out.size)⟩
        rw [HU.out, HM.out, HS.out, HLN.out]
      · obtain ⟨rfl, hb2⟩ := hp.2 he
        have HB2 := hide hb2
        have HS : Hid (scanL (bytesN t) = (0, 0)) := by show _ = _; rw [HSC.out, if_neg he]
        obtain ⟨er, her⟩ : ∃ er, er = (rdEnd (bytesN (t.extract 0 z))).err := ⟨_, rfl⟩
        obtain ⟨wh, hwh⟩ : ∃ wh, wh = (rdEnd (bytesN (t.extract 0 z))).wh := ⟨_, rfl⟩
        rw [← her] at he
        rw [← her, ← hwh]
        have hne : ((er : Int) != 0) = true := by simp; omega
        clear hp hb2 he her hwh
        go_wp2
        refine bodyPost_ret (v := .tuple #[.int .u8 (0 : Nat), .int .i64 (0 : Nat)]) (by simp [results, Tryz.results63, go_sem]) rfl ⟨?_, HB2.out⟩
        rw [HU.out, HM.out, HS.out]
  · have k92 : ((c : Int) != 92) = true := by simp; omega
    have HSC : Hid (scanL (bytesN t) = if plainB c = true then (c, 1) else (0, 0)) := by
      show _ = _
      rw [hl, scanL, if_neg h92]
    clear hl h92 hT
    go_enter Tryz.func63, Tryz.ntmps63
    by_cases hlo : c < 32
    · have t1 : decide ((c : Int) < 32) = true := by simp; omega
      have HS : Hid (scanL (bytesN t) = (0, 0)) := by show _ = _; rw [HSC.out, if_neg (by unfold plainB; simp; omega)]
      go_wp2
      refine bodyPost_ret (v := .tuple #[.int .u8 (0 : Nat), .int .i64 (0 : Nat)]) (by simp [results, Tryz.results63, go_sem]) rfl ⟨?_, Below.refl _ _⟩
      rw [HU.out, HM.out, HS.out]
    · have t1 : decide ((c : Int) < 32) = false := by simp; omega
      by_cases hhi : c ≤ 126
      · have t2 : decide ((126 : Int) < c) = false := by simp; omega
        have HS : Hid (scanL (bytesN t) = (c, 1)) := by show _ = _; rw [HSC.out, if_pos (by unfold plainB; simp; omega)]
        go_wp2
        refine bodyPost_ret (v := .tuple #[.int .u8 (c : Int), .int .i64 (1 : Nat)]) (by simp [results, Tryz.results63, go_sem]) rfl ⟨?_, Below.refl _ _⟩
        rw [HU.out, HM.out, HS.out]
      · have t2 : decide ((126 : Int) < c) = true := by simp; omega
        have HS : Hid (scanL (bytesN t) = (0, 0)) := by show _ = _; rw [HSC.out, if_neg (by unfold plainB; simp; omega)]
        go_wp2
        refine bodyPost_ret (v := .tuple #[.int .u8 (0 : Nat), .int .i64 (0 : Nat)]) (by simp [results, Tryz.results63, go_sem]) rfl ⟨?_, Below.refl _ _⟩
        rw [HU.out, HM.out, HS.out]
end Go.Proofs.YtjlgepahgmkamaaGreatDoor
/- The reader of programs: a text between quotes. -/
namespace Go.Proofs.YtjlgepahgmkamaaGreatDoor
set_option maxRecDepth 100000
set_option linter.unusedSimpArgs false
set_option linter.unusedVariables false
open Go.RowKit Go.Shelf

/-- A row of bytes as a text; nil is the empty one. -/
theorem str_ofU {W : World} {base n : Nat} {V : Value} {l : List Nat} (ho : OwnU W base V n (byteV l)) : (convert 71 9 V).run Tryz.prog W = .ok (.string (strB l)) W := by
  rcases ho.2 with ⟨rfl, hn⟩ | ⟨g, cap, cur, t, rfl, -⟩
  · have h0 := ho.1
    rw [hn] at h0
    have h1 : l = [] := by
      have : l.length = 0 := by simpa [byteV] using h0
      exact List.length_eq_zero_iff.1 this
    subst h1
    exact run_convert_bytes_nil (P := Tryz.prog) W 71 5 Tryz.underlying71 Tryz.underlying5 0 0 9 Tryz.underlying9
  · have hl : l.length = n := by have := ho.1; simpa [byteV] using this
    refine run_convert_bytes_arg _ 71 5 Tryz.underlying71 Tryz.underlying5 g 0 _ cap (l.map fun x : Nat => (x : Int)) (by simpa using hl) (fun i hi => ?_) 9 Tryz.underlying9
    rw [Nat.zero_add]
    refine ho.cells i _ ?_
    have hi2 : i < l.length := by omega
    simp [byteV, List.getD_eq_getElem?_getD, hi2]
theorem Aside.grown {p : Nat} {A X W : World} {v : Option Nat} (a : Aside p A X) (h : X.grownBy W v) (hv : ∀ g, v = some g → A.heap.size ≤ g) : Aside p A W :=
  ⟨h.os.trans a.os, h.tape.trans a.tape, h.output.trans a.output, Nat.le_trans a.size h.size, fun k hk hp => (h.block k (Nat.lt_of_lt_of_le hk a.size) fun e => by have := hv k e.symm; omega).trans (a.block k hk hp)⟩
/-- What text answers. -/
def TxPost (s : ByteArray) (p a x0 : Nat) (T : List Nat) (K : Nat) (F : Bool) (w : World) (r : Ending) (w' : World) : Prop :=
  (F = true ∨ a + 1 + K = s.size → ∃ (tx : ByteArray) (at' : Nat), r = .returned (.string tx) ∧ LxAt w' p s at' 2 (a + 1 + K)) ∧
  (¬ (F = true ∨ a + 1 + K = s.size) → r = .returned (.string (strB T)) ∧ LxAt w' p s (a + 1 + K + 1) 0 x0) ∧
  Aside p w w'
set_option maxHeartbeats 16000000 in
theorem lxText_any (p : Nat) (s : ByteArray) (a x0 : Nat) (T : List Nat) (K : Nat) (F : Bool) (w : World) (h : LxAt w p s a 0 x0) (hT : TabAt w) (ha : a < s.size) (hn : txN (s.size + 1) ((bytesN s).drop (a + 1)) = (T, K, F)) :
    Calls Tryz.prog 40 #[PT p] w fun r w' => TxPost s p a x0 T K F w r w' := by
  have hbig := h.big
  have HT := hide (And.intro h.blk hT)
  have HP : Hid (p < w.heap.size) := h.blk.lt
  have hKs : a + 1 + K ≤ s.size := by
    have h1 := txN_le (s.size + 1) ((bytesN s).drop (a + 1))
    rw [hn, List.length_drop, bN_len] at h1
    simp only at h1
    omega
  have c1 := h.c1
  have f1 := h.blk.frozen 1
  have HM := hide (h.move (a + 1) (by omega))
  have HA0 := hide (Aside.put w p 1 (.int .i64 ((a + 1 : Nat) : Int)))
  have HE1 : Hid (((a + 1 : Nat) : Int) = (a : Int) + 1) := by show _ = _; omega
  have HN := hide hn
  obtain ⟨B, hB⟩ : ∃ B, B = w.heap.size := ⟨_, rfl⟩
  have HB := hide hB
  clear h hT hn hB
  rw [HE1.out] at HM HA0
  unfold PT
  go_enter Tryz.func40, Tryz.ntmps40
  go_wp2
  obtain ⟨w1, hw1⟩ : ∃ w1, w1 = w.setCell ⟨p, 1, none⟩ (.int .i64 ((a : Int) + 1)) := ⟨_, rfl⟩
  try rw [← hw1]
  rw [← hw1] at HM HA0
  clear hw1 c1 f1
  go_loopw [3, 34] (fun out _ wr => ∃ (f j : Nat) (l : List Nat), Hid (LxAt wr p s (a + 1 + j) 0 x0) ∧ Hid (a + 1 + j ≤ s.size) ∧ Hid (s.size < f + (a + 1 + j)) ∧ Hid (OwnU wr B out l.length (byteV l)) ∧ Hid (l ++ (txN f ((bytesN s).drop (a + 1 + j))).1 = T) ∧ Hid (j + (txN f ((bytesN s).drop (a + 1 + j))).2.1 = K) ∧ Hid ((txN f ((bytesN s).drop (a + 1 + j))).2.2 = F) ∧ Hid (Aside p w wr) ∧ Hid (l.length ≤ j)) (fun _ _ wr => s.size - atOf wr p)
  case atStart =>
    refine ⟨s.size + 1, 0, [], HM.out, (by show _ ≤ _; omega), (by show _ < _; omega), ⟨rfl, .inl ⟨rfl, rfl⟩⟩, ?_, ?_, ?_, HA0.out, Nat.le_refl _⟩
    · show _ = _; rw [Nat.add_zero, HN.out]; rfl
    · show _ = _; rw [Nat.add_zero, HN.out]; exact Nat.zero_add _
    · show _ = _; rw [Nat.add_zero, HN.out]
  case round =>
    obtain ⟨f, j, l, HLJ, HJS, HFU, HO, HTX0, HK0, HF0, HA, HLE⟩ := hrel
    have hat := HLJ.out.atOf
    have HAT := hide hat
    have hll := HLE.out
    have hjs := HJS.out
    clear hat
    obtain ⟨b, hb⟩ : ∃ b, b = a + 1 + j := ⟨_, rfl⟩
    rw [← hb] at HLJ HFU HTX0 HK0 HF0 HAT hjs
    have HBB := hide hb
    have hlb : l.length ≤ 65536 := by omega
    clear hb HJS
    obtain ⟨oa, oc, rfl⟩ := HO.out.slice
    by_cases hin : b < s.size
    · have hlt : decide ((b : Int) < (s.size : Int)) = true := by simp; omega
      obtain ⟨c, hcb⟩ : ∃ c, (bytesN s)[b]? = some c := ⟨_, List.getElem?_eq_getElem (by rw [bN_len]; exact hin)⟩
      have HDR : Hid ((bytesN s).drop b = c :: (bytesN s).drop (b + 1)) := by
        obtain ⟨hl, rfl⟩ := List.getElem?_eq_some_iff.1 hcb
        exact List.drop_eq_getElem_cons hl
      obtain ⟨f, rfl⟩ : ∃ f', f = f' + 1 := ⟨f - 1, by have := HFU.out; omega⟩
      obtain ⟨tt, htt⟩ : ∃ tt, ((c : Int) != ((34 : Nat) : Int)) = tt := ⟨_, rfl⟩
      obtain ⟨C, hC⟩ : ∃ C : World → Prop, C = fun V => Below wr.heap.size wr V := ⟨_, rfl⟩
      have HCD : Hid (C { wr with drawn := wr.drawn + 1 }) := by rw [hC]; exact ⟨rfl, rfl, rfl, Nat.le_refl _, fun _ _ => rfl⟩
      have HCB : Hid (∀ V, C V → Below wr.heap.size wr V) := by rw [hC]; exact fun V h => h
      clear hC
      have y0 : ∀ V, C V → V.cell? ⟨p, 0, none⟩ = some (.string s) := fun V hV => (HLJ.out.keep (HCB.out V hV)).c0
      have y1 : ∀ V, C V → V.cell? ⟨p, 1, none⟩ = some (.int .i64 b) := fun V hV => (HLJ.out.keep (HCB.out V hV)).c1
      go_wp2
      try rw [show Value.pointer (some ⟨p, 0, none⟩) = PT p from rfl]
      refine w_lit (C := C) (by kernel_rfl) (by kernel_rfl) HCD.out ?_
      refine w_value (PT p) (by kernel_rfl) (fun w hw => x_move _ _ _ _ _ _ _ _ rfl w) ?_
      simp only [Act.put, List.setIfInBounds_toArray, List.set_cons_succ, List.set_cons_zero]
      refine w_value (PT p) (by kernel_rfl) (fun w hw => x_nilCheck _ _ _ _ _ _ _ _ rfl w) ?_
      simp only [Act.put, List.setIfInBounds_toArray, List.set_cons_succ, List.set_cons_zero]
      refine w_value (.pointer (some ⟨p, 1, none⟩)) (by kernel_rfl) (fun w hw => x_lxF1 _ _ _ _ _ _ _ _ rfl w) ?_
      simp only [Act.put, List.setIfInBounds_toArray, List.set_cons_succ, List.set_cons_zero]
      refine w_value (.int .i64 b) (by kernel_rfl) (fun w hw => x_ldN _ _ _ _ _ _ _ p 1 _ rfl w (y1 w hw)) ?_
      simp only [Act.put, List.setIfInBounds_toArray, List.set_cons_succ, List.set_cons_zero]
      refine w_value (PT p) (by kernel_rfl) (fun w hw => x_move _ _ _ _ _ _ _ _ rfl w) ?_
      simp only [Act.put, List.setIfInBounds_toArray, List.set_cons_succ, List.set_cons_zero]
      refine w_value (PT p) (by kernel_rfl) (fun w hw => x_nilCheck _ _ _ _ _ _ _ _ rfl w) ?_
      simp only [Act.put, List.setIfInBounds_toArray, List.set_cons_succ, List.set_cons_zero]
      refine w_value (PT p) (by kernel_rfl) (fun w hw => x_lxF0 _ _ _ _ _ _ _ _ rfl w) ?_
      simp only [Act.put, List.setIfInBounds_toArray, List.set_cons_succ, List.set_cons_zero]
      refine w_value (.string s) (by kernel_rfl) (fun w hw => x_ldS _ _ _ _ _ _ _ p _ rfl w (y0 w hw)) ?_
      simp only [Act.put, List.setIfInBounds_toArray, List.set_cons_succ, List.set_cons_zero]
      refine w_value (.int .i64 s.size) (by kernel_rfl) (fun w hw => x_lenS _ _ _ _ _ _ _ s rfl w) ?_
      simp only [Act.put, List.setIfInBounds_toArray, List.set_cons_succ, List.set_cons_zero]
      refine w_value (.bool true) (by kernel_rfl) (fun w hw => x_lssZ _ _ _ _ _ _ _ _ b s.size true hlt rfl rfl w) ?_
      simp only [Act.put, List.setIfInBounds_toArray, List.set_cons_succ, List.set_cons_zero]
      refine w_value (.bool true) (by kernel_rfl) (fun w hw => x_move _ _ _ _ _ _ _ _ rfl w) ?_
      simp only [Act.put, List.setIfInBounds_toArray, List.set_cons_succ, List.set_cons_zero]
      refine w_value (PT p) (by kernel_rfl) (fun w hw => x_move _ _ _ _ _ _ _ _ rfl w) ?_
      simp only [Act.put, List.setIfInBounds_toArray, List.set_cons_succ, List.set_cons_zero]
      refine w_value (PT p) (by kernel_rfl) (fun w hw => x_nilCheck _ _ _ _ _ _ _ _ rfl w) ?_
      simp only [Act.put, List.setIfInBounds_toArray, List.set_cons_succ, List.set_cons_zero]
      refine w_value (PT p) (by kernel_rfl) (fun w hw => x_lxF0 _ _ _ _ _ _ _ _ rfl w) ?_
      simp only [Act.put, List.setIfInBounds_toArray, List.set_cons_succ, List.set_cons_zero]
      refine w_value (.string s) (by kernel_rfl) (fun w hw => x_ldS _ _ _ _ _ _ _ p _ rfl w (y0 w hw)) ?_
      simp only [Act.put, List.setIfInBounds_toArray, List.set_cons_succ, List.set_cons_zero]
      refine w_value (PT p) (by kernel_rfl) (fun w hw => x_move _ _ _ _ _ _ _ _ rfl w) ?_
      simp only [Act.put, List.setIfInBounds_toArray, List.set_cons_succ, List.set_cons_zero]
      refine w_value (PT p) (by kernel_rfl) (fun w hw => x_nilCheck _ _ _ _ _ _ _ _ rfl w) ?_
      simp only [Act.put, List.setIfInBounds_toArray, List.set_cons_succ, List.set_cons_zero]
      refine w_value (.pointer (some ⟨p, 1, none⟩)) (by kernel_rfl) (fun w hw => x_lxF1 _ _ _ _ _ _ _ _ rfl w) ?_
      simp only [Act.put, List.setIfInBounds_toArray, List.set_cons_succ, List.set_cons_zero]
      refine w_value (.int .i64 b) (by kernel_rfl) (fun w hw => x_ldN _ _ _ _ _ _ _ p 1 _ rfl w (y1 w hw)) ?_
      simp only [Act.put, List.setIfInBounds_toArray, List.set_cons_succ, List.set_cons_zero]
      refine w_value (.int .u8 c) (by kernel_rfl) (fun w hw => x_sIdx _ _ _ _ _ _ _ _ s b c hcb rfl rfl w) ?_
      simp only [Act.put, List.setIfInBounds_toArray, List.set_cons_succ, List.set_cons_zero]
      refine w_value (.bool tt) (by kernel_rfl) (fun w hw => x_neB _ _ _ _ _ _ _ _ c 34 tt htt rfl rfl w) ?_
      simp only [Act.put, List.setIfInBounds_toArray, List.set_cons_succ, List.set_cons_zero]
      refine w_value (.bool tt) (by kernel_rfl) (fun w hw => x_pick _ _ _ _ _ _ _ _ _ true (.bool tt) (.bool false) rfl rfl rfl w) ?_
      simp only [Act.put, List.setIfInBounds_toArray, List.set_cons_succ, List.set_cons_zero]
      refine w_nil ?_
      intro W hCW
      have HLW := hide (HLJ.out.keep (HCB.out W hCW))
      have HAW := hide (HA.out.trans (Aside.of_below (HCB.out W hCW)))
      have HOW := hide (HO.out.keep fun g hg => (HCB.out W hCW).block g (HO.out.own_lt hg).2)
      clear hCW y0 y1
      cases tt with
      | true =>
        have h34 : c ≠ 34 := by rintro rfl; simp at htt
        obtain ⟨u, hu⟩ : ∃ u, u = (scanL (bytesN (s.extract b s.size))).1 := ⟨_, rfl⟩
        obtain ⟨m, hm⟩ : ∃ m, m = (scanL (bytesN (s.extract b s.size))).2 := ⟨_, rfl⟩
        have HTW : Hid (TabAt W) := HT.out.2.asideL HT.out.1 HAW.out
        have hes : (s.extract b s.size).size = s.size - b := by rw [ByteArray.size_extract]; omega
        obtain ⟨C2, hC2⟩ : ∃ C2 : World → Prop, C2 = fun V => Below W.heap.size W V := ⟨_, rfl⟩
        have hG : Grows C2 := by rw [hC2]; exact fun W W' h1 h2 => h1.trans (h2.mono h1.size)
        have HC2D : Hid (C2 { W with drawn := W.drawn + 1 }) := by rw [hC2]; exact ⟨rfl, rfl, rfl, Nat.le_refl _, fun _ _ => rfl⟩
        have HC2B : Hid (∀ V, C2 V → Below W.heap.size W V) := by rw [hC2]; exact fun V h => h
        clear hC2
        have z0 : ∀ V, C2 V → V.cell? ⟨p, 0, none⟩ = some (.string s) := fun V hV => (HLW.out.keep (HC2B.out V hV)).c0
        have z1 : ∀ V, C2 V → V.cell? ⟨p, 1, none⟩ = some (.int .i64 b) := fun V hV => (HLW.out.keep (HC2B.out V hV)).c1
        have HSCN : Hid (∀ V, C2 V → Calls Tryz.prog 63 #[.string (s.extract b s.size)] V fun e w' => e = .returned (.tuple #[.int .u8 u, .int .i64 m]) ∧ Below V.heap.size V w') := fun V hV => by
          rw [hu, hm]; exact lxScan_any _ V (by omega) (by omega) (HTW.out.agree (Agree.of_all (K := fun _ => True) (HC2B.out V hV)) trivial)
        have HSL : Hid (scanL (c :: (bytesN s).drop (b + 1)) = (u, m)) := by
          show _ = _
          rw [← HDR.out, ← bN_drop, hu, hm]
        have hmle : m ≤ s.size - b := by
          have := scanL_le (bytesN (s.extract b s.size))
          rw [← hm, bN_len, hes] at this
          exact this
        have HTXN : Hid (txN (f + 1) ((bytesN s).drop b) = if m = 0 then ([], 0, true) else (u :: (txN f ((bytesN s).drop (b + m))).1, m + (txN f ((bytesN s).drop (b + m))).2.1, (txN f ((bytesN s).drop (b + m))).2.2)) := by
          show _ = _
          rw [HDR.out, txN, if_neg h34, HSL.out]
          simp only
          rw [← HDR.out, List.drop_drop]
        clear hu hm htt hcb HSL hes
        go_wp2
        try rw [show Value.pointer (some ⟨p, 0, none⟩) = PT p from rfl]
        · skip
          refine w_lit (C := C2) (by kernel_rfl) (by kernel_rfl) HC2D.out ?_
          refine w_value (PT p) (by kernel_rfl) (fun w hw => x_move _ _ _ _ _ _ _ _ rfl w) ?_
          simp only [Act.put, List.setIfInBounds_toArray, List.set_cons_succ, List.set_cons_zero]
          refine w_value (PT p) (by kernel_rfl) (fun w hw => x_nilCheck _ _ _ _ _ _ _ _ rfl w) ?_
          simp only [Act.put, List.setIfInBounds_toArray, List.set_cons_succ, List.set_cons_zero]
          refine w_value (PT p) (by kernel_rfl) (fun w hw => x_lxF0 _ _ _ _ _ _ _ _ rfl w) ?_
          simp only [Act.put, List.setIfInBounds_toArray, List.set_cons_succ, List.set_cons_zero]
          refine w_value (.string s) (by kernel_rfl) (fun w hw => x_ldS _ _ _ _ _ _ _ p _ rfl w (z0 w hw)) ?_
          simp only [Act.put, List.setIfInBounds_toArray, List.set_cons_succ, List.set_cons_zero]
          refine w_value (PT p) (by kernel_rfl) (fun w hw => x_move _ _ _ _ _ _ _ _ rfl w) ?_
          simp only [Act.put, List.setIfInBounds_toArray, List.set_cons_succ, List.set_cons_zero]
          refine w_value (PT p) (by kernel_rfl) (fun w hw => x_nilCheck _ _ _ _ _ _ _ _ rfl w) ?_
          simp only [Act.put, List.setIfInBounds_toArray, List.set_cons_succ, List.set_cons_zero]
          refine w_value (.pointer (some ⟨p, 1, none⟩)) (by kernel_rfl) (fun w hw => x_lxF1 _ _ _ _ _ _ _ _ rfl w) ?_
          simp only [Act.put, List.setIfInBounds_toArray, List.set_cons_succ, List.set_cons_zero]
          refine w_value (.int .i64 b) (by kernel_rfl) (fun w hw => x_ldN _ _ _ _ _ _ _ p 1 _ rfl w (z1 w hw)) ?_
          simp only [Act.put, List.setIfInBounds_toArray, List.set_cons_succ, List.set_cons_zero]
          refine w_value (.string (s.extract b s.size)) (by kernel_rfl) (fun w hw => x_strFrom _ _ _ _ _ _ _ _ s b rfl rfl (by omega) w) ?_
          simp only [Act.put, List.setIfInBounds_toArray, List.set_cons_succ, List.set_cons_zero]
          refine w_call hG 63 #[.string (s.extract b s.size)] (.tuple #[.int .u8 u, .int .i64 m]) (by kernel_rfl) (fun w => x_call1 _ _ _ _ _ _ _ _ _ _ rfl rfl (enters_of Tryz.func63 (by kernel_rfl) rfl) w) (fun w hw => HSCN.out w hw) ?_
          simp only [Act.put, List.setIfInBounds_toArray, List.set_cons_succ, List.set_cons_zero]
          refine w_value (.tuple #[.int .u8 u, .int .i64 m]) (by kernel_rfl) (fun w hw => x_move _ _ _ _ _ _ _ _ rfl w) ?_
          simp only [Act.put, List.setIfInBounds_toArray, List.set_cons_succ, List.set_cons_zero]
          refine w_value (.int .u8 u) (by kernel_rfl) (fun w hw => x_ext0 _ _ _ _ _ _ _ (.int .u8 u) (.int .i64 m) rfl w) ?_
          simp only [Act.put, List.setIfInBounds_toArray, List.set_cons_succ, List.set_cons_zero]
          refine w_value (.int .i64 m) (by kernel_rfl) (fun w hw => x_ext1 _ _ _ _ _ _ _ (.int .u8 u) (.int .i64 m) rfl w) ?_
          simp only [Act.put, List.setIfInBounds_toArray, List.set_cons_succ, List.set_cons_zero]
          refine w_value (.int .u8 u) (by kernel_rfl) (fun w hw => x_assign _ _ _ _ _ _ _ _ rfl w) ?_
          simp only [Act.put, List.setIfInBounds_toArray, List.set_cons_succ, List.set_cons_zero]
          refine w_value (.int .i64 m) (by kernel_rfl) (fun w hw => x_assign _ _ _ _ _ _ _ _ rfl w) ?_
          simp only [Act.put, List.setIfInBounds_toArray, List.set_cons_succ, List.set_cons_zero]
          refine w_nil ?_
          intro X hCW
          have HLX := hide (HLW.out.keep (HC2B.out X hCW))
          have HAX := hide (HAW.out.trans (Aside.of_below (HC2B.out X hCW)))
          have HOX := hide (HOW.out.keep fun g hg => (HC2B.out X hCW).block g (HOW.out.own_lt hg).2)
          clear hCW z0 z1
          clear hG
          by_cases hm0 : m = 0
          · subst hm0
            have HTN : Hid (txN (f + 1) ((bytesN s).drop b) = ([], 0, true)) := by show _ = _; rw [HTXN.out, if_pos rfl]
            have HFT : Hid (F = true) := by show _ = _; rw [← HF0.out, HTN.out]
            have HBK : Hid (b = a + 1 + K) := by
              show _ = _
              have h := HK0.out
              rw [HTN.out] at h
              have := HBB.out
              simp only at h
              omega
            have d1 := HLX.out.c1
            have HFL := hide (lxFail_any p 2 b s b 0 x0 X HLX.out)
            rw [show ((2 : Nat) : Int) = 2 from rfl] at HFL
            unfold PT at HFL
            unfold PT
            go_wp2_with fail
            refine HFL.out.mono ?_
            rintro r w5 ⟨rfl, h5, hA5⟩
            have HL5 := hide h5
            have HA5 := hide (HAX.out.trans hA5)
            clear h5 hA5
            go_wp2
            go_ret
            refine ⟨fun _ => ⟨_, _, rfl, by rw [← HBK.out]; exact HL5.out⟩, fun h => absurd (.inl HFT.out) h, HA5.out⟩
          · have hmi : ((m : Int) == 0) = false := by simp; omega
            have HTN : Hid (txN (f + 1) ((bytesN s).drop b) = (u :: (txN f ((bytesN s).drop (b + m))).1, m + (txN f ((bytesN s).drop (b + m))).2.1, (txN f ((bytesN s).drop (b + m))).2.2)) := by show _ = _; rw [HTXN.out, if_neg hm0]
            have hXB : B ≤ X.heap.size := by rw [HB.out]; exact HAX.out.size
            have hb2 := (Below.refl X.heap.size X).alloc (Nat.le_refl _) (.cells #[.int .u8 u] 5)
            have hST : AW X B (.slice oa l.length oc) l.length (byteV l) [] (.slice oa l.length oc) X := AW.start HOX.out hXB
            obtain ⟨v2, W2, hr2, hA2⟩ := (hST.step hb2 (Nat.le_refl _)).app 71 X.heap.size #[] [u] (Blk.newAt rfl _ _) (by simp) (by simp; omega)
            simp only [List.length_cons, List.length_nil, Nat.zero_add, Nat.reduceAdd] at hr2
            have HAP := hide hA2
            obtain ⟨a1, cp1, rfl⟩ := hA2.slice
            have HL2 : Hid (LxAt W2 p s b 0 x0) := by
              refine ⟨?_, HLX.out.le, HLX.out.big⟩
              refine (HAP.out.gb.grown.block p HLX.out.blk.lt fun e => ?_).trans HLX.out.blk
              have h1 := (HOX.out.own_lt (g := p) e.symm).1
              have h2 := HP.out
              have h3 := HB.out
              omega
            have HA2 : Hid (Aside p w W2) := HAX.out.grown HAP.out.gb.grown (fun g e => by have h1 := (HOX.out.own_lt (g := g) e).1; rw [HB.out] at h1; exact h1)
            clear hA2 hb2 hST
            have d1 := HL2.out.c1
            have g1 := HL2.out.blk.frozen 1
            have HM2 := hide (HL2.out.move (b + m) (by omega))
            have HA3 := hide (HA2.out.trans (Aside.put W2 p 1 (.int .i64 ((b + m : Nat) : Int))))
            have HO3 : Hid (OwnU (W2.setCell ⟨p, 1, none⟩ (.int .i64 ((b + m : Nat) : Int))) B (.slice a1 (l.length + [u].length) cp1) (l ++ [u]).length (byteV (l ++ [u]))) := by
              have ho := HAP.out.own
              rw [List.nil_append] at ho
              rw [List.length_append, byteV_append]
              exact ho.keep fun g hg => Below.heap_setCell _ _ _ _ (by have h1 := (ho.own_lt hg).1; have h2 := HP.out; have h3 := HB.out; show g ≠ p; omega)
            have HE2 : Hid (((b + m : Nat) : Int) = (b : Int) + (m : Int)) := by show _ = _; omega
            rw [HE2.out] at HM2 HA3 HO3
            simp only [List.length_cons, List.length_nil, Nat.zero_add, Nat.reduceAdd, List.nil_append] at HO3 hr2 ⊢
            unfold PT
            go_wp2_with (refine wpList_append_run rfl _ _ _ rfl _ _ _ rfl rfl hr2 ?_)
            go_wp2
            have hb2 := HBB.out
            have hm2 := HM2.out
            refine ⟨⟨f, j + m, l ++ [u], ?_, ?_, ?_, HO3.out, ?_, ?_, ?_, HA3.out, ?_⟩, ?_⟩
            · show LxAt _ _ _ _ _ _; rw [← Nat.add_assoc, ← hb2]; exact hm2
            · show _ ≤ _; omega
            · show _ < _; have := HFU.out; omega
            · show _ = _
              rw [← Nat.add_assoc, ← hb2, List.append_assoc, List.singleton_append]
              have h := HTX0.out; rw [HTN.out] at h; exact h
            · show _ = _
              rw [← Nat.add_assoc, ← hb2]
              have h := HK0.out; rw [HTN.out] at h; simp only at h; omega
            · show _ = _
              rw [← Nat.add_assoc, ← hb2]
              have h := HF0.out; rw [HTN.out] at h; exact h
            · show _ ≤ _; rw [List.length_append]; simp; omega
            · rw [hm2.atOf, HAT.out]; omega
      | false =>
        have h34 : c = 34 := by simp at htt; omega
        have HTN : Hid (txN (f + 1) ((bytesN s).drop b) = ([], 0, false)) := by show _ = _; rw [HDR.out, txN, if_pos h34]
        have HFL : Hid (F = false) := by show _ = _; rw [← HF0.out, HTN.out]
        have HTX : Hid (l = T) := by show _ = _; have h := HTX0.out; rw [HTN.out] at h; simpa using h
        have HBK : Hid (b = a + 1 + K) := by
          show _ = _
          have h := HK0.out
          rw [HTN.out] at h
          have := HBB.out
          simp only at h
          omega
        clear htt hcb HDR
        have HCL := hide (lxClosed_any p s b 0 x0 W HLW.out (by omega))
        unfold PT at HCL
        unfold PT
        go_wp2_with fail
        refine HCL.out.mono ?_
        rintro r w3 ⟨rfl, h3, hA3⟩
        have HL3 := hide h3
        have HA3 := hide (HAW.out.trans hA3)
        have HO3 := hide (HOW.out.keep fun g hg => hA3.block g (HOW.out.own_lt hg).2 (by have := (HOW.out.own_lt hg).1; have := HP.out; have := HB.out; omega))
        clear h3 hA3 HCL
        have hst := str_ofU HO3.out
        go_wp2_with fail
        go_ret
        refine ⟨fun h => ?_, fun h => ?_, HA3.out⟩
        · have hb := HBK.out
          rcases h with h | h
          · rw [HFL.out] at h; cases h
          · have h3 := HL3.out
            rw [if_pos (by omega)] at h3
            exact ⟨_, _, rfl, by rw [← hb]; exact h3⟩
        · have hb := HBK.out
          have h3 := HL3.out
          rw [if_neg (by omega)] at h3
          exact ⟨congrArg (fun z => Ending.returned (Value.string (strB z))) HTX.out, by rw [← hb]; exact h3⟩
    · have hlt : decide ((b : Int) < (s.size : Int)) = false := by simp; omega
      have HTN : Hid (txN f ((bytesN s).drop b) = ([], 0, false)) := by
        show _ = _
        rw [List.drop_eq_nil_of_le (by rw [bN_len]; omega)]
        cases f <;> rfl
      have HFL : Hid (F = false) := by show _ = _; rw [← HF0.out, HTN.out]
      have HTX : Hid (l = T) := by show _ = _; have h := HTX0.out; rw [HTN.out] at h; simpa using h
      have HBK : Hid (b = a + 1 + K) := by
        show _ = _
        have h := HK0.out
        rw [HTN.out] at h
        have := HBB.out
        simp only at h
        omega
      obtain ⟨C, hC⟩ : ∃ C : World → Prop, C = fun V => Below wr.heap.size wr V := ⟨_, rfl⟩
      have HCD : Hid (C { wr with drawn := wr.drawn + 1 }) := by rw [hC]; exact ⟨rfl, rfl, rfl, Nat.le_refl _, fun _ _ => rfl⟩
      have HCB : Hid (∀ V, C V → Below wr.heap.size wr V) := by rw [hC]; exact fun V h => h
      clear hC
      have y0 : ∀ V, C V → V.cell? ⟨p, 0, none⟩ = some (.string s) := fun V hV => (HLJ.out.keep (HCB.out V hV)).c0
      have y1 : ∀ V, C V → V.cell? ⟨p, 1, none⟩ = some (.int .i64 b) := fun V hV => (HLJ.out.keep (HCB.out V hV)).c1
      go_wp2
      try rw [show Value.pointer (some ⟨p, 0, none⟩) = PT p from rfl]
      refine w_lit (C := C) (by kernel_rfl) (by kernel_rfl) HCD.out ?_
      refine w_value (PT p) (by kernel_rfl) (fun w hw => x_move _ _ _ _ _ _ _ _ rfl w) ?_
      simp only [Act.put, List.setIfInBounds_toArray, List.set_cons_succ, List.set_cons_zero]
      refine w_value (PT p) (by kernel_rfl) (fun w hw => x_nilCheck _ _ _ _ _ _ _ _ rfl w) ?_
      simp only [Act.put, List.setIfInBounds_toArray, List.set_cons_succ, List.set_cons_zero]
      refine w_value (.pointer (some ⟨p, 1, none⟩)) (by kernel_rfl) (fun w hw => x_lxF1 _ _ _ _ _ _ _ _ rfl w) ?_
      simp only [Act.put, List.setIfInBounds_toArray, List.set_cons_succ, List.set_cons_zero]
      refine w_value (.int .i64 b) (by kernel_rfl) (fun w hw => x_ldN _ _ _ _ _ _ _ p 1 _ rfl w (y1 w hw)) ?_
      simp only [Act.put, List.setIfInBounds_toArray, List.set_cons_succ, List.set_cons_zero]
      refine w_value (PT p) (by kernel_rfl) (fun w hw => x_move _ _ _ _ _ _ _ _ rfl w) ?_
      simp only [Act.put, List.setIfInBounds_toArray, List.set_cons_succ, List.set_cons_zero]
      refine w_value (PT p) (by kernel_rfl) (fun w hw => x_nilCheck _ _ _ _ _ _ _ _ rfl w) ?_
      simp only [Act.put, List.setIfInBounds_toArray, List.set_cons_succ, List.set_cons_zero]
      refine w_value (PT p) (by kernel_rfl) (fun w hw => x_lxF0 _ _ _ _ _ _ _ _ rfl w) ?_
      simp only [Act.put, List.setIfInBounds_toArray, List.set_cons_succ, List.set_cons_zero]
      refine w_value (.string s) (by kernel_rfl) (fun w hw => x_ldS _ _ _ _ _ _ _ p _ rfl w (y0 w hw)) ?_
      simp only [Act.put, List.setIfInBounds_toArray, List.set_cons_succ, List.set_cons_zero]
      refine w_value (.int .i64 s.size) (by kernel_rfl) (fun w hw => x_lenS _ _ _ _ _ _ _ s rfl w) ?_
      simp only [Act.put, List.setIfInBounds_toArray, List.set_cons_succ, List.set_cons_zero]
      refine w_value (.bool false) (by kernel_rfl) (fun w hw => x_lssZ _ _ _ _ _ _ _ _ b s.size false hlt rfl rfl w) ?_
      simp only [Act.put, List.setIfInBounds_toArray, List.set_cons_succ, List.set_cons_zero]
      refine w_value (.bool false) (by kernel_rfl) (fun w hw => x_move _ _ _ _ _ _ _ _ rfl w) ?_
      simp only [Act.put, List.setIfInBounds_toArray, List.set_cons_succ, List.set_cons_zero]
      refine w_skip (by kernel_rfl) ?_
      simp only [Act.put, List.setIfInBounds_toArray, List.set_cons_succ, List.set_cons_zero]
      refine w_skip (by kernel_rfl) ?_
      simp only [Act.put, List.setIfInBounds_toArray, List.set_cons_succ, List.set_cons_zero]
      refine w_skip (by kernel_rfl) ?_
      simp only [Act.put, List.setIfInBounds_toArray, List.set_cons_succ, List.set_cons_zero]
      refine w_skip (by kernel_rfl) ?_
      simp only [Act.put, List.setIfInBounds_toArray, List.set_cons_succ, List.set_cons_zero]
      refine w_skip (by kernel_rfl) ?_
      simp only [Act.put, List.setIfInBounds_toArray, List.set_cons_succ, List.set_cons_zero]
      refine w_skip (by kernel_rfl) ?_
      simp only [Act.put, List.setIfInBounds_toArray, List.set_cons_succ, List.set_cons_zero]
      refine w_skip (by kernel_rfl) ?_
      simp only [Act.put, List.setIfInBounds_toArray, List.set_cons_succ, List.set_cons_zero]
      refine w_skip (by kernel_rfl) ?_
      simp only [Act.put, List.setIfInBounds_toArray, List.set_cons_succ, List.set_cons_zero]
      refine w_skip (by kernel_rfl) ?_
      simp only [Act.put, List.setIfInBounds_toArray, List.set_cons_succ, List.set_cons_zero]
      refine w_skip (by kernel_rfl) ?_
      simp only [Act.put, List.setIfInBounds_toArray, List.set_cons_succ, List.set_cons_zero]
      refine w_value (.bool false) (by kernel_rfl) (fun w hw => x_pick _ _ _ _ _ _ _ _ _ false undef (.bool false) rfl rfl rfl w) ?_
      simp only [Act.put, List.setIfInBounds_toArray, List.set_cons_succ, List.set_cons_zero]
      refine w_nil ?_
      intro W hCW
      have HLW := hide (HLJ.out.keep (HCB.out W hCW))
      have HAW := hide (HA.out.trans (Aside.of_below (HCB.out W hCW)))
      have HOW := hide (HO.out.keep fun g hg => (HCB.out W hCW).block g (HO.out.own_lt hg).2)
      clear hCW y0 y1
      have HCL := hide (lxClosed_any p s b 0 x0 W HLW.out (by omega))
      unfold PT at HCL
      unfold PT
      go_wp2_with fail
      refine HCL.out.mono ?_
      rintro r w3 ⟨rfl, h3, hA3⟩
      have HL3 := hide h3
      have HA3 := hide (HAW.out.trans hA3)
      have HO3 := hide (HOW.out.keep fun g hg => hA3.block g (HOW.out.own_lt hg).2 (by have := (HOW.out.own_lt hg).1; have := HP.out; have := HB.out; omega))
      clear h3 hA3 HCL
      have hst := str_ofU HO3.out
      go_wp2_with fail
      go_ret
      refine ⟨fun h => ?_, fun h => ?_, HA3.out⟩
      · have hb := HBK.out
        rcases h with h | h
        · rw [HFL.out] at h; cases h
        · have h3 := HL3.out
          rw [if_pos (by omega)] at h3
          exact ⟨_, _, rfl, by rw [← hb]; exact h3⟩
      · have hb := HBK.out
        have h3 := HL3.out
        rw [if_neg (by omega)] at h3
        exact ⟨congrArg (fun z => Ending.returned (Value.string (strB z))) HTX.out, by rw [← hb]; exact h3⟩
end Go.Proofs.YtjlgepahgmkamaaGreatDoor
