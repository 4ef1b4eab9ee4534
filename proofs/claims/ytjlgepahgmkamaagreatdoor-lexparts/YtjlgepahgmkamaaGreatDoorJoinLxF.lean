/- Texts of this claim put together: TrJ, LxF. -/
import Derived.Test.YtjlgepahgmkamaaGreatDoorJoinTrI
import Derived.Test.YtjlgepahgmkamaaGreatDoorJoinMathRd4
import Derived.Test.YtjlgepahgmkamaaGreatDoorJoinTrD
/- Read: the expression that a text is, or its first error. -/
namespace Go.Proofs.YtjlgepahgmkamaaGreatDoor
set_option maxRecDepth 100000
set_option linter.unusedSimpArgs false
set_option linter.unusedVariables false
open Go.RowKit

/-- What Read answers. -/
def ReadPost (s : ByteArray) (w : World) (e : Ending) (w' : World) : Prop :=
  ((rdEnd (bytesN s)).err = 0 → ∃ b, e = .returned (.tuple #[PT b, .int .i64 (0 : Nat), .int .i64 (0 : Nat)]) ∧ ReAt w' b (readQ (bytesN s)).1 ∧ Below w.heap.size w w') ∧
  ((rdEnd (bytesN s)).err ≠ 0 → e = .returned (.tuple #[.pointer none, .int .i64 (rdEnd (bytesN s)).err, .int .i64 (rdEnd (bytesN s)).wh]) ∧ Below w.heap.size w w')

set_option maxHeartbeats 4000000 in
theorem read_any (s : ByteArray) (w : World) (hs : s.size ≤ 65536) (hT : TabAt w) : Calls Tryz.prog 65 #[.string s] w (ReadPost s w) := by
  obtain ⟨p, hp⟩ : ∃ p, p = w.heap.size := ⟨_, rfl⟩
  have hlen := bN_len s
  have hq := readQ_some (l := bytesN s) (by omega)
  obtain ⟨r, s1, hrs⟩ : ∃ r s1, readQ (bytesN s) = (r, s1) := ⟨_, _, rfl⟩
  rw [hrs, hlen] at hq
  obtain ⟨w0, hw0⟩ : ∃ w0, w0 = w.alloc (.cells (rdC s 0 0 0 0 0) 119) := ⟨_, rfl⟩
  have hb0 : Below w.heap.size w w0 := by rw [hw0]; exact (Below.refl _ _).alloc (Nat.le_refl _) _
  have hR0 : RdAt w0 p s (St.init (bytesN s)) := by
    refine ⟨?_, ?_, by show (bytesN s).length ≤ _; omega, hs⟩
    · rw [hw0]
      have : s.size - (St.init (bytesN s)).rest.length = 0 := by show s.size - (bytesN s).length = 0; omega
      rw [this]
      exact Blk.newAt hp _ _
    · show bytesN s = (bytesN s).drop (s.size - (bytesN s).length)
      rw [hlen, Nat.sub_self]; rfl
  have hok := init_ok (l := bytesN s) (by omega)
  have hpre : Pre (St.init (bytesN s)).cnt (St.init (bytesN s)) .or := ⟨rfl, by show 0 ≤ _; omega⟩
  have hc := (rd_all (20 * s.size + 9)).1 (20 * s.size + 8) (by omega) p s _ r s1 w0 hR0 hok hpre (hT.agree (Agree.of_all (K := fun _ => True) hb0) trivial) hq
  have hi := P_inv s.size _ .or _ _ r s1 hq hok hpre
  have HC := hide hc
  have HI := hide hi
  have HB0 := hide hb0
  have HP := hide hp
  have HRS := hide hrs
  have HP0 : Hid (p < w0.heap.size) := hR0.blk.lt
  have ew : w.alloc (.cells #[.string s, .int .i64 0, .int .i64 0, .int .i64 0, .int .i64 0, .int .i64 0] 119) = w0 := hw0.symm
  clear hc hi hq hok hpre hR0 hb0 hw0 hT hrs
  have hd1 : decide ((65536 : Int) < s.size) = false := by simp; omega
  have hd2 : decide (65536 < s.size) = false := by simp; omega
  unfold PT at HC
  go_enter Tryz.func65, Tryz.ntmps65
  go_wp2_with fail
  rw [← hp]
  clear hp
  refine HC.out.mono ?_
  rintro e w1 ⟨b, rfl, hrb, hR1, hA1⟩
  have HO1 : Hid (OnW w0 p s s1 b r w1) := ⟨hR1, hrb, hA1⟩
  clear hrb hR1 hA1 HC ew
  obtain ⟨q, hq⟩ : ∃ q, q = s1.skip.rest.isEmpty := ⟨_, rfl⟩
  have hen := end_any p s s1 w1 HO1.out.rd
  rw [← hq] at hen
  have HEN := hide hen
  have HQ := hide hq
  clear hen hq
  unfold PT at HEN
  go_wp2_with fail
  refine HEN.out.mono ?_
  rintro e w2 ⟨rfl, hR2, hA2⟩
  have HO2 := hide (HO1.out.read hR2 hA2)
  clear hR2 hA2 HEN HO1
  -- the end of a world
  have HFIN : Hid (∀ (S : St) (W : World), OnW w0 p s S b r W → Below w.heap.size w W ∧ w.heap.size ≤ W.heap.size) := fun S W h => by
    have hb : Below w.heap.size w W := HB0.out.trans (h.aside.below (by have := HP.out; have := HP0.out; omega) (by rw [HP.out]; exact Nat.le_refl _))
    exact ⟨hb, hb.size⟩
  cases q with
  | false =>
    obtain ⟨at2, hat2⟩ : ∃ a, a = s1.skip.pos s.size := ⟨_, rfl⟩
    have g1 := HO2.out.rd.cells.2.1
    have ea : s.size - s1.skip.rest.length = at2 := hat2.symm
    rw [ea] at g1
    have HF := hide (fail_any p 2 at2 s _ w2 HO2.out.rd)
    have HRE : Hid ((rdEnd (bytesN s)).err ≠ 0 ∧ (rdEnd (bytesN s)).err = (s1.skip.fail 2 at2).err ∧ (rdEnd (bytesN s)).wh = (s1.skip.fail 2 at2).wh) := by
      have hne := fail_err 2 at2 s1.skip (by omega)
      have e : rdEnd (bytesN s) = s1.skip.fail 2 at2 := by
        unfold rdEnd
        rw [HRS.out]
        simp only
        rw [← HQ.out, bN_len, ← hat2]
        simp only [Bool.false_eq_true, if_false]
        rw [if_neg (fun h => hne h.1)]
      rw [e]; exact ⟨hne, rfl, rfl⟩
    have HER : Hid ((s1.skip.fail 2 at2).err ≠ 0) := fail_err 2 at2 s1.skip (by omega)
    clear hat2 ea
    unfold PT at HF
    go_wp2_with fail
    refine HF.out.mono ?_
    rintro e WX ⟨rfl, hR3, hA3⟩
    obtain ⟨SX, hSX⟩ : ∃ SX, SX = s1.skip.fail 2 at2 := ⟨_, rfl⟩
    rw [← hSX] at hR3 HER HRE
    have HY := hide (HO2.out.read hR3 hA3)
    have HBL := hide (HFIN.out _ _ HY.out).1
    have HWS := hide (HFIN.out _ _ HY.out).2
    clear hR3 hA3 HF HO2 g1 hSX HFIN
    have c40 := HY.out.rd.cells.2.2.2.2.1
    have hz0 : ((SX.err : Int) == 0) = false := beq_eq_false_iff_ne.2 (by have := HER.out; omega)
    have c4 := HY.out.rd.cells.2.2.2.2.1
    have hne : ((SX.err : Int) != 0) = true := by
      have := HER.out
      simp; omega
    obtain ⟨er, her⟩ : ∃ er, er = SX.err := ⟨_, rfl⟩
    obtain ⟨wh, hwh⟩ : ∃ wh, wh = SX.wh := ⟨_, rfl⟩
    obtain ⟨C, hC⟩ : ∃ C : World → Prop, C = fun W => Below WX.heap.size WX W := ⟨_, rfl⟩
    have HG : Hid (Grows C) := by rw [hC]; exact fun W W' h1 h2 => h1.trans (h2.mono h1.size)
    have HCD : Hid (C { WX with drawn := WX.drawn + 1 }) := by rw [hC]; exact ⟨rfl, rfl, rfl, Nat.le_refl _, fun _ _ => rfl⟩
    have HCB : Hid (∀ W, C W → Below WX.heap.size WX W) := by rw [hC]; exact fun W h => h
    have HC4 : Hid (∀ W, C W → W.cell? ⟨p, 4, none⟩ = some (.int .i64 er)) := fun W hW => by rw [her]; exact (HY.out.rd.keep (HCB.out W hW)).cells.2.2.2.2.1
    have HC5 : Hid (∀ W, C W → W.cell? ⟨p, 5, none⟩ = some (.int .i64 wh)) := fun W hW => by rw [hwh]; exact (HY.out.rd.keep (HCB.out W hW)).cells.2.2.2.2.2.1
    have HER2 := hide her
    have HWH2 := hide hwh
    rw [← her] at c4 hne
    clear hC her hwh
    go_wp2
    have hG := HG.out
    have hc4 := HC4.out
    have hc5 := HC5.out
    refine w_lit (C := C) (by kernel_rfl) (by kernel_rfl) HCD.out ?_
    refine w_value (PT p) (by kernel_rfl) (fun w hw => x_move _ _ _ _ _ _ _ _ rfl w) ?_
    simp only [Act.put, List.setIfInBounds_toArray, List.set_cons_succ, List.set_cons_zero]
    refine w_value (PT p) (by kernel_rfl) (fun w hw => x_nilCheck _ _ _ _ _ _ _ _ rfl w) ?_
    simp only [Act.put, List.setIfInBounds_toArray, List.set_cons_succ, List.set_cons_zero]
    refine w_value (.pointer (some ⟨p, 4, none⟩)) (by kernel_rfl) (fun w hw => x_fieldR4 _ _ _ _ _ _ _ p rfl w) ?_
    simp only [Act.put, List.setIfInBounds_toArray, List.set_cons_succ, List.set_cons_zero]
    refine w_value (.int .i64 er) (by kernel_rfl) (fun w hw => x_loadErr _ _ _ _ _ _ _ p 4 _ rfl w (hc4 w hw)) ?_
    simp only [Act.put, List.setIfInBounds_toArray, List.set_cons_succ, List.set_cons_zero]
    refine w_value (PT p) (by kernel_rfl) (fun w hw => x_move _ _ _ _ _ _ _ _ rfl w) ?_
    simp only [Act.put, List.setIfInBounds_toArray, List.set_cons_succ, List.set_cons_zero]
    refine w_value (PT p) (by kernel_rfl) (fun w hw => x_nilCheck _ _ _ _ _ _ _ _ rfl w) ?_
    simp only [Act.put, List.setIfInBounds_toArray, List.set_cons_succ, List.set_cons_zero]
    refine w_value (.pointer (some ⟨p, 5, none⟩)) (by kernel_rfl) (fun w hw => x_fieldR5 _ _ _ _ _ _ _ p rfl w) ?_
    simp only [Act.put, List.setIfInBounds_toArray, List.set_cons_succ, List.set_cons_zero]
    refine w_value (.int .i64 wh) (by kernel_rfl) (fun w hw => x_loadInt _ _ _ _ _ _ _ p 5 _ rfl w (hc5 w hw)) ?_
    simp only [Act.put, List.setIfInBounds_toArray, List.set_cons_succ, List.set_cons_zero]
    refine w_value (.pointer none) (by kernel_rfl) (fun w hw => x_assign _ _ _ _ _ _ _ _ rfl w) ?_
    simp only [Act.put, List.setIfInBounds_toArray, List.set_cons_succ, List.set_cons_zero]
    refine w_value (.int .i64 er) (by kernel_rfl) (fun w hw => x_assign _ _ _ _ _ _ _ _ rfl w) ?_
    simp only [Act.put, List.setIfInBounds_toArray, List.set_cons_succ, List.set_cons_zero]
    refine w_value (.int .i64 wh) (by kernel_rfl) (fun w hw => x_assign _ _ _ _ _ _ _ _ rfl w) ?_
    simp only [Act.put, List.setIfInBounds_toArray, List.set_cons_succ, List.set_cons_zero]
    refine w_nil ?_
    intro W hW
    have HBX := hide ((HBL.out).trans ((HCB.out W hW).mono HWS.out))
    clear hW hG hc4 hc5
    go_wp2
    refine bodyPost_ret (v := .tuple #[.pointer none, .int .i64 er, .int .i64 wh]) (by simp [results, Tryz.results65, go_sem]) rfl ?_
    refine ⟨fun h => absurd h HRE.out.1, fun _ => ⟨?_, HBX.out⟩⟩
    rw [HRE.out.2.1, HRE.out.2.2, ← HER2.out, ← HWH2.out]
  | true =>
    have HRE0 : Hid (rdEnd (bytesN s) = if s1.skip.err = 0 ∧ 1000 < r.size then s1.skip.fail 3 0 else s1.skip) := by
      show _ = _
      unfold rdEnd
      rw [HRS.out]
      simp only
      rw [← HQ.out]
      simp only [if_true]
    have c4 := HO2.out.rd.cells.2.2.2.2.1
    by_cases he : s1.skip.err = 0
    · rw [he] at c4
      have HSZ := hide (size_any b r w2 HO2.out.re)
      obtain ⟨sz, hsz⟩ : ∃ sz, sz = r.size := ⟨_, rfl⟩
      rw [← hsz] at HSZ HRE0
      have hszl : sz ≤ 9223372036854775807 := by rw [hsz]; exact r.size_le
      have HE0 := hide he
      clear hsz he
      unfold PT at HSZ
      go_wp2_with fail
      refine HSZ.out.mono ?_
      rintro e w3 ⟨rfl, rfl⟩
      clear HSZ
      by_cases hbig : 1000 < sz
      · have hd3 : decide ((1000 : Int) < sz) = true := by simp; omega
        have hd4 : decide (1000 < sz) = true := by simp [hbig]
        have HF := hide (fail_any p 3 0 s _ w3 HO2.out.rd)
        have HRE : Hid ((rdEnd (bytesN s)).err ≠ 0 ∧ (rdEnd (bytesN s)).err = (s1.skip.fail 3 0).err ∧ (rdEnd (bytesN s)).wh = (s1.skip.fail 3 0).wh) := by
          have e : rdEnd (bytesN s) = s1.skip.fail 3 0 := by rw [HRE0.out, if_pos ⟨HE0.out, hbig⟩]
          rw [e]; exact ⟨fail_err 3 0 _ (by omega), rfl, rfl⟩
        have HER : Hid ((s1.skip.fail 3 0).err ≠ 0) := fail_err 3 0 s1.skip (by omega)
        clear hbig
        unfold PT at HF
        go_wp2_with fail
        refine HF.out.mono ?_
        rintro e WX ⟨rfl, hR3, hA3⟩
        obtain ⟨SX, hSX⟩ : ∃ SX, SX = s1.skip.fail 3 0 := ⟨_, rfl⟩
        rw [← hSX] at hR3 HER HRE
        have HY := hide (HO2.out.read hR3 hA3)
        have HBL := hide (HFIN.out _ _ HY.out).1
        have HWS := hide (HFIN.out _ _ HY.out).2
        clear hR3 hA3 HF HO2 hSX HFIN c4
        have c4 := HY.out.rd.cells.2.2.2.2.1
        have hne : ((SX.err : Int) != 0) = true := by
          have := HER.out
          simp; omega
        obtain ⟨er, her⟩ : ∃ er, er = SX.err := ⟨_, rfl⟩
        obtain ⟨wh, hwh⟩ : ∃ wh, wh = SX.wh := ⟨_, rfl⟩
        obtain ⟨C, hC⟩ : ∃ C : World → Prop, C = fun W => Below WX.heap.size WX W := ⟨_, rfl⟩
        have HG : Hid (Grows C) := by rw [hC]; exact fun W W' h1 h2 => h1.trans (h2.mono h1.size)
        have HCD : Hid (C { WX with drawn := WX.drawn + 1 }) := by rw [hC]; exact ⟨rfl, rfl, rfl, Nat.le_refl _, fun _ _ => rfl⟩
        have HCB : Hid (∀ W, C W → Below WX.heap.size WX W) := by rw [hC]; exact fun W h => h
        have HC4 : Hid (∀ W, C W → W.cell? ⟨p, 4, none⟩ = some (.int .i64 er)) := fun W hW => by rw [her]; exact (HY.out.rd.keep (HCB.out W hW)).cells.2.2.2.2.1
        have HC5 : Hid (∀ W, C W → W.cell? ⟨p, 5, none⟩ = some (.int .i64 wh)) := fun W hW => by rw [hwh]; exact (HY.out.rd.keep (HCB.out W hW)).cells.2.2.2.2.2.1
        have HER2 := hide her
        have HWH2 := hide hwh
        rw [← her] at c4 hne
        clear hC her hwh
        go_wp2
        have hG := HG.out
        have hc4 := HC4.out
        have hc5 := HC5.out
        refine w_lit (C := C) (by kernel_rfl) (by kernel_rfl) HCD.out ?_
        refine w_value (PT p) (by kernel_rfl) (fun w hw => x_move _ _ _ _ _ _ _ _ rfl w) ?_
        simp only [Act.put, List.setIfInBounds_toArray, List.set_cons_succ, List.set_cons_zero]
        refine w_value (PT p) (by kernel_rfl) (fun w hw => x_nilCheck _ _ _ _ _ _ _ _ rfl w) ?_
        simp only [Act.put, List.setIfInBounds_toArray, List.set_cons_succ, List.set_cons_zero]
        refine w_value (.pointer (some ⟨p, 4, none⟩)) (by kernel_rfl) (fun w hw => x_fieldR4 _ _ _ _ _ _ _ p rfl w) ?_
        simp only [Act.put, List.setIfInBounds_toArray, List.set_cons_succ, List.set_cons_zero]
        refine w_value (.int .i64 er) (by kernel_rfl) (fun w hw => x_loadErr _ _ _ _ _ _ _ p 4 _ rfl w (hc4 w hw)) ?_
        simp only [Act.put, List.setIfInBounds_toArray, List.set_cons_succ, List.set_cons_zero]
        refine w_value (PT p) (by kernel_rfl) (fun w hw => x_move _ _ _ _ _ _ _ _ rfl w) ?_
        simp only [Act.put, List.setIfInBounds_toArray, List.set_cons_succ, List.set_cons_zero]
        refine w_value (PT p) (by kernel_rfl) (fun w hw => x_nilCheck _ _ _ _ _ _ _ _ rfl w) ?_
        simp only [Act.put, List.setIfInBounds_toArray, List.set_cons_succ, List.set_cons_zero]
        refine w_value (.pointer (some ⟨p, 5, none⟩)) (by kernel_rfl) (fun w hw => x_fieldR5 _ _ _ _ _ _ _ p rfl w) ?_
        simp only [Act.put, List.setIfInBounds_toArray, List.set_cons_succ, List.set_cons_zero]
        refine w_value (.int .i64 wh) (by kernel_rfl) (fun w hw => x_loadInt _ _ _ _ _ _ _ p 5 _ rfl w (hc5 w hw)) ?_
        simp only [Act.put, List.setIfInBounds_toArray, List.set_cons_succ, List.set_cons_zero]
        refine w_value (.pointer none) (by kernel_rfl) (fun w hw => x_assign _ _ _ _ _ _ _ _ rfl w) ?_
        simp only [Act.put, List.setIfInBounds_toArray, List.set_cons_succ, List.set_cons_zero]
        refine w_value (.int .i64 er) (by kernel_rfl) (fun w hw => x_assign _ _ _ _ _ _ _ _ rfl w) ?_
        simp only [Act.put, List.setIfInBounds_toArray, List.set_cons_succ, List.set_cons_zero]
        refine w_value (.int .i64 wh) (by kernel_rfl) (fun w hw => x_assign _ _ _ _ _ _ _ _ rfl w) ?_
        simp only [Act.put, List.setIfInBounds_toArray, List.set_cons_succ, List.set_cons_zero]
        refine w_nil ?_
        intro W hW
        have HBX := hide ((HBL.out).trans ((HCB.out W hW).mono HWS.out))
        clear hW hG hc4 hc5
        go_wp2
        refine bodyPost_ret (v := .tuple #[.pointer none, .int .i64 er, .int .i64 wh]) (by simp [results, Tryz.results65, go_sem]) rfl ?_
        refine ⟨fun h => absurd h HRE.out.1, fun _ => ⟨?_, HBX.out⟩⟩
        rw [HRE.out.2.1, HRE.out.2.2, ← HER2.out, ← HWH2.out]
      · have hd3 : decide ((1000 : Int) < sz) = false := by simp; omega
        have hd4 : decide (1000 < sz) = false := by simp; omega
        have HRE : Hid ((rdEnd (bytesN s)).err = 0) := by
          show _ = _
          rw [HRE0.out, if_neg (fun h => hbig h.2)]; exact HE0.out
        have HBL := hide (HFIN.out _ _ HO2.out).1
        clear hbig
        go_wp2
        refine bodyPost_ret (v := .tuple #[PT b, .int .i64 (0 : Nat), .int .i64 (0 : Nat)]) (by simp [results, Tryz.results65, go_sem, PT]) rfl ?_
        refine ⟨fun _ => ⟨b, rfl, ?_, HBL.out⟩, fun h => absurd HRE.out h⟩
        rw [HRS.out]; exact HO2.out.re
    · have HRE : Hid ((rdEnd (bytesN s)).err ≠ 0 ∧ (rdEnd (bytesN s)).err = s1.skip.err ∧ (rdEnd (bytesN s)).wh = s1.skip.wh) := by
        rw [HRE0.out, if_neg (fun h => he h.1)]; exact ⟨he, rfl, rfl⟩
      have HER : Hid (s1.skip.err ≠ 0) := he
      have hz0 : ((s1.skip.err : Int) == 0) = false := beq_eq_false_iff_ne.2 (by omega)
      obtain ⟨SX, hSX⟩ : ∃ SX, SX = s1.skip := ⟨_, rfl⟩
      obtain ⟨WX, hWX⟩ : ∃ WX, WX = w2 := ⟨_, rfl⟩
      rw [← hSX] at HER HRE HO2 hz0 c4
      rw [← hWX] at HO2 c4 ⊢
      have HY := HO2
      have HBL := hide (HFIN.out _ _ HY.out).1
      have HWS := hide (HFIN.out _ _ HY.out).2
      clear HO2 hSX HFIN he hWX c4
      have c40 := HY.out.rd.cells.2.2.2.2.1
      have c4 := HY.out.rd.cells.2.2.2.2.1
      have hne : ((SX.err : Int) != 0) = true := by
        have := HER.out
        simp; omega
      obtain ⟨er, her⟩ : ∃ er, er = SX.err := ⟨_, rfl⟩
      obtain ⟨wh, hwh⟩ : ∃ wh, wh = SX.wh := ⟨_, rfl⟩
      obtain ⟨C, hC⟩ : ∃ C : World → Prop, C = fun W => Below WX.heap.size WX W := ⟨_, rfl⟩
      have HG : Hid (Grows C) := by rw [hC]; exact fun W W' h1 h2 => h1.trans (h2.mono h1.size)
      have HCD : Hid (C { WX with drawn := WX.drawn + 1 }) := by rw [hC]; exact ⟨rfl, rfl, rfl, Nat.le_refl _, fun _ _ => rfl⟩
      have HCB : Hid (∀ W, C W → Below WX.heap.size WX W) := by rw [hC]; exact fun W h => h
      have HC4 : Hid (∀ W, C W → W.cell? ⟨p, 4, none⟩ = some (.int .i64 er)) := fun W hW => by rw [her]; exact (HY.out.rd.keep (HCB.out W hW)).cells.2.2.2.2.1
      have HC5 : Hid (∀ W, C W → W.cell? ⟨p, 5, none⟩ = some (.int .i64 wh)) := fun W hW => by rw [hwh]; exact (HY.out.rd.keep (HCB.out W hW)).cells.2.2.2.2.2.1
      have HER2 := hide her
      have HWH2 := hide hwh
      rw [← her] at c4 hne
      clear hC her hwh
      go_wp2
      have hG := HG.out
      have hc4 := HC4.out
      have hc5 := HC5.out
      refine w_lit (C := C) (by kernel_rfl) (by kernel_rfl) HCD.out ?_
      refine w_value (PT p) (by kernel_rfl) (fun w hw => x_move _ _ _ _ _ _ _ _ rfl w) ?_
      simp only [Act.put, List.setIfInBounds_toArray, List.set_cons_succ, List.set_cons_zero]
      refine w_value (PT p) (by kernel_rfl) (fun w hw => x_nilCheck _ _ _ _ _ _ _ _ rfl w) ?_
      simp only [Act.put, List.setIfInBounds_toArray, List.set_cons_succ, List.set_cons_zero]
      refine w_value (.pointer (some ⟨p, 4, none⟩)) (by kernel_rfl) (fun w hw => x_fieldR4 _ _ _ _ _ _ _ p rfl w) ?_
      simp only [Act.put, List.setIfInBounds_toArray, List.set_cons_succ, List.set_cons_zero]
      refine w_value (.int .i64 er) (by kernel_rfl) (fun w hw => x_loadErr _ _ _ _ _ _ _ p 4 _ rfl w (hc4 w hw)) ?_
      simp only [Act.put, List.setIfInBounds_toArray, List.set_cons_succ, List.set_cons_zero]
      refine w_value (PT p) (by kernel_rfl) (fun w hw => x_move _ _ _ _ _ _ _ _ rfl w) ?_
      simp only [Act.put, List.setIfInBounds_toArray, List.set_cons_succ, List.set_cons_zero]
      refine w_value (PT p) (by kernel_rfl) (fun w hw => x_nilCheck _ _ _ _ _ _ _ _ rfl w) ?_
      simp only [Act.put, List.setIfInBounds_toArray, List.set_cons_succ, List.set_cons_zero]
      refine w_value (.pointer (some ⟨p, 5, none⟩)) (by kernel_rfl) (fun w hw => x_fieldR5 _ _ _ _ _ _ _ p rfl w) ?_
      simp only [Act.put, List.setIfInBounds_toArray, List.set_cons_succ, List.set_cons_zero]
      refine w_value (.int .i64 wh) (by kernel_rfl) (fun w hw => x_loadInt _ _ _ _ _ _ _ p 5 _ rfl w (hc5 w hw)) ?_
      simp only [Act.put, List.setIfInBounds_toArray, List.set_cons_succ, List.set_cons_zero]
      refine w_value (.pointer none) (by kernel_rfl) (fun w hw => x_assign _ _ _ _ _ _ _ _ rfl w) ?_
      simp only [Act.put, List.setIfInBounds_toArray, List.set_cons_succ, List.set_cons_zero]
      refine w_value (.int .i64 er) (by kernel_rfl) (fun w hw => x_assign _ _ _ _ _ _ _ _ rfl w) ?_
      simp only [Act.put, List.setIfInBounds_toArray, List.set_cons_succ, List.set_cons_zero]
      refine w_value (.int .i64 wh) (by kernel_rfl) (fun w hw => x_assign _ _ _ _ _ _ _ _ rfl w) ?_
      simp only [Act.put, List.setIfInBounds_toArray, List.set_cons_succ, List.set_cons_zero]
      refine w_nil ?_
      intro W hW
      have HBX := hide ((HBL.out).trans ((HCB.out W hW).mono HWS.out))
      clear hW hG hc4 hc5
      go_wp2
      refine bodyPost_ret (v := .tuple #[.pointer none, .int .i64 er, .int .i64 wh]) (by simp [results, Tryz.results65, go_sem]) rfl ?_
      refine ⟨fun h => absurd h HRE.out.1, fun _ => ⟨?_, HBX.out⟩⟩
      rw [HRE.out.2.1, HRE.out.2.2, ← HER2.out, ← HWH2.out]
end Go.Proofs.YtjlgepahgmkamaaGreatDoor
/- The reader of programs: an expression between slashes. -/
namespace Go.Proofs.YtjlgepahgmkamaaGreatDoor
set_option maxRecDepth 100000
set_option linter.unusedSimpArgs false
set_option linter.unusedVariables false
open Go.RowKit Go.Shelf

/-- How far it is to the slash that ends an expression: a backslash takes the byte behind it along. -/
def reN : List Nat → Nat
  | [] => 0
  | [c] => if c = 47 then 0 else if c = 92 then 2 else 1
  | c :: d :: r => if c = 47 then 0 else if c = 92 then reN r + 2 else reN (d :: r) + 1
theorem reN_47 (r : List Nat) : reN (47 :: r) = 0 := by cases r <;> simp [reN]
theorem reN_92 (d : Nat) (r : List Nat) : reN (92 :: d :: r) = reN r + 2 := by simp [reN]
theorem reN_92e : reN [92] = 2 := by simp [reN]
theorem reN_x {c : Nat} (r : List Nat) (h1 : c ≠ 47) (h2 : c ≠ 92) : reN (c :: r) = reN r + 1 := by cases r <;> simp [reN, h1, h2]
section
variable (ρ : Operand → Value) (d : Option Tmp) (x y : Operand) (t : TypeId) (pos : String) (af : Array Edge) (g : Option (Nat × Bool))
theorem x_neB (u v : Nat) (c : Bool) (h : ((u : Int) != (v : Int)) = c) (hx : ρ x = .int .u8 u) (hy : ρ y = .int .u8 v) (w : World) :
    (execOp ρ { dst := d, op := .binOp .neq 5 x y 5, type := t, pos := pos, after := af, guard := g }).run Tryz.prog w = .ok (.value (.bool c)) w := by
  rw [← h]; simp [go_sem, hx, hy]
theorem x_eqB (u v : Nat) (c : Bool) (h : ((u : Int) == (v : Int)) = c) (hx : ρ x = .int .u8 u) (hy : ρ y = .int .u8 v) (w : World) :
    (execOp ρ { dst := d, op := .binOp .eql 5 x y 5, type := t, pos := pos, after := af, guard := g }).run Tryz.prog w = .ok (.value (.bool c)) w := by
  rw [← h]; simp [go_sem, hx, hy]
theorem x_stN (b : Nat) (v : Int) (old : Value) (hx : ρ x = .pointer (some ⟨b, 1, none⟩)) (hy : ρ y = .int .i64 v) (w : World) (hc : w.cell? ⟨b, 1, none⟩ = some old) (hf : w.frozen? ⟨b, 1, none⟩ = false) :
    (execOp ρ { dst := d, op := .store 3 x y, type := t, pos := pos, after := af, guard := g }).run Tryz.prog w = .ok .skip (w.setCell ⟨b, 1, none⟩ (.int .i64 v)) := by
  simp [go_sem, hx, hy, hc, hf]
end
theorem TabAt.asideL {w w' : World} {p a e x : Nat} {s : ByteArray} (h : TabAt w) (hp : Blk w p (lxC s a e x) 57) (ha : Aside p w w') : TabAt w' := fun j hj => by
  have hc := h j hj
  rw [← hc]
  refine World.cell?_of_block (w := w) (ha.block _ (World.block_lt_of_cell? _ _ hc) fun e => ?_)
  have e : 1 = p := e
  rw [e, hp.cell] at hc
  have hmem := Array.mem_of_getElem? hc
  simp [lxC] at hmem
theorem extract_size (s : ByteArray) (i j : Nat) : (s.extract i j).size ≤ s.size := by
  rw [ByteArray.size_extract]; omega
end Go.Proofs.YtjlgepahgmkamaaGreatDoor
