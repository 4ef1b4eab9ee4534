/- Texts of this claim put together: TmL2. -/
import Derived.Test.YtblpekljiilkjaaGreatDoorJoinTmL4
/- Write, op by op. -/
namespace Go.Proofs.YtblpekljiilkjaaGreatDoor
set_option maxRecDepth 100000
set_option linter.unusedSimpArgs false
set_option linter.unusedVariables false
open Go.RowKit Go.Shelf

set_option maxHeartbeats 4000000 in
theorem write_4 (b : Nat) (nm tx bk : ByteArray) (r : Option RE) (ks : List TM) (rp : Value) (a : Option Addr) (c : Nat) (w : World) (hS : TmSee w b 4 nm tx bk r ks rp a c) (hwf : WfT (.mk 4 nm tx bk r ks)) (ih : ∀ x ∈ ks, LwT x) (hl : (tmT 4 nm tx bk r (tkL ks)).length ≤ 800000000) (hT : TabAt w) :
    Calls Tryz.prog 16 #[PT b] w fun e w' => e = .returned (.string (strB (tmT 4 nm tx bk r (tkL ks)))) ∧ Below w.heap.size w w' := by
  obtain ⟨hz1, hz2, hz3⟩ := hwf.sz
  have hlen : ks.length = kidsO 4 := hwf.len
  have hrl : (reT r).length ≤ 1000000 := by
    cases r with
    | none => simp [reT]
    | some q => exact (hwf.re q rfl).2
  have HOF : Hid (Calls Tryz.prog 44 #[rp] w fun e w' => e = .returned (.string (strB (reT r))) ∧ Below w.heap.size w w') := textOf_opt r rp w hS.re hwf.re hT
  have hP : (∃ q, rp = PT q) ∨ rp = .pointer none := by
    have := hS.re
    cases r with
    | none => exact .inr this
    | some r => obtain ⟨p, e, -⟩ := this; exact .inl ⟨p, e⟩
  have hrs : (strB (reT r)).size ≤ 1000000 := by rw [strS_size]; exact hrl
  have has := argS_len r hrl
  have HARG := hide (argS r)
  have zs : (⟨#[47]⟩ : ByteArray).size = 1 := rfl
  have z1 : (⟨#[32]⟩ : ByteArray).size = 1 := rfl
  have c3 := hS.c3 w (Below.refl _ _)
  have c0w := hS.c0 w (Below.refl _ _)
  have HSS := hide hS
  have HT := hide hT
  have HCC : Hid (∀ W, Below w.heap.size w W → W.cell? ⟨b, 0, none⟩ = some (.int .i64 (4 : Nat)) ∧ W.cell? ⟨b, 2, none⟩ = some (.string nm) ∧ W.cell? ⟨b, 4, none⟩ = some (.string tx) ∧ W.cell? ⟨b, 5, none⟩ = some (.string bk) ∧ W.cell? ⟨b, 6, none⟩ = some (.slice a ks.length c)) := fun W h => ⟨hS.c0 W h, hS.c2 W h, hS.c4 W h, hS.c5 W h, hS.c6 W h⟩
  have HE : Hid (tmT 4 nm tx bk r (tkL ks) = wordT 4 ++ restT 4 nm tx bk r) := tmT_leaf _ _ _ _ _ _ (by decide)
  have HQT : Hid (∀ W, Calls Tryz.prog 27 #[.string tx] W fun e w' => e = .returned (.string (strB (quoteT tx))) ∧ Below W.heap.size W w') := fun W => lquote_any tx hz2 W
  have HQB : Hid (∀ W, Calls Tryz.prog 27 #[.string bk] W fun e w' => e = .returned (.string (strB (quoteT bk))) ∧ Below W.heap.size W w') := fun W => lquote_any bk hz3 W
  have hqt : (strB (quoteT tx)).size ≤ 4000002 := by rw [strS_size]; have := quoteT_len tx; omega
  have hqb : (strB (quoteT bk)).size ≤ 4000002 := by rw [strS_size]; have := quoteT_len bk; omega
  have HNM := hide (strS_of nm)
  obtain ⟨QT, hQT⟩ : ∃ QT, QT = strB (quoteT tx) := ⟨_, rfl⟩
  obtain ⟨QB, hQB⟩ : ∃ QB, QB = strB (quoteT bk) := ⟨_, rfl⟩
  rw [← hQT] at HQT hqt
  rw [← hQB] at HQB hqb
  have HQTE := hide hQT
  have HQBE := hide hQB
  clear hQT hQB
  have HEE : Hid (strB (tmT 4 nm tx bk r (tkL ks)) = ⟨#[99, 111, 110, 115, 116, 32]⟩ ++ strB (argT r) ++ ⟨#[32]⟩ ++ QT ++ ⟨#[32]⟩ ++ QB) := by
    show _ = _
    rw [HE.out, HQTE.out, HQBE.out, show (⟨#[99, 111, 110, 115, 116, 32]⟩ : ByteArray) = strB (wordT 4 ++ [32]) from by decide +kernel, show (⟨#[32]⟩ : ByteArray) = strB [32] from by decide +kernel]
    skip
    simp only [← strS_append]
    congr 1
    simp [restT]
  have zl : (⟨#[99, 111, 110, 115, 116, 32]⟩ : ByteArray).size = 6 := rfl
  clear HE
  obtain ⟨T, hTT⟩ : ∃ T, T = strB (tmT 4 nm tx bk r (tkL ks)) := ⟨_, rfl⟩
  rw [← hTT] at HEE ⊢
  obtain ⟨AR, hAR⟩ : ∃ AR, AR = strB (argT r) := ⟨_, rfl⟩
  rw [← hAR] at HARG has HEE
  obtain ⟨RT, hRT⟩ : ∃ RT, RT = strB (reT r) := ⟨_, rfl⟩
  rw [← hRT] at HARG HOF hrs
  have HP := hide hP
  clear hTT hAR hRT hl hwf ih hT hS hP hrl hlen
  obtain ⟨q, rfl⟩ | rfl := HP.out
  all_goals
    try unfold PT at HOF c3
    unfold PT
    go_enter Tryz.func16, Tryz.ntmps16
    go_wp2_with fail
    refine HOF.out.mono ?_
    rintro e w1 ⟨rfl, hb1⟩
    have HB1 := hide hb1
    obtain ⟨x0, x2, x4, x5, x6⟩ := HCC.out w1 hb1
    clear hb1 HOF c3 c0w
    go_wp2
    all_goals try (exfalso; simp only [ByteArray.size_append] at *; omega)
    try rw [show Value.pointer (some ⟨b, 0, none⟩) = PT b from rfl]
    try rw [HARG.out]
    obtain ⟨C, hC⟩ : ∃ C : World → Prop, C = fun W => Below w1.heap.size w1 W := ⟨_, rfl⟩
    have HG : Hid (Grows C) := by rw [hC]; exact fun W W' h1 h2 => h1.trans (h2.mono h1.size)
    have HCD : Hid (C { w1 with drawn := w1.drawn + 1 }) := by rw [hC]; exact drewBelow w1
    have HCB : Hid (∀ W, C W → Below w.heap.size w W) := by rw [hC]; exact fun W h => HB1.out.trans (h.mono HB1.out.size)
    clear hC
    have hG := HG.out
    have y4 : ∀ W, C W → W.cell? ⟨b, 4, none⟩ = some (.string tx) := fun W h => (HCC.out W (HCB.out W h)).2.2.1
    have y5 : ∀ W, C W → W.cell? ⟨b, 5, none⟩ = some (.string bk) := fun W h => (HCC.out W (HCB.out W h)).2.2.2.1
    have y6 : ∀ W, C W → W.cell? ⟨b, 6, none⟩ = some (.slice a ks.length c) := fun W h => (HCC.out W (HCB.out W h)).2.2.2.2
    refine w_lit (C := C) (by kernel_rfl) (by kernel_rfl) HCD.out ?_
    refine w_value (.string AR) (by kernel_rfl) (fun w hw => x_move _ _ _ _ _ _ _ _ rfl w) ?_
    simp only [Act.put, List.setIfInBounds_toArray, List.set_cons_succ, List.set_cons_zero]
    refine w_value (.string (⟨#[99, 111, 110, 115, 116, 32]⟩ ++ AR)) (by kernel_rfl) (fun w hw => x_addSS _ _ _ _ _ _ _ _ (⟨#[99, 111, 110, 115, 116, 32]⟩) (AR) rfl rfl (by (try simp only [ByteArray.size_append]); omega) w) ?_
    simp only [Act.put, List.setIfInBounds_toArray, List.set_cons_succ, List.set_cons_zero]
    refine w_value (.string ((⟨#[99, 111, 110, 115, 116, 32]⟩ ++ AR) ++ ⟨#[32]⟩)) (by kernel_rfl) (fun w hw => x_addSS _ _ _ _ _ _ _ _ ((⟨#[99, 111, 110, 115, 116, 32]⟩ ++ AR)) (⟨#[32]⟩) rfl rfl (by (try simp only [ByteArray.size_append]); omega) w) ?_
    simp only [Act.put, List.setIfInBounds_toArray, List.set_cons_succ, List.set_cons_zero]
    refine w_value (PT b) (by kernel_rfl) (fun w hw => x_move _ _ _ _ _ _ _ _ rfl w) ?_
    simp only [Act.put, List.setIfInBounds_toArray, List.set_cons_succ, List.set_cons_zero]
    refine w_value (PT b) (by kernel_rfl) (fun w hw => x_nilCheck _ _ _ _ _ _ _ _ rfl w) ?_
    simp only [Act.put, List.setIfInBounds_toArray, List.set_cons_succ, List.set_cons_zero]
    refine w_value (.pointer (some ⟨b, 4, none⟩)) (by kernel_rfl) (fun w hw => x_tmF4 _ _ _ _ _ _ _ _ rfl w) ?_
    simp only [Act.put, List.setIfInBounds_toArray, List.set_cons_succ, List.set_cons_zero]
    refine w_value (.string tx) (by kernel_rfl) (fun w hw => x_tmStr _ _ _ _ _ _ _ _ _ _ rfl w (y4 w hw)) ?_
    simp only [Act.put, List.setIfInBounds_toArray, List.set_cons_succ, List.set_cons_zero]
    refine w_call hG 27 #[.string tx] (.string QT) (by kernel_rfl) (fun w => x_call1 _ _ _ _ _ _ _ _ _ _ rfl rfl (enters_of Tryz.func27 (by kernel_rfl) rfl) w) (fun w hw => HQT.out w) ?_
    simp only [Act.put, List.setIfInBounds_toArray, List.set_cons_succ, List.set_cons_zero]
    refine w_value (.string (((⟨#[99, 111, 110, 115, 116, 32]⟩ ++ AR) ++ ⟨#[32]⟩) ++ QT)) (by kernel_rfl) (fun w hw => x_addSS _ _ _ _ _ _ _ _ (((⟨#[99, 111, 110, 115, 116, 32]⟩ ++ AR) ++ ⟨#[32]⟩)) (QT) rfl rfl (by (try simp only [ByteArray.size_append]); omega) w) ?_
    simp only [Act.put, List.setIfInBounds_toArray, List.set_cons_succ, List.set_cons_zero]
    refine w_value (.string ((((⟨#[99, 111, 110, 115, 116, 32]⟩ ++ AR) ++ ⟨#[32]⟩) ++ QT) ++ ⟨#[32]⟩)) (by kernel_rfl) (fun w hw => x_addSS _ _ _ _ _ _ _ _ ((((⟨#[99, 111, 110, 115, 116, 32]⟩ ++ AR) ++ ⟨#[32]⟩) ++ QT)) (⟨#[32]⟩) rfl rfl (by (try simp only [ByteArray.size_append]); omega) w) ?_
    simp only [Act.put, List.setIfInBounds_toArray, List.set_cons_succ, List.set_cons_zero]
    refine w_value (PT b) (by kernel_rfl) (fun w hw => x_move _ _ _ _ _ _ _ _ rfl w) ?_
    simp only [Act.put, List.setIfInBounds_toArray, List.set_cons_succ, List.set_cons_zero]
    refine w_value (PT b) (by kernel_rfl) (fun w hw => x_nilCheck _ _ _ _ _ _ _ _ rfl w) ?_
    simp only [Act.put, List.setIfInBounds_toArray, List.set_cons_succ, List.set_cons_zero]
    refine w_value (.pointer (some ⟨b, 5, none⟩)) (by kernel_rfl) (fun w hw => x_tmF5 _ _ _ _ _ _ _ _ rfl w) ?_
    simp only [Act.put, List.setIfInBounds_toArray, List.set_cons_succ, List.set_cons_zero]
    refine w_value (.string bk) (by kernel_rfl) (fun w hw => x_tmStr _ _ _ _ _ _ _ _ _ _ rfl w (y5 w hw)) ?_
    simp only [Act.put, List.setIfInBounds_toArray, List.set_cons_succ, List.set_cons_zero]
    refine w_call hG 27 #[.string bk] (.string QB) (by kernel_rfl) (fun w => x_call1 _ _ _ _ _ _ _ _ _ _ rfl rfl (enters_of Tryz.func27 (by kernel_rfl) rfl) w) (fun w hw => HQB.out w) ?_
    simp only [Act.put, List.setIfInBounds_toArray, List.set_cons_succ, List.set_cons_zero]
    refine w_value (.string (((((⟨#[99, 111, 110, 115, 116, 32]⟩ ++ AR) ++ ⟨#[32]⟩) ++ QT) ++ ⟨#[32]⟩) ++ QB)) (by kernel_rfl) (fun w hw => x_addSS _ _ _ _ _ _ _ _ (((((⟨#[99, 111, 110, 115, 116, 32]⟩ ++ AR) ++ ⟨#[32]⟩) ++ QT) ++ ⟨#[32]⟩)) (QB) rfl rfl (by (try simp only [ByteArray.size_append]); omega) w) ?_
    simp only [Act.put, List.setIfInBounds_toArray, List.set_cons_succ, List.set_cons_zero]
    refine w_value (.string (((((⟨#[99, 111, 110, 115, 116, 32]⟩ ++ AR) ++ ⟨#[32]⟩) ++ QT) ++ ⟨#[32]⟩) ++ QB)) (by kernel_rfl) (fun w hw => x_assign _ _ _ _ _ _ _ _ rfl w) ?_
    simp only [Act.put, List.setIfInBounds_toArray, List.set_cons_succ, List.set_cons_zero]
    refine w_nil ?_
    intro W hCW
    have HBW := hide (HCB.out W hCW)
    clear hCW y4 y5 y6 hG
    try unfold PT
    go_wp2
    go_ret
    refine ⟨?_, HBW.out⟩
    rw [HEE.out]
    rfl

set_option maxHeartbeats 4000000 in
theorem write_5 (b : Nat) (nm tx bk : ByteArray) (r : Option RE) (ks : List TM) (rp : Value) (a : Option Addr) (c : Nat) (w : World) (hS : TmSee w b 5 nm tx bk r ks rp a c) (hwf : WfT (.mk 5 nm tx bk r ks)) (ih : ∀ x ∈ ks, LwT x) (hl : (tmT 5 nm tx bk r (tkL ks)).length ≤ 800000000) (hT : TabAt w) :
    Calls Tryz.prog 16 #[PT b] w fun e w' => e = .returned (.string (strB (tmT 5 nm tx bk r (tkL ks)))) ∧ Below w.heap.size w w' := by
  obtain ⟨hz1, hz2, hz3⟩ := hwf.sz
  have hlen : ks.length = kidsO 5 := hwf.len
  have hrl : (reT r).length ≤ 1000000 := by
    cases r with
    | none => simp [reT]
    | some q => exact (hwf.re q rfl).2
  have HOF : Hid (Calls Tryz.prog 44 #[rp] w fun e w' => e = .returned (.string (strB (reT r))) ∧ Below w.heap.size w w') := textOf_opt r rp w hS.re hwf.re hT
  have hP : (∃ q, rp = PT q) ∨ rp = .pointer none := by
    have := hS.re
    cases r with
    | none => exact .inr this
    | some r => obtain ⟨p, e, -⟩ := this; exact .inl ⟨p, e⟩
  have hrs : (strB (reT r)).size ≤ 1000000 := by rw [strS_size]; exact hrl
  have has := argS_len r hrl
  have HARG := hide (argS r)
  have zs : (⟨#[47]⟩ : ByteArray).size = 1 := rfl
  have z1 : (⟨#[32]⟩ : ByteArray).size = 1 := rfl
  have c3 := hS.c3 w (Below.refl _ _)
  have c0w := hS.c0 w (Below.refl _ _)
  have HSS := hide hS
  have HT := hide hT
  have HCC : Hid (∀ W, Below w.heap.size w W → W.cell? ⟨b, 0, none⟩ = some (.int .i64 (5 : Nat)) ∧ W.cell? ⟨b, 2, none⟩ = some (.string nm) ∧ W.cell? ⟨b, 4, none⟩ = some (.string tx) ∧ W.cell? ⟨b, 5, none⟩ = some (.string bk) ∧ W.cell? ⟨b, 6, none⟩ = some (.slice a ks.length c)) := fun W h => ⟨hS.c0 W h, hS.c2 W h, hS.c4 W h, hS.c5 W h, hS.c6 W h⟩
  have HE : Hid (tmT 5 nm tx bk r (tkL ks) = wordT 5 ++ restT 5 nm tx bk r) := tmT_leaf _ _ _ _ _ _ (by decide)
  have HQT : Hid (∀ W, Calls Tryz.prog 27 #[.string tx] W fun e w' => e = .returned (.string (strB (quoteT tx))) ∧ Below W.heap.size W w') := fun W => lquote_any tx hz2 W
  have HQB : Hid (∀ W, Calls Tryz.prog 27 #[.string bk] W fun e w' => e = .returned (.string (strB (quoteT bk))) ∧ Below W.heap.size W w') := fun W => lquote_any bk hz3 W
  have hqt : (strB (quoteT tx)).size ≤ 4000002 := by rw [strS_size]; have := quoteT_len tx; omega
  have hqb : (strB (quoteT bk)).size ≤ 4000002 := by rw [strS_size]; have := quoteT_len bk; omega
  have HNM := hide (strS_of nm)
  obtain ⟨QT, hQT⟩ : ∃ QT, QT = strB (quoteT tx) := ⟨_, rfl⟩
  obtain ⟨QB, hQB⟩ : ∃ QB, QB = strB (quoteT bk) := ⟨_, rfl⟩
  rw [← hQT] at HQT hqt
  rw [← hQB] at HQB hqb
  have HQTE := hide hQT
  have HQBE := hide hQB
  clear hQT hQB
  have HEE : Hid (strB (tmT 5 nm tx bk r (tkL ks)) = ⟨#[100, 101, 108, 32]⟩ ++ strB (argT r) ++ ⟨#[32]⟩ ++ QB) := by
    show _ = _
    rw [HE.out, HQBE.out, show (⟨#[100, 101, 108, 32]⟩ : ByteArray) = strB (wordT 5 ++ [32]) from by decide +kernel, show (⟨#[32]⟩ : ByteArray) = strB [32] from by decide +kernel]
    skip
    simp only [← strS_append]
    congr 1
    simp [restT]
  have zl : (⟨#[100, 101, 108, 32]⟩ : ByteArray).size = 4 := rfl
  clear HE
  obtain ⟨T, hTT⟩ : ∃ T, T = strB (tmT 5 nm tx bk r (tkL ks)) := ⟨_, rfl⟩
  rw [← hTT] at HEE ⊢
  obtain ⟨AR, hAR⟩ : ∃ AR, AR = strB (argT r) := ⟨_, rfl⟩
  rw [← hAR] at HARG has HEE
  obtain ⟨RT, hRT⟩ : ∃ RT, RT = strB (reT r) := ⟨_, rfl⟩
  rw [← hRT] at HARG HOF hrs
  have HP := hide hP
  clear hTT hAR hRT hl hwf ih hT hS hP hrl hlen
  obtain ⟨q, rfl⟩ | rfl := HP.out
  all_goals
    try unfold PT at HOF c3
    unfold PT
    go_enter Tryz.func16, Tryz.ntmps16
    go_wp2_with fail
    refine HOF.out.mono ?_
    rintro e w1 ⟨rfl, hb1⟩
    have HB1 := hide hb1
    obtain ⟨x0, x2, x4, x5, x6⟩ := HCC.out w1 hb1
    clear hb1 HOF c3 c0w
    go_wp2_with fail
    all_goals try (exfalso; simp only [ByteArray.size_append] at *; omega)
    refine (HQB.out w1).mono ?_
    rintro e w2 ⟨rfl, hb⟩
    have HB2 := hide (HB1.out.trans (hb.mono HB1.out.size))
    clear hb x0 x2 x4 x5 x6
    go_wp2
    all_goals try (exfalso; simp only [ByteArray.size_append] at *; omega)
    go_ret
    refine ⟨?_, HB2.out⟩
    rw [HEE.out]
    first | rfl | (rw [← HARG.out]; rfl)

set_option maxHeartbeats 4000000 in
theorem write_17 (b : Nat) (nm tx bk : ByteArray) (r : Option RE) (ks : List TM) (rp : Value) (a : Option Addr) (c : Nat) (w : World) (hS : TmSee w b 17 nm tx bk r ks rp a c) (hwf : WfT (.mk 17 nm tx bk r ks)) (ih : ∀ x ∈ ks, LwT x) (hl : (tmT 17 nm tx bk r (tkL ks)).length ≤ 800000000) (hT : TabAt w) :
    Calls Tryz.prog 16 #[PT b] w fun e w' => e = .returned (.string (strB (tmT 17 nm tx bk r (tkL ks)))) ∧ Below w.heap.size w w' := by
  obtain ⟨hz1, hz2, hz3⟩ := hwf.sz
  have hlen : ks.length = kidsO 17 := hwf.len
  have hrl : (reT r).length ≤ 1000000 := by
    cases r with
    | none => simp [reT]
    | some q => exact (hwf.re q rfl).2
  have HOF : Hid (Calls Tryz.prog 44 #[rp] w fun e w' => e = .returned (.string (strB (reT r))) ∧ Below w.heap.size w w') := textOf_opt r rp w hS.re hwf.re hT
  have hP : (∃ q, rp = PT q) ∨ rp = .pointer none := by
    have := hS.re
    cases r with
    | none => exact .inr this
    | some r => obtain ⟨p, e, -⟩ := this; exact .inl ⟨p, e⟩
  have hrs : (strB (reT r)).size ≤ 1000000 := by rw [strS_size]; exact hrl
  have has := argS_len r hrl
  have HARG := hide (argS r)
  have zs : (⟨#[47]⟩ : ByteArray).size = 1 := rfl
  have z1 : (⟨#[32]⟩ : ByteArray).size = 1 := rfl
  have c3 := hS.c3 w (Below.refl _ _)
  have c0w := hS.c0 w (Below.refl _ _)
  have HSS := hide hS
  have HT := hide hT
  have HCC : Hid (∀ W, Below w.heap.size w W → W.cell? ⟨b, 0, none⟩ = some (.int .i64 (17 : Nat)) ∧ W.cell? ⟨b, 2, none⟩ = some (.string nm) ∧ W.cell? ⟨b, 4, none⟩ = some (.string tx) ∧ W.cell? ⟨b, 5, none⟩ = some (.string bk) ∧ W.cell? ⟨b, 6, none⟩ = some (.slice a ks.length c)) := fun W h => ⟨hS.c0 W h, hS.c2 W h, hS.c4 W h, hS.c5 W h, hS.c6 W h⟩
  have HE : Hid (tmT 17 nm tx bk r (tkL ks) = wordT 17 ++ restT 17 nm tx bk r) := tmT_leaf _ _ _ _ _ _ (by decide)
  have HQT : Hid (∀ W, Calls Tryz.prog 27 #[.string tx] W fun e w' => e = .returned (.string (strB (quoteT tx))) ∧ Below W.heap.size W w') := fun W => lquote_any tx hz2 W
  have HQB : Hid (∀ W, Calls Tryz.prog 27 #[.string bk] W fun e w' => e = .returned (.string (strB (quoteT bk))) ∧ Below W.heap.size W w') := fun W => lquote_any bk hz3 W
  have hqt : (strB (quoteT tx)).size ≤ 4000002 := by rw [strS_size]; have := quoteT_len tx; omega
  have hqb : (strB (quoteT bk)).size ≤ 4000002 := by rw [strS_size]; have := quoteT_len bk; omega
  have HNM := hide (strS_of nm)
  obtain ⟨QT, hQT⟩ : ∃ QT, QT = strB (quoteT tx) := ⟨_, rfl⟩
  obtain ⟨QB, hQB⟩ : ∃ QB, QB = strB (quoteT bk) := ⟨_, rfl⟩
  rw [← hQT] at HQT hqt
  rw [← hQB] at HQB hqb
  have HQTE := hide hQT
  have HQBE := hide hQB
  clear hQT hQB
  have HEE : Hid (strB (tmT 17 nm tx bk r (tkL ks)) = ⟨#[110, 111, 114, 109, 32]⟩ ++ strB (argT r) ++ ⟨#[32]⟩ ++ QT) := by
    show _ = _
    rw [HE.out, HQTE.out, show (⟨#[110, 111, 114, 109, 32]⟩ : ByteArray) = strB (wordT 17 ++ [32]) from by decide +kernel, show (⟨#[32]⟩ : ByteArray) = strB [32] from by decide +kernel]
    skip
    simp only [← strS_append]
    congr 1
    simp [restT]
  have zl : (⟨#[110, 111, 114, 109, 32]⟩ : ByteArray).size = 5 := rfl
  clear HE
  obtain ⟨T, hTT⟩ : ∃ T, T = strB (tmT 17 nm tx bk r (tkL ks)) := ⟨_, rfl⟩
  rw [← hTT] at HEE ⊢
  obtain ⟨AR, hAR⟩ : ∃ AR, AR = strB (argT r) := ⟨_, rfl⟩
  rw [← hAR] at HARG has HEE
  obtain ⟨RT, hRT⟩ : ∃ RT, RT = strB (reT r) := ⟨_, rfl⟩
  rw [← hRT] at HARG HOF hrs
  have HP := hide hP
  clear hTT hAR hRT hl hwf ih hT hS hP hrl hlen
  obtain ⟨q, rfl⟩ | rfl := HP.out
  all_goals
    try unfold PT at HOF c3
    unfold PT
    go_enter Tryz.func16, Tryz.ntmps16
    go_wp2_with fail
    refine HOF.out.mono ?_
    rintro e w1 ⟨rfl, hb1⟩
    have HB1 := hide hb1
    obtain ⟨x0, x2, x4, x5, x6⟩ := HCC.out w1 hb1
    clear hb1 HOF c3 c0w
    go_wp2_with fail
    all_goals try (exfalso; simp only [ByteArray.size_append] at *; omega)
    refine (HQT.out w1).mono ?_
    rintro e w2 ⟨rfl, hb⟩
    have HB2 := hide (HB1.out.trans (hb.mono HB1.out.size))
    clear hb x0 x2 x4 x5 x6
    go_wp2
    all_goals try (exfalso; simp only [ByteArray.size_append] at *; omega)
    go_ret
    refine ⟨?_, HB2.out⟩
    rw [HEE.out]
    first | rfl | (rw [← HARG.out]; rfl)
end Go.Proofs.YtblpekljiilkjaaGreatDoor
