/- Texts of this claim put together: TmL3, TmL5. -/
import Derived.Test.YtblpekljiilkjaaGreatDoorJoinTmL4
/- Write, op by op. -/
namespace Go.Proofs.YtblpekljiilkjaaGreatDoor
set_option maxRecDepth 100000
set_option linter.unusedSimpArgs false
set_option linter.unusedVariables false
open Go.RowKit Go.Shelf

set_option maxHeartbeats 4000000 in
theorem write_7 (b : Nat) (nm tx bk : ByteArray) (r : Option RE) (ks : List TM) (rp : Value) (a : Option Addr) (c : Nat) (w : World) (hS : TmSee w b 7 nm tx bk r ks rp a c) (hwf : WfT (.mk 7 nm tx bk r ks)) (ih : ∀ x ∈ ks, LwT x) (hl : (tmT 7 nm tx bk r (tkL ks)).length ≤ 800000000) (hT : TabAt w) :
    Calls Tryz.prog 16 #[PT b] w fun e w' => e = .returned (.string (strB (tmT 7 nm tx bk r (tkL ks)))) ∧ Below w.heap.size w w' := by
  obtain ⟨hz1, hz2, hz3⟩ := hwf.sz
  have hlen : ks.length = kidsO 7 := hwf.len
  have hrl : (reT r).length ≤ 1000000 := by
    cases r with
    | none => simp [reT]
    | some q => exact (hwf.re q rfl).2
  have HOF : Hid (Calls Tryz.prog 44 #[rp] w fun e w' => e = .returned (.string (strB (reT r))) ∧ Below w.heap.size w w') := textOf_opt r rp w hS.re hwf.re hT
  have hP : (∃ q, rp = PT q) ∨ rp = .pointer none := by
    have := hS.re
    cases r with
    | none => exact .inr this
    | some r => obtain ⟨p, e, -⟩ := this; exact .inl ⟨p, e⟩
  have hrs : (strB (reT r)).size ≤ 1000000 := by rw [strS_size]; exact hrl
  have has := argS_len r hrl
  have HARG := hide (argS r)
  have zs : (⟨#[47]⟩ : ByteArray).size = 1 := rfl
  have z1 : (⟨#[32]⟩ : ByteArray).size = 1 := rfl
  have c3 := hS.c3 w (Below.refl _ _)
  have c0w := hS.c0 w (Below.refl _ _)
  have HSS := hide hS
  have HT := hide hT
  have HCC : Hid (∀ W, Below w.heap.size w W → W.cell? ⟨b, 0, none⟩ = some (.int .i64 (7 : Nat)) ∧ W.cell? ⟨b, 2, none⟩ = some (.string nm) ∧ W.cell? ⟨b, 4, none⟩ = some (.string tx) ∧ W.cell? ⟨b, 5, none⟩ = some (.string bk) ∧ W.cell? ⟨b, 6, none⟩ = some (.slice a ks.length c)) := fun W h => ⟨hS.c0 W h, hS.c2 W h, hS.c4 W h, hS.c5 W h, hS.c6 W h⟩
  obtain ⟨k0, k1, hks⟩ : ∃ k0 k1, ks = [k0, k1] := by
    have h1 : ks.length = 2 := hlen
    match ks, h1 with
    | [k0, k1], _ => exact ⟨k0, k1, rfl⟩
  subst hks
  have hl0 : k0.txt.length ≤ 800000000 := Nat.le_trans (tmT_ge 7 nm tx bk r [k0, k1] (by decide) k0 (by simp)) hl
  obtain ⟨g0, f0, p0, ha0, hpc0, ht0⟩ := hS.kid 0 (by simp)
  have ht0 : TmAt w p0 k0 := ht0
  have hl1 : k1.txt.length ≤ 800000000 := Nat.le_trans (tmT_ge 7 nm tx bk r [k0, k1] (by decide) k1 (by simp)) hl
  obtain ⟨g1, f1, p1, ha1, hpc1, ht1⟩ := hS.kid 1 (by simp)
  have ht1 : TmAt w p1 k1 := ht1
  subst ha0
  obtain ⟨rfl, rfl⟩ : g0 = g1 ∧ f0 = f1 := by injection ha1 with e; injection e with e1 e2; exact ⟨e1, e2⟩
  clear ha1
  have HK0 : Hid (∀ W, Below w.heap.size w W → Calls Tryz.prog 45 #[PT p0, .int .i64 0] W fun e w' => e = .returned (.string (strB (inT (levT k0.op) 0 k0.txt))) ∧ Below W.heap.size W w') := fun W hW => within_any k0 (hwf.kid k0 (by simp)) (ih k0 (by simp)) p0 0 W (ht0.keep hW) hl0 (hT.onS hW) (by omega)
  have hs0 : (strB (inT (levT k0.op) 0 k0.txt)).size ≤ 800000002 := by rw [strS_size]; have := inT_len (levT k0.op) 0 k0.txt; omega
  obtain ⟨A0, hA0⟩ : ∃ A0, A0 = strB (inT (levT k0.op) 0 k0.txt) := ⟨_, rfl⟩
  have HK1 : Hid (∀ W, Below w.heap.size w W → Calls Tryz.prog 45 #[PT p1, .int .i64 1] W fun e w' => e = .returned (.string (strB (inT (levT k1.op) 1 k1.txt))) ∧ Below W.heap.size W w') := fun W hW => within_any k1 (hwf.kid k1 (by simp)) (ih k1 (by simp)) p1 1 W (ht1.keep hW) hl1 (hT.onS hW) (by omega)
  have hs1 : (strB (inT (levT k1.op) 1 k1.txt)).size ≤ 800000002 := by rw [strS_size]; have := inT_len (levT k1.op) 1 k1.txt; omega
  obtain ⟨A1, hA1⟩ : ∃ A1, A1 = strB (inT (levT k1.op) 1 k1.txt) := ⟨_, rfl⟩
  rw [← hA0] at HK0 hs0
  have HAE0 := hide hA0
  have HPC0 := hide hpc0
  clear hA0 hpc0 ht0 hl0
  rw [← hA1] at HK1 hs1
  have HAE1 := hide hA1
  have HPC1 := hide hpc1
  clear hA1 hpc1 ht1 hl1
  have HE : Hid (strB (tmT 7 nm tx bk r (tkL [k0, k1])) = A0 ++ ⟨#[32, 124, 32]⟩ ++ A1) := by
    show _ = _
    rw [HAE0.out, HAE1.out, tmT_row _ _ _ _ _ _ (by decide) (by decide), show (⟨#[32, 124, 32]⟩ : ByteArray) = strB (tsep 7) from by decide +kernel, ← strS_append, ← strS_append]
    congr 1
    simp only [tkL, List.map_cons, List.map_nil, tkT]
    rw [if_neg (by omega), if_pos (by omega), List.nil_append, List.append_nil, ← List.append_assoc]
    rfl
  have zl : (⟨#[32, 124, 32]⟩ : ByteArray).size = 3 := rfl
  have z41 : (⟨#[41]⟩ : ByteArray).size = 1 := rfl
  have z42 : (⟨#[42]⟩ : ByteArray).size = 1 := rfl
  have z44 : (⟨#[44, 32]⟩ : ByteArray).size = 2 := rfl
  obtain ⟨T, hTT⟩ : ∃ T, T = strB (tmT 7 nm tx bk r (tkL [k0, k1])) := ⟨_, rfl⟩
  rw [← hTT] at HE ⊢
  obtain ⟨AR, hAR⟩ : ∃ AR, AR = strB (argT r) := ⟨_, rfl⟩
  rw [← hAR] at HARG has
  obtain ⟨RT, hRT⟩ : ∃ RT, RT = strB (reT r) := ⟨_, rfl⟩
  rw [← hRT] at HARG HOF hrs
  have HP := hide hP
  clear hTT hAR hRT hl hwf ih hT hS hP hrl hlen
  obtain ⟨q, rfl⟩ | rfl := HP.out
  all_goals
    try unfold PT at HOF c3
    unfold PT
    go_enter Tryz.func16, Tryz.ntmps16
    go_wp2_with fail
    refine HOF.out.mono ?_
    rintro e w1 ⟨rfl, hb1⟩
    have HB1 := hide hb1
    obtain ⟨x0, x2, x4, x5, x6⟩ := HCC.out w1 hb1
    clear hb1 HOF c3 c0w
    go_wp2
    all_goals try (exfalso; simp only [ByteArray.size_append] at *; omega)
    try rw [show Value.pointer (some ⟨b, 0, none⟩) = PT b from rfl]
    try rw [HARG.out]
    obtain ⟨C, hC⟩ : ∃ C : World → Prop, C = fun W => Below w1.heap.size w1 W := ⟨_, rfl⟩
    have HG : Hid (Grows C) := by rw [hC]; exact fun W W' h1 h2 => h1.trans (h2.mono h1.size)
    have HCD : Hid (C { w1 with drawn := w1.drawn + 1 }) := by rw [hC]; exact drewBelow w1
    have HCB : Hid (∀ W, C W → Below w.heap.size w W) := by rw [hC]; exact fun W h => HB1.out.trans (h.mono HB1.out.size)
    clear hC
    have hG := HG.out
    have y4 : ∀ W, C W → W.cell? ⟨b, 4, none⟩ = some (.string tx) := fun W h => (HCC.out W (HCB.out W h)).2.2.1
    have y5 : ∀ W, C W → W.cell? ⟨b, 5, none⟩ = some (.string bk) := fun W h => (HCC.out W (HCB.out W h)).2.2.2.1
    have y6 : ∀ W, C W → W.cell? ⟨b, 6, none⟩ = some (.slice (some ⟨g0, f0, none⟩) 2 c) := fun W h => (HCC.out W (HCB.out W h)).2.2.2.2
    refine w_lit (C := C) (by kernel_rfl) (by kernel_rfl) HCD.out ?_
    refine w_value (PT b) (by kernel_rfl) (fun w hw => x_move _ _ _ _ _ _ _ _ rfl w) ?_
    simp only [Act.put, List.setIfInBounds_toArray, List.set_cons_succ, List.set_cons_zero]
    refine w_value (PT b) (by kernel_rfl) (fun w hw => x_nilCheck _ _ _ _ _ _ _ _ rfl w) ?_
    simp only [Act.put, List.setIfInBounds_toArray, List.set_cons_succ, List.set_cons_zero]
    refine w_value (.pointer (some ⟨b, 6, none⟩)) (by kernel_rfl) (fun w hw => x_tmF6 _ _ _ _ _ _ _ _ rfl w) ?_
    simp only [Act.put, List.setIfInBounds_toArray, List.set_cons_succ, List.set_cons_zero]
    refine w_value (.slice (some ⟨g0, f0, none⟩) 2 c) (by kernel_rfl) (fun w hw => x_tmKids _ _ _ _ _ _ _ _ _ _ rfl w (y6 w hw)) ?_
    simp only [Act.put, List.setIfInBounds_toArray, List.set_cons_succ, List.set_cons_zero]
    refine w_value (.pointer (some ⟨g0, f0 + 0, none⟩)) (by kernel_rfl) (fun w hw => x_tmIdx _ _ _ _ _ _ _ _ _ _ _ _ 0 rfl rfl (by omega) w) ?_
    simp only [Act.put, List.setIfInBounds_toArray, List.set_cons_succ, List.set_cons_zero]
    refine w_value (PT p0) (by kernel_rfl) (fun w hw => x_tmPt _ _ _ _ _ _ _ _ _ _ rfl w (HPC0.out w (HCB.out w hw))) ?_
    simp only [Act.put, List.setIfInBounds_toArray, List.set_cons_succ, List.set_cons_zero]
    refine w_call hG 45 #[PT p0, .int .i64 0] (.string A0) (by kernel_rfl) (fun w => x_call2 _ _ _ _ _ _ _ _ _ _ _ _ _ rfl rfl rfl (enters_of Tryz.func45 (by kernel_rfl) rfl) w) (fun w hw => HK0.out w (HCB.out w hw)) ?_
    simp only [Act.put, List.setIfInBounds_toArray, List.set_cons_succ, List.set_cons_zero]
    refine w_value (.string (A0 ++ ⟨#[32, 124, 32]⟩)) (by kernel_rfl) (fun w hw => x_addSS _ _ _ _ _ _ _ _ (A0) (⟨#[32, 124, 32]⟩) rfl rfl (by (try simp only [ByteArray.size_append]); omega) w) ?_
    simp only [Act.put, List.setIfInBounds_toArray, List.set_cons_succ, List.set_cons_zero]
    refine w_value (PT b) (by kernel_rfl) (fun w hw => x_move _ _ _ _ _ _ _ _ rfl w) ?_
    simp only [Act.put, List.setIfInBounds_toArray, List.set_cons_succ, List.set_cons_zero]
    refine w_value (PT b) (by kernel_rfl) (fun w hw => x_nilCheck _ _ _ _ _ _ _ _ rfl w) ?_
    simp only [Act.put, List.setIfInBounds_toArray, List.set_cons_succ, List.set_cons_zero]
    refine w_value (.pointer (some ⟨b, 6, none⟩)) (by kernel_rfl) (fun w hw => x_tmF6 _ _ _ _ _ _ _ _ rfl w) ?_
    simp only [Act.put, List.setIfInBounds_toArray, List.set_cons_succ, List.set_cons_zero]
    refine w_value (.slice (some ⟨g0, f0, none⟩) 2 c) (by kernel_rfl) (fun w hw => x_tmKids _ _ _ _ _ _ _ _ _ _ rfl w (y6 w hw)) ?_
    simp only [Act.put, List.setIfInBounds_toArray, List.set_cons_succ, List.set_cons_zero]
    refine w_value (.pointer (some ⟨g0, f0 + 1, none⟩)) (by kernel_rfl) (fun w hw => x_tmIdx _ _ _ _ _ _ _ _ _ _ _ _ 1 rfl rfl (by omega) w) ?_
    simp only [Act.put, List.setIfInBounds_toArray, List.set_cons_succ, List.set_cons_zero]
    refine w_value (PT p1) (by kernel_rfl) (fun w hw => x_tmPt _ _ _ _ _ _ _ _ _ _ rfl w (HPC1.out w (HCB.out w hw))) ?_
    simp only [Act.put, List.setIfInBounds_toArray, List.set_cons_succ, List.set_cons_zero]
    refine w_call hG 45 #[PT p1, .int .i64 1] (.string A1) (by kernel_rfl) (fun w => x_call2 _ _ _ _ _ _ _ _ _ _ _ _ _ rfl rfl rfl (enters_of Tryz.func45 (by kernel_rfl) rfl) w) (fun w hw => HK1.out w (HCB.out w hw)) ?_
    simp only [Act.put, List.setIfInBounds_toArray, List.set_cons_succ, List.set_cons_zero]
    refine w_value (.string ((A0 ++ ⟨#[32, 124, 32]⟩) ++ A1)) (by kernel_rfl) (fun w hw => x_addSS _ _ _ _ _ _ _ _ ((A0 ++ ⟨#[32, 124, 32]⟩)) (A1) rfl rfl (by (try simp only [ByteArray.size_append]); omega) w) ?_
    simp only [Act.put, List.setIfInBounds_toArray, List.set_cons_succ, List.set_cons_zero]
    refine w_value (.string ((A0 ++ ⟨#[32, 124, 32]⟩) ++ A1)) (by kernel_rfl) (fun w hw => x_assign _ _ _ _ _ _ _ _ rfl w) ?_
    simp only [Act.put, List.setIfInBounds_toArray, List.set_cons_succ, List.set_cons_zero]
    refine w_nil ?_
    intro W hCW
    have HBW := hide (HCB.out W hCW)
    clear hCW y4 y5 y6 hG
    try unfold PT
    go_wp2
    go_ret
    refine ⟨?_, HBW.out⟩
    rw [HE.out]
    rfl

set_option maxHeartbeats 4000000 in
theorem write_8 (b : Nat) (nm tx bk : ByteArray) (r : Option RE) (ks : List TM) (rp : Value) (a : Option Addr) (c : Nat) (w : World) (hS : TmSee w b 8 nm tx bk r ks rp a c) (hwf : WfT (.mk 8 nm tx bk r ks)) (ih : ∀ x ∈ ks, LwT x) (hl : (tmT 8 nm tx bk r (tkL ks)).length ≤ 800000000) (hT : TabAt w) :
    Calls Tryz.prog 16 #[PT b] w fun e w' => e = .returned (.string (strB (tmT 8 nm tx bk r (tkL ks)))) ∧ Below w.heap.size w w' := by
  obtain ⟨hz1, hz2, hz3⟩ := hwf.sz
  have hlen : ks.length = kidsO 8 := hwf.len
  have hrl : (reT r).length ≤ 1000000 := by
    cases r with
    | none => simp [reT]
    | some q => exact (hwf.re q rfl).2
  have HOF : Hid (Calls Tryz.prog 44 #[rp] w fun e w' => e = .returned (.string (strB (reT r))) ∧ Below w.heap.size w w') := textOf_opt r rp w hS.re hwf.re hT
  have hP : (∃ q, rp = PT q) ∨ rp = .pointer none := by
    have := hS.re
    cases r with
    | none => exact .inr this
    | some r => obtain ⟨p, e, -⟩ := this; exact .inl ⟨p, e⟩
  have hrs : (strB (reT r)).size ≤ 1000000 := by rw [strS_size]; exact hrl
  have has := argS_len r hrl
  have HARG := hide (argS r)
  have zs : (⟨#[47]⟩ : ByteArray).size = 1 := rfl
  have z1 : (⟨#[32]⟩ : ByteArray).size = 1 := rfl
  have c3 := hS.c3 w (Below.refl _ _)
  have c0w := hS.c0 w (Below.refl _ _)
  have HSS := hide hS
  have HT := hide hT
  have HCC : Hid (∀ W, Below w.heap.size w W → W.cell? ⟨b, 0, none⟩ = some (.int .i64 (8 : Nat)) ∧ W.cell? ⟨b, 2, none⟩ = some (.string nm) ∧ W.cell? ⟨b, 4, none⟩ = some (.string tx) ∧ W.cell? ⟨b, 5, none⟩ = some (.string bk) ∧ W.cell? ⟨b, 6, none⟩ = some (.slice a ks.length c)) := fun W h => ⟨hS.c0 W h, hS.c2 W h, hS.c4 W h, hS.c5 W h, hS.c6 W h⟩
  obtain ⟨k0, k1, hks⟩ : ∃ k0 k1, ks = [k0, k1] := by
    have h1 : ks.length = 2 := hlen
    match ks, h1 with
    | [k0, k1], _ => exact ⟨k0, k1, rfl⟩
  subst hks
  have hl0 : k0.txt.length ≤ 800000000 := Nat.le_trans (tmT_ge 8 nm tx bk r [k0, k1] (by decide) k0 (by simp)) hl
  obtain ⟨g0, f0, p0, ha0, hpc0, ht0⟩ := hS.kid 0 (by simp)
  have ht0 : TmAt w p0 k0 := ht0
  have hl1 : k1.txt.length ≤ 800000000 := Nat.le_trans (tmT_ge 8 nm tx bk r [k0, k1] (by decide) k1 (by simp)) hl
  obtain ⟨g1, f1, p1, ha1, hpc1, ht1⟩ := hS.kid 1 (by simp)
  have ht1 : TmAt w p1 k1 := ht1
  subst ha0
  obtain ⟨rfl, rfl⟩ : g0 = g1 ∧ f0 = f1 := by injection ha1 with e; injection e with e1 e2; exact ⟨e1, e2⟩
  clear ha1
  have HK0 : Hid (∀ W, Below w.heap.size w W → Calls Tryz.prog 45 #[PT p0, .int .i64 1] W fun e w' => e = .returned (.string (strB (inT (levT k0.op) 1 k0.txt))) ∧ Below W.heap.size W w') := fun W hW => within_any k0 (hwf.kid k0 (by simp)) (ih k0 (by simp)) p0 1 W (ht0.keep hW) hl0 (hT.onS hW) (by omega)
  have hs0 : (strB (inT (levT k0.op) 1 k0.txt)).size ≤ 800000002 := by rw [strS_size]; have := inT_len (levT k0.op) 1 k0.txt; omega
  obtain ⟨A0, hA0⟩ : ∃ A0, A0 = strB (inT (levT k0.op) 1 k0.txt) := ⟨_, rfl⟩
  have HK1 : Hid (∀ W, Below w.heap.size w W → Calls Tryz.prog 45 #[PT p1, .int .i64 2] W fun e w' => e = .returned (.string (strB (inT (levT k1.op) 2 k1.txt))) ∧ Below W.heap.size W w') := fun W hW => within_any k1 (hwf.kid k1 (by simp)) (ih k1 (by simp)) p1 2 W (ht1.keep hW) hl1 (hT.onS hW) (by omega)
  have hs1 : (strB (inT (levT k1.op) 2 k1.txt)).size ≤ 800000002 := by rw [strS_size]; have := inT_len (levT k1.op) 2 k1.txt; omega
  obtain ⟨A1, hA1⟩ : ∃ A1, A1 = strB (inT (levT k1.op) 2 k1.txt) := ⟨_, rfl⟩
  rw [← hA0] at HK0 hs0
  have HAE0 := hide hA0
  have HPC0 := hide hpc0
  clear hA0 hpc0 ht0 hl0
  rw [← hA1] at HK1 hs1
  have HAE1 := hide hA1
  have HPC1 := hide hpc1
  clear hA1 hpc1 ht1 hl1
  have HE : Hid (strB (tmT 8 nm tx bk r (tkL [k0, k1])) = A0 ++ ⟨#[32, 46, 32]⟩ ++ A1) := by
    show _ = _
    rw [HAE0.out, HAE1.out, tmT_row _ _ _ _ _ _ (by decide) (by decide), show (⟨#[32, 46, 32]⟩ : ByteArray) = strB (tsep 8) from by decide +kernel, ← strS_append, ← strS_append]
    congr 1
    simp only [tkL, List.map_cons, List.map_nil, tkT]
    rw [if_neg (by omega), if_pos (by omega), List.nil_append, List.append_nil, ← List.append_assoc]
    rfl
  have zl : (⟨#[32, 46, 32]⟩ : ByteArray).size = 3 := rfl
  have z41 : (⟨#[41]⟩ : ByteArray).size = 1 := rfl
  have z42 : (⟨#[42]⟩ : ByteArray).size = 1 := rfl
  have z44 : (⟨#[44, 32]⟩ : ByteArray).size = 2 := rfl
  obtain ⟨T, hTT⟩ : ∃ T, T = strB (tmT 8 nm tx bk r (tkL [k0, k1])) := ⟨_, rfl⟩
  rw [← hTT] at HE ⊢
  obtain ⟨AR, hAR⟩ : ∃ AR, AR = strB (argT r) := ⟨_, rfl⟩
  rw [← hAR] at HARG has
  obtain ⟨RT, hRT⟩ : ∃ RT, RT = strB (reT r) := ⟨_, rfl⟩
  rw [← hRT] at HARG HOF hrs
  have HP := hide hP
  clear hTT hAR hRT hl hwf ih hT hS hP hrl hlen
  obtain ⟨q, rfl⟩ | rfl := HP.out
  all_goals
    try unfold PT at HOF c3
    unfold PT
    go_enter Tryz.func16, Tryz.ntmps16
    go_wp2_with fail
    refine HOF.out.mono ?_
    rintro e w1 ⟨rfl, hb1⟩
    have HB1 := hide hb1
    obtain ⟨x0, x2, x4, x5, x6⟩ := HCC.out w1 hb1
    clear hb1 HOF c3 c0w
    go_wp2
    all_goals try (exfalso; simp only [ByteArray.size_append] at *; omega)
    try rw [show Value.pointer (some ⟨b, 0, none⟩) = PT b from rfl]
    try rw [HARG.out]
    obtain ⟨C, hC⟩ : ∃ C : World → Prop, C = fun W => Below w1.heap.size w1 W := ⟨_, rfl⟩
    have HG : Hid (Grows C) := by rw [hC]; exact fun W W' h1 h2 => h1.trans (h2.mono h1.size)
    have HCD : Hid (C { w1 with drawn := w1.drawn + 1 }) := by rw [hC]; exact drewBelow w1
    have HCB : Hid (∀ W, C W → Below w.heap.size w W) := by rw [hC]; exact fun W h => HB1.out.trans (h.mono HB1.out.size)
    clear hC
    have hG := HG.out
    have y4 : ∀ W, C W → W.cell? ⟨b, 4, none⟩ = some (.string tx) := fun W h => (HCC.out W (HCB.out W h)).2.2.1
    have y5 : ∀ W, C W → W.cell? ⟨b, 5, none⟩ = some (.string bk) := fun W h => (HCC.out W (HCB.out W h)).2.2.2.1
    have y6 : ∀ W, C W → W.cell? ⟨b, 6, none⟩ = some (.slice (some ⟨g0, f0, none⟩) 2 c) := fun W h => (HCC.out W (HCB.out W h)).2.2.2.2
    refine w_lit (C := C) (by kernel_rfl) (by kernel_rfl) HCD.out ?_
    refine w_value (PT b) (by kernel_rfl) (fun w hw => x_move _ _ _ _ _ _ _ _ rfl w) ?_
    simp only [Act.put, List.setIfInBounds_toArray, List.set_cons_succ, List.set_cons_zero]
    refine w_value (PT b) (by kernel_rfl) (fun w hw => x_nilCheck _ _ _ _ _ _ _ _ rfl w) ?_
    simp only [Act.put, List.setIfInBounds_toArray, List.set_cons_succ, List.set_cons_zero]
    refine w_value (.pointer (some ⟨b, 6, none⟩)) (by kernel_rfl) (fun w hw => x_tmF6 _ _ _ _ _ _ _ _ rfl w) ?_
    simp only [Act.put, List.setIfInBounds_toArray, List.set_cons_succ, List.set_cons_zero]
    refine w_value (.slice (some ⟨g0, f0, none⟩) 2 c) (by kernel_rfl) (fun w hw => x_tmKids _ _ _ _ _ _ _ _ _ _ rfl w (y6 w hw)) ?_
    simp only [Act.put, List.setIfInBounds_toArray, List.set_cons_succ, List.set_cons_zero]
    refine w_value (.pointer (some ⟨g0, f0 + 0, none⟩)) (by kernel_rfl) (fun w hw => x_tmIdx _ _ _ _ _ _ _ _ _ _ _ _ 0 rfl rfl (by omega) w) ?_
    simp only [Act.put, List.setIfInBounds_toArray, List.set_cons_succ, List.set_cons_zero]
    refine w_value (PT p0) (by kernel_rfl) (fun w hw => x_tmPt _ _ _ _ _ _ _ _ _ _ rfl w (HPC0.out w (HCB.out w hw))) ?_
    simp only [Act.put, List.setIfInBounds_toArray, List.set_cons_succ, List.set_cons_zero]
    refine w_call hG 45 #[PT p0, .int .i64 1] (.string A0) (by kernel_rfl) (fun w => x_call2 _ _ _ _ _ _ _ _ _ _ _ _ _ rfl rfl rfl (enters_of Tryz.func45 (by kernel_rfl) rfl) w) (fun w hw => HK0.out w (HCB.out w hw)) ?_
    simp only [Act.put, List.setIfInBounds_toArray, List.set_cons_succ, List.set_cons_zero]
    refine w_value (.string (A0 ++ ⟨#[32, 46, 32]⟩)) (by kernel_rfl) (fun w hw => x_addSS _ _ _ _ _ _ _ _ (A0) (⟨#[32, 46, 32]⟩) rfl rfl (by (try simp only [ByteArray.size_append]); omega) w) ?_
    simp only [Act.put, List.setIfInBounds_toArray, List.set_cons_succ, List.set_cons_zero]
    refine w_value (PT b) (by kernel_rfl) (fun w hw => x_move _ _ _ _ _ _ _ _ rfl w) ?_
    simp only [Act.put, List.setIfInBounds_toArray, List.set_cons_succ, List.set_cons_zero]
    refine w_value (PT b) (by kernel_rfl) (fun w hw => x_nilCheck _ _ _ _ _ _ _ _ rfl w) ?_
    simp only [Act.put, List.setIfInBounds_toArray, List.set_cons_succ, List.set_cons_zero]
    refine w_value (.pointer (some ⟨b, 6, none⟩)) (by kernel_rfl) (fun w hw => x_tmF6 _ _ _ _ _ _ _ _ rfl w) ?_
    simp only [Act.put, List.setIfInBounds_toArray, List.set_cons_succ, List.set_cons_zero]
    refine w_value (.slice (some ⟨g0, f0, none⟩) 2 c) (by kernel_rfl) (fun w hw => x_tmKids _ _ _ _ _ _ _ _ _ _ rfl w (y6 w hw)) ?_
    simp only [Act.put, List.setIfInBounds_toArray, List.set_cons_succ, List.set_cons_zero]
    refine w_value (.pointer (some ⟨g0, f0 + 1, none⟩)) (by kernel_rfl) (fun w hw => x_tmIdx _ _ _ _ _ _ _ _ _ _ _ _ 1 rfl rfl (by omega) w) ?_
    simp only [Act.put, List.setIfInBounds_toArray, List.set_cons_succ, List.set_cons_zero]
    refine w_value (PT p1) (by kernel_rfl) (fun w hw => x_tmPt _ _ _ _ _ _ _ _ _ _ rfl w (HPC1.out w (HCB.out w hw))) ?_
    simp only [Act.put, List.setIfInBounds_toArray, List.set_cons_succ, List.set_cons_zero]
    refine w_call hG 45 #[PT p1, .int .i64 2] (.string A1) (by kernel_rfl) (fun w => x_call2 _ _ _ _ _ _ _ _ _ _ _ _ _ rfl rfl rfl (enters_of Tryz.func45 (by kernel_rfl) rfl) w) (fun w hw => HK1.out w (HCB.out w hw)) ?_
    simp only [Act.put, List.setIfInBounds_toArray, List.set_cons_succ, List.set_cons_zero]
    refine w_value (.string ((A0 ++ ⟨#[32, 46, 32]⟩) ++ A1)) (by kernel_rfl) (fun w hw => x_addSS _ _ _ _ _ _ _ _ ((A0 ++ ⟨#[32, 46, 32]⟩)) (A1) rfl rfl (by (try simp only [ByteArray.size_append]); omega) w) ?_
    simp only [Act.put, List.setIfInBounds_toArray, List.set_cons_succ, List.set_cons_zero]
    refine w_value (.string ((A0 ++ ⟨#[32, 46, 32]⟩) ++ A1)) (by kernel_rfl) (fun w hw => x_assign _ _ _ _ _ _ _ _ rfl w) ?_
    simp only [Act.put, List.setIfInBounds_toArray, List.set_cons_succ, List.set_cons_zero]
    refine w_nil ?_
    intro W hCW
    have HBW := hide (HCB.out W hCW)
    clear hCW y4 y5 y6 hG
    try unfold PT
    go_wp2
    go_ret
    refine ⟨?_, HBW.out⟩
    rw [HE.out]
    rfl

set_option maxHeartbeats 4000000 in
theorem write_11 (b : Nat) (nm tx bk : ByteArray) (r : Option RE) (ks : List TM) (rp : Value) (a : Option Addr) (c : Nat) (w : World) (hS : TmSee w b 11 nm tx bk r ks rp a c) (hwf : WfT (.mk 11 nm tx bk r ks)) (ih : ∀ x ∈ ks, LwT x) (hl : (tmT 11 nm tx bk r (tkL ks)).length ≤ 800000000) (hT : TabAt w) :
    Calls Tryz.prog 16 #[PT b] w fun e w' => e = .returned (.string (strB (tmT 11 nm tx bk r (tkL ks)))) ∧ Below w.heap.size w w' := by
  obtain ⟨hz1, hz2, hz3⟩ := hwf.sz
  have hlen : ks.length = kidsO 11 := hwf.len
  have hrl : (reT r).length ≤ 1000000 := by
    cases r with
    | none => simp [reT]
    | some q => exact (hwf.re q rfl).2
  have HOF : Hid (Calls Tryz.prog 44 #[rp] w fun e w' => e = .returned (.string (strB (reT r))) ∧ Below w.heap.size w w') := textOf_opt r rp w hS.re hwf.re hT
  have hP : (∃ q, rp = PT q) ∨ rp = .pointer none := by
    have := hS.re
    cases r with
    | none => exact .inr this
    | some r => obtain ⟨p, e, -⟩ := this; exact .inl ⟨p, e⟩
  have hrs : (strB (reT r)).size ≤ 1000000 := by rw [strS_size]; exact hrl
  have has := argS_len r hrl
  have HARG := hide (argS r)
  have zs : (⟨#[47]⟩ : ByteArray).size = 1 := rfl
  have z1 : (⟨#[32]⟩ : ByteArray).size = 1 := rfl
  have c3 := hS.c3 w (Below.refl _ _)
  have c0w := hS.c0 w (Below.refl _ _)
  have HSS := hide hS
  have HT := hide hT
  have HCC : Hid (∀ W, Below w.heap.size w W → W.cell? ⟨b, 0, none⟩ = some (.int .i64 (11 : Nat)) ∧ W.cell? ⟨b, 2, none⟩ = some (.string nm) ∧ W.cell? ⟨b, 4, none⟩ = some (.string tx) ∧ W.cell? ⟨b, 5, none⟩ = some (.string bk) ∧ W.cell? ⟨b, 6, none⟩ = some (.slice a ks.length c)) := fun W h => ⟨hS.c0 W h, hS.c2 W h, hS.c4 W h, hS.c5 W h, hS.c6 W h⟩
  obtain ⟨k0, k1, hks⟩ : ∃ k0 k1, ks = [k0, k1] := by
    have h1 : ks.length = 2 := hlen
    match ks, h1 with
    | [k0, k1], _ => exact ⟨k0, k1, rfl⟩
  subst hks
  have hl0 : k0.txt.length ≤ 800000000 := Nat.le_trans (tmT_ge 11 nm tx bk r [k0, k1] (by decide) k0 (by simp)) hl
  obtain ⟨g0, f0, p0, ha0, hpc0, ht0⟩ := hS.kid 0 (by simp)
  have ht0 : TmAt w p0 k0 := ht0
  have hl1 : k1.txt.length ≤ 800000000 := Nat.le_trans (tmT_ge 11 nm tx bk r [k0, k1] (by decide) k1 (by simp)) hl
  obtain ⟨g1, f1, p1, ha1, hpc1, ht1⟩ := hS.kid 1 (by simp)
  have ht1 : TmAt w p1 k1 := ht1
  subst ha0
  obtain ⟨rfl, rfl⟩ : g0 = g1 ∧ f0 = f1 := by injection ha1 with e; injection e with e1 e2; exact ⟨e1, e2⟩
  clear ha1
  have HK0 : Hid (∀ W, Below w.heap.size w W → Calls Tryz.prog 45 #[PT p0, .int .i64 2] W fun e w' => e = .returned (.string (strB (inT (levT k0.op) 2 k0.txt))) ∧ Below W.heap.size W w') := fun W hW => within_any k0 (hwf.kid k0 (by simp)) (ih k0 (by simp)) p0 2 W (ht0.keep hW) hl0 (hT.onS hW) (by omega)
  have hs0 : (strB (inT (levT k0.op) 2 k0.txt)).size ≤ 800000002 := by rw [strS_size]; have := inT_len (levT k0.op) 2 k0.txt; omega
  obtain ⟨A0, hA0⟩ : ∃ A0, A0 = strB (inT (levT k0.op) 2 k0.txt) := ⟨_, rfl⟩
  have HK1 : Hid (∀ W, Below w.heap.size w W → Calls Tryz.prog 45 #[PT p1, .int .i64 3] W fun e w' => e = .returned (.string (strB (inT (levT k1.op) 3 k1.txt))) ∧ Below W.heap.size W w') := fun W hW => within_any k1 (hwf.kid k1 (by simp)) (ih k1 (by simp)) p1 3 W (ht1.keep hW) hl1 (hT.onS hW) (by omega)
  have hs1 : (strB (inT (levT k1.op) 3 k1.txt)).size ≤ 800000002 := by rw [strS_size]; have := inT_len (levT k1.op) 3 k1.txt; omega
  obtain ⟨A1, hA1⟩ : ∃ A1, A1 = strB (inT (levT k1.op) 3 k1.txt) := ⟨_, rfl⟩
  rw [← hA0] at HK0 hs0
  have HAE0 := hide hA0
  have HPC0 := hide hpc0
  clear hA0 hpc0 ht0 hl0
  rw [← hA1] at HK1 hs1
  have HAE1 := hide hA1
  have HPC1 := hide hpc1
  clear hA1 hpc1 ht1 hl1
  have HE : Hid (strB (tmT 11 nm tx bk r (tkL [k0, k1])) = A0 ++ ⟨#[32, 59, 32]⟩ ++ A1) := by
    show _ = _
    rw [HAE0.out, HAE1.out, tmT_row _ _ _ _ _ _ (by decide) (by decide), show (⟨#[32, 59, 32]⟩ : ByteArray) = strB (tsep 11) from by decide +kernel, ← strS_append, ← strS_append]
    congr 1
    simp only [tkL, List.map_cons, List.map_nil, tkT]
    rw [if_neg (by omega), if_pos (by omega), List.nil_append, List.append_nil, ← List.append_assoc]
    rfl
  have zl : (⟨#[32, 59, 32]⟩ : ByteArray).size = 3 := rfl
  have z41 : (⟨#[41]⟩ : ByteArray).size = 1 := rfl
  have z42 : (⟨#[42]⟩ : ByteArray).size = 1 := rfl
  have z44 : (⟨#[44, 32]⟩ : ByteArray).size = 2 := rfl
  obtain ⟨T, hTT⟩ : ∃ T, T = strB (tmT 11 nm tx bk r (tkL [k0, k1])) := ⟨_, rfl⟩
  rw [← hTT] at HE ⊢
  obtain ⟨AR, hAR⟩ : ∃ AR, AR = strB (argT r) := ⟨_, rfl⟩
  rw [← hAR] at HARG has
  obtain ⟨RT, hRT⟩ : ∃ RT, RT = strB (reT r) := ⟨_, rfl⟩
  rw [← hRT] at HARG HOF hrs
  have HP := hide hP
  clear hTT hAR hRT hl hwf ih hT hS hP hrl hlen
  obtain ⟨q, rfl⟩ | rfl := HP.out
  all_goals
    try unfold PT at HOF c3
    unfold PT
    go_enter Tryz.func16, Tryz.ntmps16
    go_wp2_with fail
    refine HOF.out.mono ?_
    rintro e w1 ⟨rfl, hb1⟩
    have HB1 := hide hb1
    obtain ⟨x0, x2, x4, x5, x6⟩ := HCC.out w1 hb1
    clear hb1 HOF c3 c0w
    go_wp2
    all_goals try (exfalso; simp only [ByteArray.size_append] at *; omega)
    try rw [show Value.pointer (some ⟨b, 0, none⟩) = PT b from rfl]
    try rw [HARG.out]
    obtain ⟨C, hC⟩ : ∃ C : World → Prop, C = fun W => Below w1.heap.size w1 W := ⟨_, rfl⟩
    have HG : Hid (Grows C) := by rw [hC]; exact fun W W' h1 h2 => h1.trans (h2.mono h1.size)
    have HCD : Hid (C { w1 with drawn := w1.drawn + 1 }) := by rw [hC]; exact drewBelow w1
    have HCB : Hid (∀ W, C W → Below w.heap.size w W) := by rw [hC]; exact fun W h => HB1.out.trans (h.mono HB1.out.size)
    clear hC
    have hG := HG.out
    have y4 : ∀ W, C W → W.cell? ⟨b, 4, none⟩ = some (.string tx) := fun W h => (HCC.out W (HCB.out W h)).2.2.1
    have y5 : ∀ W, C W → W.cell? ⟨b, 5, none⟩ = some (.string bk) := fun W h => (HCC.out W (HCB.out W h)).2.2.2.1
    have y6 : ∀ W, C W → W.cell? ⟨b, 6, none⟩ = some (.slice (some ⟨g0, f0, none⟩) 2 c) := fun W h => (HCC.out W (HCB.out W h)).2.2.2.2
    refine w_lit (C := C) (by kernel_rfl) (by kernel_rfl) HCD.out ?_
    refine w_value (PT b) (by kernel_rfl) (fun w hw => x_move _ _ _ _ _ _ _ _ rfl w) ?_
    simp only [Act.put, List.setIfInBounds_toArray, List.set_cons_succ, List.set_cons_zero]
    refine w_value (PT b) (by kernel_rfl) (fun w hw => x_nilCheck _ _ _ _ _ _ _ _ rfl w) ?_
    simp only [Act.put, List.setIfInBounds_toArray, List.set_cons_succ, List.set_cons_zero]
    refine w_value (.pointer (some ⟨b, 6, none⟩)) (by kernel_rfl) (fun w hw => x_tmF6 _ _ _ _ _ _ _ _ rfl w) ?_
    simp only [Act.put, List.setIfInBounds_toArray, List.set_cons_succ, List.set_cons_zero]
    refine w_value (.slice (some ⟨g0, f0, none⟩) 2 c) (by kernel_rfl) (fun w hw => x_tmKids _ _ _ _ _ _ _ _ _ _ rfl w (y6 w hw)) ?_
    simp only [Act.put, List.setIfInBounds_toArray, List.set_cons_succ, List.set_cons_zero]
    refine w_value (.pointer (some ⟨g0, f0 + 0, none⟩)) (by kernel_rfl) (fun w hw => x_tmIdx _ _ _ _ _ _ _ _ _ _ _ _ 0 rfl rfl (by omega) w) ?_
    simp only [Act.put, List.setIfInBounds_toArray, List.set_cons_succ, List.set_cons_zero]
    refine w_value (PT p0) (by kernel_rfl) (fun w hw => x_tmPt _ _ _ _ _ _ _ _ _ _ rfl w (HPC0.out w (HCB.out w hw))) ?_
    simp only [Act.put, List.setIfInBounds_toArray, List.set_cons_succ, List.set_cons_zero]
    refine w_call hG 45 #[PT p0, .int .i64 2] (.string A0) (by kernel_rfl) (fun w => x_call2 _ _ _ _ _ _ _ _ _ _ _ _ _ rfl rfl rfl (enters_of Tryz.func45 (by kernel_rfl) rfl) w) (fun w hw => HK0.out w (HCB.out w hw)) ?_
    simp only [Act.put, List.setIfInBounds_toArray, List.set_cons_succ, List.set_cons_zero]
    refine w_value (.string (A0 ++ ⟨#[32, 59, 32]⟩)) (by kernel_rfl) (fun w hw => x_addSS _ _ _ _ _ _ _ _ (A0) (⟨#[32, 59, 32]⟩) rfl rfl (by (try simp only [ByteArray.size_append]); omega) w) ?_
    simp only [Act.put, List.setIfInBounds_toArray, List.set_cons_succ, List.set_cons_zero]
    refine w_value (PT b) (by kernel_rfl) (fun w hw => x_move _ _ _ _ _ _ _ _ rfl w) ?_
    simp only [Act.put, List.setIfInBounds_toArray, List.set_cons_succ, List.set_cons_zero]
    refine w_value (PT b) (by kernel_rfl) (fun w hw => x_nilCheck _ _ _ _ _ _ _ _ rfl w) ?_
    simp only [Act.put, List.setIfInBounds_toArray, List.set_cons_succ, List.set_cons_zero]
    refine w_value (.pointer (some ⟨b, 6, none⟩)) (by kernel_rfl) (fun w hw => x_tmF6 _ _ _ _ _ _ _ _ rfl w) ?_
    simp only [Act.put, List.setIfInBounds_toArray, List.set_cons_succ, List.set_cons_zero]
    refine w_value (.slice (some ⟨g0, f0, none⟩) 2 c) (by kernel_rfl) (fun w hw => x_tmKids _ _ _ _ _ _ _ _ _ _ rfl w (y6 w hw)) ?_
    simp only [Act.put, List.setIfInBounds_toArray, List.set_cons_succ, List.set_cons_zero]
    refine w_value (.pointer (some ⟨g0, f0 + 1, none⟩)) (by kernel_rfl) (fun w hw => x_tmIdx _ _ _ _ _ _ _ _ _ _ _ _ 1 rfl rfl (by omega) w) ?_
    simp only [Act.put, List.setIfInBounds_toArray, List.set_cons_succ, List.set_cons_zero]
    refine w_value (PT p1) (by kernel_rfl) (fun w hw => x_tmPt _ _ _ _ _ _ _ _ _ _ rfl w (HPC1.out w (HCB.out w hw))) ?_
    simp only [Act.put, List.setIfInBounds_toArray, List.set_cons_succ, List.set_cons_zero]
    refine w_call hG 45 #[PT p1, .int .i64 3] (.string A1) (by kernel_rfl) (fun w => x_call2 _ _ _ _ _ _ _ _ _ _ _ _ _ rfl rfl rfl (enters_of Tryz.func45 (by kernel_rfl) rfl) w) (fun w hw => HK1.out w (HCB.out w hw)) ?_
    simp only [Act.put, List.setIfInBounds_toArray, List.set_cons_succ, List.set_cons_zero]
    refine w_value (.string ((A0 ++ ⟨#[32, 59, 32]⟩) ++ A1)) (by kernel_rfl) (fun w hw => x_addSS _ _ _ _ _ _ _ _ ((A0 ++ ⟨#[32, 59, 32]⟩)) (A1) rfl rfl (by (try simp only [ByteArray.size_append]); omega) w) ?_
    simp only [Act.put, List.setIfInBounds_toArray, List.set_cons_succ, List.set_cons_zero]
    refine w_value (.string ((A0 ++ ⟨#[32, 59, 32]⟩) ++ A1)) (by kernel_rfl) (fun w hw => x_assign _ _ _ _ _ _ _ _ rfl w) ?_
    simp only [Act.put, List.setIfInBounds_toArray, List.set_cons_succ, List.set_cons_zero]
    refine w_nil ?_
    intro W hCW
    have HBW := hide (HCB.out W hCW)
    clear hCW y4 y5 y6 hG
    try unfold PT
    go_wp2
    go_ret
    refine ⟨?_, HBW.out⟩
    rw [HE.out]
    rfl
end Go.Proofs.YtblpekljiilkjaaGreatDoor
/- Write, op by op. -/
namespace Go.Proofs.YtblpekljiilkjaaGreatDoor
set_option maxRecDepth 100000
set_option linter.unusedSimpArgs false
set_option linter.unusedVariables false
open Go.RowKit Go.Shelf

set_option maxHeartbeats 4000000 in
theorem write_10 (b : Nat) (nm tx bk : ByteArray) (r : Option RE) (ks : List TM) (rp : Value) (a : Option Addr) (c : Nat) (w : World) (hS : TmSee w b 10 nm tx bk r ks rp a c) (hwf : WfT (.mk 10 nm tx bk r ks)) (ih : ∀ x ∈ ks, LwT x) (hl : (tmT 10 nm tx bk r (tkL ks)).length ≤ 800000000) (hT : TabAt w) :
    Calls Tryz.prog 16 #[PT b] w fun e w' => e = .returned (.string (strB (tmT 10 nm tx bk r (tkL ks)))) ∧ Below w.heap.size w w' := by
  obtain ⟨hz1, hz2, hz3⟩ := hwf.sz
  have hlen : ks.length = kidsO 10 := hwf.len
  have hrl : (reT r).length ≤ 1000000 := by
    cases r with
    | none => simp [reT]
    | some q => exact (hwf.re q rfl).2
  have HOF : Hid (Calls Tryz.prog 44 #[rp] w fun e w' => e = .returned (.string (strB (reT r))) ∧ Below w.heap.size w w') := textOf_opt r rp w hS.re hwf.re hT
  have hP : (∃ q, rp = PT q) ∨ rp = .pointer none := by
    have := hS.re
    cases r with
    | none => exact .inr this
    | some r => obtain ⟨p, e, -⟩ := this; exact .inl ⟨p, e⟩
  have hrs : (strB (reT r)).size ≤ 1000000 := by rw [strS_size]; exact hrl
  have has := argS_len r hrl
  have HARG := hide (argS r)
  have zs : (⟨#[47]⟩ : ByteArray).size = 1 := rfl
  have z1 : (⟨#[32]⟩ : ByteArray).size = 1 := rfl
  have c3 := hS.c3 w (Below.refl _ _)
  have c0w := hS.c0 w (Below.refl _ _)
  have HSS := hide hS
  have HT := hide hT
  have HCC : Hid (∀ W, Below w.heap.size w W → W.cell? ⟨b, 0, none⟩ = some (.int .i64 (10 : Nat)) ∧ W.cell? ⟨b, 2, none⟩ = some (.string nm) ∧ W.cell? ⟨b, 4, none⟩ = some (.string tx) ∧ W.cell? ⟨b, 5, none⟩ = some (.string bk) ∧ W.cell? ⟨b, 6, none⟩ = some (.slice a ks.length c)) := fun W h => ⟨hS.c0 W h, hS.c2 W h, hS.c4 W h, hS.c5 W h, hS.c6 W h⟩
  obtain ⟨k0, k1, hks⟩ : ∃ k0 k1, ks = [k0, k1] := by
    have h1 : ks.length = 2 := hlen
    match ks, h1 with
    | [k0, k1], _ => exact ⟨k0, k1, rfl⟩
  subst hks
  have hl0 : k0.txt.length ≤ 800000000 := Nat.le_trans (tmT_ge 10 nm tx bk r [k0, k1] (by decide) k0 (by simp)) hl
  obtain ⟨g0, f0, p0, ha0, hpc0, ht0⟩ := hS.kid 0 (by simp)
  have ht0 : TmAt w p0 k0 := ht0
  have hl1 : k1.txt.length ≤ 800000000 := Nat.le_trans (tmT_ge 10 nm tx bk r [k0, k1] (by decide) k1 (by simp)) hl
  obtain ⟨g1, f1, p1, ha1, hpc1, ht1⟩ := hS.kid 1 (by simp)
  have ht1 : TmAt w p1 k1 := ht1
  subst ha0
  obtain ⟨rfl, rfl⟩ : g0 = g1 ∧ f0 = f1 := by injection ha1 with e; injection e with e1 e2; exact ⟨e1, e2⟩
  clear ha1
  have HK0 : Hid (∀ W, Below w.heap.size w W → Calls Tryz.prog 16 #[PT p0] W fun e w' => e = .returned (.string (strB k0.txt)) ∧ Below W.heap.size W w') := fun W hW => ih k0 (by simp) p0 W (ht0.keep hW) hl0 (hT.onS hW)
  have hs0 : (strB k0.txt).size ≤ 800000002 := by rw [strS_size]; omega
  obtain ⟨A0, hA0⟩ : ∃ A0, A0 = strB k0.txt := ⟨_, rfl⟩
  have HK1 : Hid (∀ W, Below w.heap.size w W → Calls Tryz.prog 16 #[PT p1] W fun e w' => e = .returned (.string (strB k1.txt)) ∧ Below W.heap.size W w') := fun W hW => ih k1 (by simp) p1 W (ht1.keep hW) hl1 (hT.onS hW)
  have hs1 : (strB k1.txt).size ≤ 800000002 := by rw [strS_size]; omega
  obtain ⟨A1, hA1⟩ : ∃ A1, A1 = strB k1.txt := ⟨_, rfl⟩
  rw [← hA0] at HK0 hs0
  have HAE0 := hide hA0
  have HPC0 := hide hpc0
  clear hA0 hpc0 ht0 hl0
  rw [← hA1] at HK1 hs1
  have HAE1 := hide hA1
  have HPC1 := hide hpc1
  clear hA1 hpc1 ht1 hl1
  have HE : Hid (strB (tmT 10 nm tx bk r (tkL [k0, k1])) = ⟨#[115, 119, 97, 112, 40]⟩ ++ A0 ++ ⟨#[44, 32]⟩ ++ A1 ++ ⟨#[41]⟩) := by
    show _ = _
    rw [HAE0.out, HAE1.out, tmT_word _ _ _ _ _ _ (by decide) (by decide) (by decide), show (⟨#[115, 119, 97, 112, 40]⟩ : ByteArray) = strB (wordT 10 ++ [40]) from by decide +kernel, show (⟨#[41]⟩ : ByteArray) = strB [41] from by decide +kernel]
    rw [show (⟨#[44, 32]⟩ : ByteArray) = strB (tsep 10) from by decide +kernel]
    simp only [← strS_append]
    congr 1
    simp only [tkL, List.map_cons, List.map_nil, tkT]
    rw [if_neg (by omega), if_pos (by omega)]
    have e : ∀ l i t, inT l (mustT 10 i) t = t := fun l i t => by unfold inT; rw [if_neg (by rw [show mustT 10 i = 0 from rfl]; omega)]
    simp only [e, List.nil_append, List.append_nil, List.append_assoc]
  have zl : (⟨#[115, 119, 97, 112, 40]⟩ : ByteArray).size = 5 := rfl
  have z41 : (⟨#[41]⟩ : ByteArray).size = 1 := rfl
  have z42 : (⟨#[42]⟩ : ByteArray).size = 1 := rfl
  have z44 : (⟨#[44, 32]⟩ : ByteArray).size = 2 := rfl
  obtain ⟨T, hTT⟩ : ∃ T, T = strB (tmT 10 nm tx bk r (tkL [k0, k1])) := ⟨_, rfl⟩
  rw [← hTT] at HE ⊢
  obtain ⟨AR, hAR⟩ : ∃ AR, AR = strB (argT r) := ⟨_, rfl⟩
  rw [← hAR] at HARG has
  obtain ⟨RT, hRT⟩ : ∃ RT, RT = strB (reT r) := ⟨_, rfl⟩
  rw [← hRT] at HARG HOF hrs
  have HP := hide hP
  clear hTT hAR hRT hl hwf ih hT hS hP hrl hlen
  obtain ⟨q, rfl⟩ | rfl := HP.out
  all_goals
    try unfold PT at HOF c3
    unfold PT
    go_enter Tryz.func16, Tryz.ntmps16
    go_wp2_with fail
    refine HOF.out.mono ?_
    rintro e w1 ⟨rfl, hb1⟩
    have HB1 := hide hb1
    obtain ⟨x0, x2, x4, x5, x6⟩ := HCC.out w1 hb1
    clear hb1 HOF c3 c0w
    go_wp2
    all_goals try (exfalso; simp only [ByteArray.size_append] at *; omega)
    try rw [show Value.pointer (some ⟨b, 0, none⟩) = PT b from rfl]
    try rw [HARG.out]
    obtain ⟨C, hC⟩ : ∃ C : World → Prop, C = fun W => Below w1.heap.size w1 W := ⟨_, rfl⟩
    have HG : Hid (Grows C) := by rw [hC]; exact fun W W' h1 h2 => h1.trans (h2.mono h1.size)
    have HCD : Hid (C { w1 with drawn := w1.drawn + 1 }) := by rw [hC]; exact drewBelow w1
    have HCB : Hid (∀ W, C W → Below w.heap.size w W) := by rw [hC]; exact fun W h => HB1.out.trans (h.mono HB1.out.size)
    clear hC
    have hG := HG.out
    have y4 : ∀ W, C W → W.cell? ⟨b, 4, none⟩ = some (.string tx) := fun W h => (HCC.out W (HCB.out W h)).2.2.1
    have y5 : ∀ W, C W → W.cell? ⟨b, 5, none⟩ = some (.string bk) := fun W h => (HCC.out W (HCB.out W h)).2.2.2.1
    have y6 : ∀ W, C W → W.cell? ⟨b, 6, none⟩ = some (.slice (some ⟨g0, f0, none⟩) 2 c) := fun W h => (HCC.out W (HCB.out W h)).2.2.2.2
    refine w_lit (C := C) (by kernel_rfl) (by kernel_rfl) HCD.out ?_
    refine w_value (PT b) (by kernel_rfl) (fun w hw => x_move _ _ _ _ _ _ _ _ rfl w) ?_
    simp only [Act.put, List.setIfInBounds_toArray, List.set_cons_succ, List.set_cons_zero]
    refine w_value (PT b) (by kernel_rfl) (fun w hw => x_nilCheck _ _ _ _ _ _ _ _ rfl w) ?_
    simp only [Act.put, List.setIfInBounds_toArray, List.set_cons_succ, List.set_cons_zero]
    refine w_value (.pointer (some ⟨b, 6, none⟩)) (by kernel_rfl) (fun w hw => x_tmF6 _ _ _ _ _ _ _ _ rfl w) ?_
    simp only [Act.put, List.setIfInBounds_toArray, List.set_cons_succ, List.set_cons_zero]
    refine w_value (.slice (some ⟨g0, f0, none⟩) 2 c) (by kernel_rfl) (fun w hw => x_tmKids _ _ _ _ _ _ _ _ _ _ rfl w (y6 w hw)) ?_
    simp only [Act.put, List.setIfInBounds_toArray, List.set_cons_succ, List.set_cons_zero]
    refine w_value (.pointer (some ⟨g0, f0 + 0, none⟩)) (by kernel_rfl) (fun w hw => x_tmIdx _ _ _ _ _ _ _ _ _ _ _ _ 0 rfl rfl (by omega) w) ?_
    simp only [Act.put, List.setIfInBounds_toArray, List.set_cons_succ, List.set_cons_zero]
    refine w_value (PT p0) (by kernel_rfl) (fun w hw => x_tmPt _ _ _ _ _ _ _ _ _ _ rfl w (HPC0.out w (HCB.out w hw))) ?_
    simp only [Act.put, List.setIfInBounds_toArray, List.set_cons_succ, List.set_cons_zero]
    refine w_call hG 16 #[PT p0] (.string A0) (by kernel_rfl) (fun w => x_call1 _ _ _ _ _ _ _ _ _ _ rfl rfl (enters_of Tryz.func16 (by kernel_rfl) rfl) w) (fun w hw => HK0.out w (HCB.out w hw)) ?_
    simp only [Act.put, List.setIfInBounds_toArray, List.set_cons_succ, List.set_cons_zero]
    refine w_value (.string (⟨#[115, 119, 97, 112, 40]⟩ ++ A0)) (by kernel_rfl) (fun w hw => x_addSS _ _ _ _ _ _ _ _ (⟨#[115, 119, 97, 112, 40]⟩) (A0) rfl rfl (by (try simp only [ByteArray.size_append]); omega) w) ?_
    simp only [Act.put, List.setIfInBounds_toArray, List.set_cons_succ, List.set_cons_zero]
    refine w_value (.string ((⟨#[115, 119, 97, 112, 40]⟩ ++ A0) ++ ⟨#[44, 32]⟩)) (by kernel_rfl) (fun w hw => x_addSS _ _ _ _ _ _ _ _ ((⟨#[115, 119, 97, 112, 40]⟩ ++ A0)) (⟨#[44, 32]⟩) rfl rfl (by (try simp only [ByteArray.size_append]); omega) w) ?_
    simp only [Act.put, List.setIfInBounds_toArray, List.set_cons_succ, List.set_cons_zero]
    refine w_value (PT b) (by kernel_rfl) (fun w hw => x_move _ _ _ _ _ _ _ _ rfl w) ?_
    simp only [Act.put, List.setIfInBounds_toArray, List.set_cons_succ, List.set_cons_zero]
    refine w_value (PT b) (by kernel_rfl) (fun w hw => x_nilCheck _ _ _ _ _ _ _ _ rfl w) ?_
    simp only [Act.put, List.setIfInBounds_toArray, List.set_cons_succ, List.set_cons_zero]
    refine w_value (.pointer (some ⟨b, 6, none⟩)) (by kernel_rfl) (fun w hw => x_tmF6 _ _ _ _ _ _ _ _ rfl w) ?_
    simp only [Act.put, List.setIfInBounds_toArray, List.set_cons_succ, List.set_cons_zero]
    refine w_value (.slice (some ⟨g0, f0, none⟩) 2 c) (by kernel_rfl) (fun w hw => x_tmKids _ _ _ _ _ _ _ _ _ _ rfl w (y6 w hw)) ?_
    simp only [Act.put, List.setIfInBounds_toArray, List.set_cons_succ, List.set_cons_zero]
    refine w_value (.pointer (some ⟨g0, f0 + 1, none⟩)) (by kernel_rfl) (fun w hw => x_tmIdx _ _ _ _ _ _ _ _ _ _ _ _ 1 rfl rfl (by omega) w) ?_
    simp only [Act.put, List.setIfInBounds_toArray, List.set_cons_succ, List.set_cons_zero]
    refine w_value (PT p1) (by kernel_rfl) (fun w hw => x_tmPt _ _ _ _ _ _ _ _ _ _ rfl w (HPC1.out w (HCB.out w hw))) ?_
    simp only [Act.put, List.setIfInBounds_toArray, List.set_cons_succ, List.set_cons_zero]
    refine w_call hG 16 #[PT p1] (.string A1) (by kernel_rfl) (fun w => x_call1 _ _ _ _ _ _ _ _ _ _ rfl rfl (enters_of Tryz.func16 (by kernel_rfl) rfl) w) (fun w hw => HK1.out w (HCB.out w hw)) ?_
    simp only [Act.put, List.setIfInBounds_toArray, List.set_cons_succ, List.set_cons_zero]
    refine w_value (.string (((⟨#[115, 119, 97, 112, 40]⟩ ++ A0) ++ ⟨#[44, 32]⟩) ++ A1)) (by kernel_rfl) (fun w hw => x_addSS _ _ _ _ _ _ _ _ (((⟨#[115, 119, 97, 112, 40]⟩ ++ A0) ++ ⟨#[44, 32]⟩)) (A1) rfl rfl (by (try simp only [ByteArray.size_append]); omega) w) ?_
    simp only [Act.put, List.setIfInBounds_toArray, List.set_cons_succ, List.set_cons_zero]
    refine w_value (.string ((((⟨#[115, 119, 97, 112, 40]⟩ ++ A0) ++ ⟨#[44, 32]⟩) ++ A1) ++ ⟨#[41]⟩)) (by kernel_rfl) (fun w hw => x_addSS _ _ _ _ _ _ _ _ ((((⟨#[115, 119, 97, 112, 40]⟩ ++ A0) ++ ⟨#[44, 32]⟩) ++ A1)) (⟨#[41]⟩) rfl rfl (by (try simp only [ByteArray.size_append]); omega) w) ?_
    simp only [Act.put, List.setIfInBounds_toArray, List.set_cons_succ, List.set_cons_zero]
    refine w_value (.string ((((⟨#[115, 119, 97, 112, 40]⟩ ++ A0) ++ ⟨#[44, 32]⟩) ++ A1) ++ ⟨#[41]⟩)) (by kernel_rfl) (fun w hw => x_assign _ _ _ _ _ _ _ _ rfl w) ?_
    simp only [Act.put, List.setIfInBounds_toArray, List.set_cons_succ, List.set_cons_zero]
    refine w_nil ?_
    intro W hCW
    have HBW := hide (HCB.out W hCW)
    clear hCW y4 y5 y6 hG
    try unfold PT
    go_wp2
    go_ret
    refine ⟨?_, HBW.out⟩
    rw [HE.out]
    rfl

set_option maxHeartbeats 4000000 in
theorem write_14 (b : Nat) (nm tx bk : ByteArray) (r : Option RE) (ks : List TM) (rp : Value) (a : Option Addr) (c : Nat) (w : World) (hS : TmSee w b 14 nm tx bk r ks rp a c) (hwf : WfT (.mk 14 nm tx bk r ks)) (ih : ∀ x ∈ ks, LwT x) (hl : (tmT 14 nm tx bk r (tkL ks)).length ≤ 800000000) (hT : TabAt w) :
    Calls Tryz.prog 16 #[PT b] w fun e w' => e = .returned (.string (strB (tmT 14 nm tx bk r (tkL ks)))) ∧ Below w.heap.size w w' := by
  obtain ⟨hz1, hz2, hz3⟩ := hwf.sz
  have hlen : ks.length = kidsO 14 := hwf.len
  have hrl : (reT r).length ≤ 1000000 := by
    cases r with
    | none => simp [reT]
    | some q => exact (hwf.re q rfl).2
  have HOF : Hid (Calls Tryz.prog 44 #[rp] w fun e w' => e = .returned (.string (strB (reT r))) ∧ Below w.heap.size w w') := textOf_opt r rp w hS.re hwf.re hT
  have hP : (∃ q, rp = PT q) ∨ rp = .pointer none := by
    have := hS.re
    cases r with
    | none => exact .inr this
    | some r => obtain ⟨p, e, -⟩ := this; exact .inl ⟨p, e⟩
  have hrs : (strB (reT r)).size ≤ 1000000 := by rw [strS_size]; exact hrl
  have has := argS_len r hrl
  have HARG := hide (argS r)
  have zs : (⟨#[47]⟩ : ByteArray).size = 1 := rfl
  have z1 : (⟨#[32]⟩ : ByteArray).size = 1 := rfl
  have c3 := hS.c3 w (Below.refl _ _)
  have c0w := hS.c0 w (Below.refl _ _)
  have HSS := hide hS
  have HT := hide hT
  have HCC : Hid (∀ W, Below w.heap.size w W → W.cell? ⟨b, 0, none⟩ = some (.int .i64 (14 : Nat)) ∧ W.cell? ⟨b, 2, none⟩ = some (.string nm) ∧ W.cell? ⟨b, 4, none⟩ = some (.string tx) ∧ W.cell? ⟨b, 5, none⟩ = some (.string bk) ∧ W.cell? ⟨b, 6, none⟩ = some (.slice a ks.length c)) := fun W h => ⟨hS.c0 W h, hS.c2 W h, hS.c4 W h, hS.c5 W h, hS.c6 W h⟩
  obtain ⟨k0, k1, hks⟩ : ∃ k0 k1, ks = [k0, k1] := by
    have h1 : ks.length = 2 := hlen
    match ks, h1 with
    | [k0, k1], _ => exact ⟨k0, k1, rfl⟩
  subst hks
  have hl0 : k0.txt.length ≤ 800000000 := Nat.le_trans (tmT_ge 14 nm tx bk r [k0, k1] (by decide) k0 (by simp)) hl
  obtain ⟨g0, f0, p0, ha0, hpc0, ht0⟩ := hS.kid 0 (by simp)
  have ht0 : TmAt w p0 k0 := ht0
  have hl1 : k1.txt.length ≤ 800000000 := Nat.le_trans (tmT_ge 14 nm tx bk r [k0, k1] (by decide) k1 (by simp)) hl
  obtain ⟨g1, f1, p1, ha1, hpc1, ht1⟩ := hS.kid 1 (by simp)
  have ht1 : TmAt w p1 k1 := ht1
  subst ha0
  obtain ⟨rfl, rfl⟩ : g0 = g1 ∧ f0 = f1 := by injection ha1 with e; injection e with e1 e2; exact ⟨e1, e2⟩
  clear ha1
  have HK0 : Hid (∀ W, Below w.heap.size w W → Calls Tryz.prog 16 #[PT p0] W fun e w' => e = .returned (.string (strB k0.txt)) ∧ Below W.heap.size W w') := fun W hW => ih k0 (by simp) p0 W (ht0.keep hW) hl0 (hT.onS hW)
  have hs0 : (strB k0.txt).size ≤ 800000002 := by rw [strS_size]; omega
  obtain ⟨A0, hA0⟩ : ∃ A0, A0 = strB k0.txt := ⟨_, rfl⟩
  have HK1 : Hid (∀ W, Below w.heap.size w W → Calls Tryz.prog 16 #[PT p1] W fun e w' => e = .returned (.string (strB k1.txt)) ∧ Below W.heap.size W w') := fun W hW => ih k1 (by simp) p1 W (ht1.keep hW) hl1 (hT.onS hW)
  have hs1 : (strB k1.txt).size ≤ 800000002 := by rw [strS_size]; omega
  obtain ⟨A1, hA1⟩ : ∃ A1, A1 = strB k1.txt := ⟨_, rfl⟩
  rw [← hA0] at HK0 hs0
  have HAE0 := hide hA0
  have HPC0 := hide hpc0
  clear hA0 hpc0 ht0 hl0
  rw [← hA1] at HK1 hs1
  have HAE1 := hide hA1
  have HPC1 := hide hpc1
  clear hA1 hpc1 ht1 hl1
  have HE : Hid (strB (tmT 14 nm tx bk r (tkL [k0, k1])) = ⟨#[108, 101, 102, 116, 40]⟩ ++ A0 ++ ⟨#[44, 32]⟩ ++ A1 ++ ⟨#[41]⟩) := by
    show _ = _
    rw [HAE0.out, HAE1.out, tmT_word _ _ _ _ _ _ (by decide) (by decide) (by decide), show (⟨#[108, 101, 102, 116, 40]⟩ : ByteArray) = strB (wordT 14 ++ [40]) from by decide +kernel, show (⟨#[41]⟩ : ByteArray) = strB [41] from by decide +kernel]
    rw [show (⟨#[44, 32]⟩ : ByteArray) = strB (tsep 14) from by decide +kernel]
    simp only [← strS_append]
    congr 1
    simp only [tkL, List.map_cons, List.map_nil, tkT]
    rw [if_neg (by omega), if_pos (by omega)]
    have e : ∀ l i t, inT l (mustT 14 i) t = t := fun l i t => by unfold inT; rw [if_neg (by rw [show mustT 14 i = 0 from rfl]; omega)]
    simp only [e, List.nil_append, List.append_nil, List.append_assoc]
  have zl : (⟨#[108, 101, 102, 116, 40]⟩ : ByteArray).size = 5 := rfl
  have z41 : (⟨#[41]⟩ : ByteArray).size = 1 := rfl
  have z42 : (⟨#[42]⟩ : ByteArray).size = 1 := rfl
  have z44 : (⟨#[44, 32]⟩ : ByteArray).size = 2 := rfl
  obtain ⟨T, hTT⟩ : ∃ T, T = strB (tmT 14 nm tx bk r (tkL [k0, k1])) := ⟨_, rfl⟩
  rw [← hTT] at HE ⊢
  obtain ⟨AR, hAR⟩ : ∃ AR, AR = strB (argT r) := ⟨_, rfl⟩
  rw [← hAR] at HARG has
  obtain ⟨RT, hRT⟩ : ∃ RT, RT = strB (reT r) := ⟨_, rfl⟩
  rw [← hRT] at HARG HOF hrs
  have HP := hide hP
  clear hTT hAR hRT hl hwf ih hT hS hP hrl hlen
  obtain ⟨q, rfl⟩ | rfl := HP.out
  all_goals
    try unfold PT at HOF c3
    unfold PT
    go_enter Tryz.func16, Tryz.ntmps16
    go_wp2_with fail
    refine HOF.out.mono ?_
    rintro e w1 ⟨rfl, hb1⟩
    have HB1 := hide hb1
    obtain ⟨x0, x2, x4, x5, x6⟩ := HCC.out w1 hb1
    clear hb1 HOF c3 c0w
    go_wp2
    all_goals try (exfalso; simp only [ByteArray.size_append] at *; omega)
    try rw [show Value.pointer (some ⟨b, 0, none⟩) = PT b from rfl]
    try rw [HARG.out]
    obtain ⟨C, hC⟩ : ∃ C : World → Prop, C = fun W => Below w1.heap.size w1 W := ⟨_, rfl⟩
    have HG : Hid (Grows C) := by rw [hC]; exact fun W W' h1 h2 => h1.trans (h2.mono h1.size)
    have HCD : Hid (C { w1 with drawn := w1.drawn + 1 }) := by rw [hC]; exact drewBelow w1
    have HCB : Hid (∀ W, C W → Below w.heap.size w W) := by rw [hC]; exact fun W h => HB1.out.trans (h.mono HB1.out.size)
    clear hC
    have hG := HG.out
    have y4 : ∀ W, C W → W.cell? ⟨b, 4, none⟩ = some (.string tx) := fun W h => (HCC.out W (HCB.out W h)).2.2.1
    have y5 : ∀ W, C W → W.cell? ⟨b, 5, none⟩ = some (.string bk) := fun W h => (HCC.out W (HCB.out W h)).2.2.2.1
    have y6 : ∀ W, C W → W.cell? ⟨b, 6, none⟩ = some (.slice (some ⟨g0, f0, none⟩) 2 c) := fun W h => (HCC.out W (HCB.out W h)).2.2.2.2
    refine w_lit (C := C) (by kernel_rfl) (by kernel_rfl) HCD.out ?_
    refine w_value (PT b) (by kernel_rfl) (fun w hw => x_move _ _ _ _ _ _ _ _ rfl w) ?_
    simp only [Act.put, List.setIfInBounds_toArray, List.set_cons_succ, List.set_cons_zero]
    refine w_value (PT b) (by kernel_rfl) (fun w hw => x_nilCheck _ _ _ _ _ _ _ _ rfl w) ?_
    simp only [Act.put, List.setIfInBounds_toArray, List.set_cons_succ, List.set_cons_zero]
    refine w_value (.pointer (some ⟨b, 6, none⟩)) (by kernel_rfl) (fun w hw => x_tmF6 _ _ _ _ _ _ _ _ rfl w) ?_
    simp only [Act.put, List.setIfInBounds_toArray, List.set_cons_succ, List.set_cons_zero]
    refine w_value (.slice (some ⟨g0, f0, none⟩) 2 c) (by kernel_rfl) (fun w hw => x_tmKids _ _ _ _ _ _ _ _ _ _ rfl w (y6 w hw)) ?_
    simp only [Act.put, List.setIfInBounds_toArray, List.set_cons_succ, List.set_cons_zero]
    refine w_value (.pointer (some ⟨g0, f0 + 0, none⟩)) (by kernel_rfl) (fun w hw => x_tmIdx _ _ _ _ _ _ _ _ _ _ _ _ 0 rfl rfl (by omega) w) ?_
    simp only [Act.put, List.setIfInBounds_toArray, List.set_cons_succ, List.set_cons_zero]
    refine w_value (PT p0) (by kernel_rfl) (fun w hw => x_tmPt _ _ _ _ _ _ _ _ _ _ rfl w (HPC0.out w (HCB.out w hw))) ?_
    simp only [Act.put, List.setIfInBounds_toArray, List.set_cons_succ, List.set_cons_zero]
    refine w_call hG 16 #[PT p0] (.string A0) (by kernel_rfl) (fun w => x_call1 _ _ _ _ _ _ _ _ _ _ rfl rfl (enters_of Tryz.func16 (by kernel_rfl) rfl) w) (fun w hw => HK0.out w (HCB.out w hw)) ?_
    simp only [Act.put, List.setIfInBounds_toArray, List.set_cons_succ, List.set_cons_zero]
    refine w_value (.string (⟨#[108, 101, 102, 116, 40]⟩ ++ A0)) (by kernel_rfl) (fun w hw => x_addSS _ _ _ _ _ _ _ _ (⟨#[108, 101, 102, 116, 40]⟩) (A0) rfl rfl (by (try simp only [ByteArray.size_append]); omega) w) ?_
    simp only [Act.put, List.setIfInBounds_toArray, List.set_cons_succ, List.set_cons_zero]
    refine w_value (.string ((⟨#[108, 101, 102, 116, 40]⟩ ++ A0) ++ ⟨#[44, 32]⟩)) (by kernel_rfl) (fun w hw => x_addSS _ _ _ _ _ _ _ _ ((⟨#[108, 101, 102, 116, 40]⟩ ++ A0)) (⟨#[44, 32]⟩) rfl rfl (by (try simp only [ByteArray.size_append]); omega) w) ?_
    simp only [Act.put, List.setIfInBounds_toArray, List.set_cons_succ, List.set_cons_zero]
    refine w_value (PT b) (by kernel_rfl) (fun w hw => x_move _ _ _ _ _ _ _ _ rfl w) ?_
    simp only [Act.put, List.setIfInBounds_toArray, List.set_cons_succ, List.set_cons_zero]
    refine w_value (PT b) (by kernel_rfl) (fun w hw => x_nilCheck _ _ _ _ _ _ _ _ rfl w) ?_
    simp only [Act.put, List.setIfInBounds_toArray, List.set_cons_succ, List.set_cons_zero]
    refine w_value (.pointer (some ⟨b, 6, none⟩)) (by kernel_rfl) (fun w hw => x_tmF6 _ _ _ _ _ _ _ _ rfl w) ?_
    simp only [Act.put, List.setIfInBounds_toArray, List.set_cons_succ, List.set_cons_zero]
    refine w_value (.slice (some ⟨g0, f0, none⟩) 2 c) (by kernel_rfl) (fun w hw => x_tmKids _ _ _ _ _ _ _ _ _ _ rfl w (y6 w hw)) ?_
    simp only [Act.put, List.setIfInBounds_toArray, List.set_cons_succ, List.set_cons_zero]
    refine w_value (.pointer (some ⟨g0, f0 + 1, none⟩)) (by kernel_rfl) (fun w hw => x_tmIdx _ _ _ _ _ _ _ _ _ _ _ _ 1 rfl rfl (by omega) w) ?_
    simp only [Act.put, List.setIfInBounds_toArray, List.set_cons_succ, List.set_cons_zero]
    refine w_value (PT p1) (by kernel_rfl) (fun w hw => x_tmPt _ _ _ _ _ _ _ _ _ _ rfl w (HPC1.out w (HCB.out w hw))) ?_
    simp only [Act.put, List.setIfInBounds_toArray, List.set_cons_succ, List.set_cons_zero]
    refine w_call hG 16 #[PT p1] (.string A1) (by kernel_rfl) (fun w => x_call1 _ _ _ _ _ _ _ _ _ _ rfl rfl (enters_of Tryz.func16 (by kernel_rfl) rfl) w) (fun w hw => HK1.out w (HCB.out w hw)) ?_
    simp only [Act.put, List.setIfInBounds_toArray, List.set_cons_succ, List.set_cons_zero]
    refine w_value (.string (((⟨#[108, 101, 102, 116, 40]⟩ ++ A0) ++ ⟨#[44, 32]⟩) ++ A1)) (by kernel_rfl) (fun w hw => x_addSS _ _ _ _ _ _ _ _ (((⟨#[108, 101, 102, 116, 40]⟩ ++ A0) ++ ⟨#[44, 32]⟩)) (A1) rfl rfl (by (try simp only [ByteArray.size_append]); omega) w) ?_
    simp only [Act.put, List.setIfInBounds_toArray, List.set_cons_succ, List.set_cons_zero]
    refine w_value (.string ((((⟨#[108, 101, 102, 116, 40]⟩ ++ A0) ++ ⟨#[44, 32]⟩) ++ A1) ++ ⟨#[41]⟩)) (by kernel_rfl) (fun w hw => x_addSS _ _ _ _ _ _ _ _ ((((⟨#[108, 101, 102, 116, 40]⟩ ++ A0) ++ ⟨#[44, 32]⟩) ++ A1)) (⟨#[41]⟩) rfl rfl (by (try simp only [ByteArray.size_append]); omega) w) ?_
    simp only [Act.put, List.setIfInBounds_toArray, List.set_cons_succ, List.set_cons_zero]
    refine w_value (.string ((((⟨#[108, 101, 102, 116, 40]⟩ ++ A0) ++ ⟨#[44, 32]⟩) ++ A1) ++ ⟨#[41]⟩)) (by kernel_rfl) (fun w hw => x_assign _ _ _ _ _ _ _ _ rfl w) ?_
    simp only [Act.put, List.setIfInBounds_toArray, List.set_cons_succ, List.set_cons_zero]
    refine w_nil ?_
    intro W hCW
    have HBW := hide (HCB.out W hCW)
    clear hCW y4 y5 y6 hG
    try unfold PT
    go_wp2
    go_ret
    refine ⟨?_, HBW.out⟩
    rw [HE.out]
    rfl

set_option maxHeartbeats 4000000 in
theorem write_15 (b : Nat) (nm tx bk : ByteArray) (r : Option RE) (ks : List TM) (rp : Value) (a : Option Addr) (c : Nat) (w : World) (hS : TmSee w b 15 nm tx bk r ks rp a c) (hwf : WfT (.mk 15 nm tx bk r ks)) (ih : ∀ x ∈ ks, LwT x) (hl : (tmT 15 nm tx bk r (tkL ks)).length ≤ 800000000) (hT : TabAt w) :
    Calls Tryz.prog 16 #[PT b] w fun e w' => e = .returned (.string (strB (tmT 15 nm tx bk r (tkL ks)))) ∧ Below w.heap.size w w' := by
  obtain ⟨hz1, hz2, hz3⟩ := hwf.sz
  have hlen : ks.length = kidsO 15 := hwf.len
  have hrl : (reT r).length ≤ 1000000 := by
    cases r with
    | none => simp [reT]
    | some q => exact (hwf.re q rfl).2
  have HOF : Hid (Calls Tryz.prog 44 #[rp] w fun e w' => e = .returned (.string (strB (reT r))) ∧ Below w.heap.size w w') := textOf_opt r rp w hS.re hwf.re hT
  have hP : (∃ q, rp = PT q) ∨ rp = .pointer none := by
    have := hS.re
    cases r with
    | none => exact .inr this
    | some r => obtain ⟨p, e, -⟩ := this; exact .inl ⟨p, e⟩
  have hrs : (strB (reT r)).size ≤ 1000000 := by rw [strS_size]; exact hrl
  have has := argS_len r hrl
  have HARG := hide (argS r)
  have zs : (⟨#[47]⟩ : ByteArray).size = 1 := rfl
  have z1 : (⟨#[32]⟩ : ByteArray).size = 1 := rfl
  have c3 := hS.c3 w (Below.refl _ _)
  have c0w := hS.c0 w (Below.refl _ _)
  have HSS := hide hS
  have HT := hide hT
  have HCC : Hid (∀ W, Below w.heap.size w W → W.cell? ⟨b, 0, none⟩ = some (.int .i64 (15 : Nat)) ∧ W.cell? ⟨b, 2, none⟩ = some (.string nm) ∧ W.cell? ⟨b, 4, none⟩ = some (.string tx) ∧ W.cell? ⟨b, 5, none⟩ = some (.string bk) ∧ W.cell? ⟨b, 6, none⟩ = some (.slice a ks.length c)) := fun W h => ⟨hS.c0 W h, hS.c2 W h, hS.c4 W h, hS.c5 W h, hS.c6 W h⟩
  obtain ⟨k0, k1, hks⟩ : ∃ k0 k1, ks = [k0, k1] := by
    have h1 : ks.length = 2 := hlen
    match ks, h1 with
    | [k0, k1], _ => exact ⟨k0, k1, rfl⟩
  subst hks
  have hl0 : k0.txt.length ≤ 800000000 := Nat.le_trans (tmT_ge 15 nm tx bk r [k0, k1] (by decide) k0 (by simp)) hl
  obtain ⟨g0, f0, p0, ha0, hpc0, ht0⟩ := hS.kid 0 (by simp)
  have ht0 : TmAt w p0 k0 := ht0
  have hl1 : k1.txt.length ≤ 800000000 := Nat.le_trans (tmT_ge 15 nm tx bk r [k0, k1] (by decide) k1 (by simp)) hl
  obtain ⟨g1, f1, p1, ha1, hpc1, ht1⟩ := hS.kid 1 (by simp)
  have ht1 : TmAt w p1 k1 := ht1
  subst ha0
  obtain ⟨rfl, rfl⟩ : g0 = g1 ∧ f0 = f1 := by injection ha1 with e; injection e with e1 e2; exact ⟨e1, e2⟩
  clear ha1
  have HK0 : Hid (∀ W, Below w.heap.size w W → Calls Tryz.prog 16 #[PT p0] W fun e w' => e = .returned (.string (strB k0.txt)) ∧ Below W.heap.size W w') := fun W hW => ih k0 (by simp) p0 W (ht0.keep hW) hl0 (hT.onS hW)
  have hs0 : (strB k0.txt).size ≤ 800000002 := by rw [strS_size]; omega
  obtain ⟨A0, hA0⟩ : ∃ A0, A0 = strB k0.txt := ⟨_, rfl⟩
  have HK1 : Hid (∀ W, Below w.heap.size w W → Calls Tryz.prog 16 #[PT p1] W fun e w' => e = .returned (.string (strB k1.txt)) ∧ Below W.heap.size W w') := fun W hW => ih k1 (by simp) p1 W (ht1.keep hW) hl1 (hT.onS hW)
  have hs1 : (strB k1.txt).size ≤ 800000002 := by rw [strS_size]; omega
  obtain ⟨A1, hA1⟩ : ∃ A1, A1 = strB k1.txt := ⟨_, rfl⟩
  rw [← hA0] at HK0 hs0
  have HAE0 := hide hA0
  have HPC0 := hide hpc0
  clear hA0 hpc0 ht0 hl0
  rw [← hA1] at HK1 hs1
  have HAE1 := hide hA1
  have HPC1 := hide hpc1
  clear hA1 hpc1 ht1 hl1
  have HE : Hid (strB (tmT 15 nm tx bk r (tkL [k0, k1])) = ⟨#[114, 105, 103, 104, 116, 40]⟩ ++ A0 ++ ⟨#[44, 32]⟩ ++ A1 ++ ⟨#[41]⟩) := by
    show _ = _
    rw [HAE0.out, HAE1.out, tmT_word _ _ _ _ _ _ (by decide) (by decide) (by decide), show (⟨#[114, 105, 103, 104, 116, 40]⟩ : ByteArray) = strB (wordT 15 ++ [40]) from by decide +kernel, show (⟨#[41]⟩ : ByteArray) = strB [41] from by decide +kernel]
    rw [show (⟨#[44, 32]⟩ : ByteArray) = strB (tsep 15) from by decide +kernel]
    simp only [← strS_append]
    congr 1
    simp only [tkL, List.map_cons, List.map_nil, tkT]
    rw [if_neg (by omega), if_pos (by omega)]
    have e : ∀ l i t, inT l (mustT 15 i) t = t := fun l i t => by unfold inT; rw [if_neg (by rw [show mustT 15 i = 0 from rfl]; omega)]
    simp only [e, List.nil_append, List.append_nil, List.append_assoc]
  have zl : (⟨#[114, 105, 103, 104, 116, 40]⟩ : ByteArray).size = 6 := rfl
  have z41 : (⟨#[41]⟩ : ByteArray).size = 1 := rfl
  have z42 : (⟨#[42]⟩ : ByteArray).size = 1 := rfl
  have z44 : (⟨#[44, 32]⟩ : ByteArray).size = 2 := rfl
  obtain ⟨T, hTT⟩ : ∃ T, T = strB (tmT 15 nm tx bk r (tkL [k0, k1])) := ⟨_, rfl⟩
  rw [← hTT] at HE ⊢
  obtain ⟨AR, hAR⟩ : ∃ AR, AR = strB (argT r) := ⟨_, rfl⟩
  rw [← hAR] at HARG has
  obtain ⟨RT, hRT⟩ : ∃ RT, RT = strB (reT r) := ⟨_, rfl⟩
  rw [← hRT] at HARG HOF hrs
  have HP := hide hP
  clear hTT hAR hRT hl hwf ih hT hS hP hrl hlen
  obtain ⟨q, rfl⟩ | rfl := HP.out
  all_goals
    try unfold PT at HOF c3
    unfold PT
    go_enter Tryz.func16, Tryz.ntmps16
    go_wp2_with fail
    refine HOF.out.mono ?_
    rintro e w1 ⟨rfl, hb1⟩
    have HB1 := hide hb1
    obtain ⟨x0, x2, x4, x5, x6⟩ := HCC.out w1 hb1
    clear hb1 HOF c3 c0w
    go_wp2
    all_goals try (exfalso; simp only [ByteArray.size_append] at *; omega)
    try rw [show Value.pointer (some ⟨b, 0, none⟩) = PT b from rfl]
    try rw [HARG.out]
    obtain ⟨C, hC⟩ : ∃ C : World → Prop, C = fun W => Below w1.heap.size w1 W := ⟨_, rfl⟩
    have HG : Hid (Grows C) := by rw [hC]; exact fun W W' h1 h2 => h1.trans (h2.mono h1.size)
    have HCD : Hid (C { w1 with drawn := w1.drawn + 1 }) := by rw [hC]; exact drewBelow w1
    have HCB : Hid (∀ W, C W → Below w.heap.size w W) := by rw [hC]; exact fun W h => HB1.out.trans (h.mono HB1.out.size)
    clear hC
    have hG := HG.out
    have y4 : ∀ W, C W → W.cell? ⟨b, 4, none⟩ = some (.string tx) := fun W h => (HCC.out W (HCB.out W h)).2.2.1
    have y5 : ∀ W, C W → W.cell? ⟨b, 5, none⟩ = some (.string bk) := fun W h => (HCC.out W (HCB.out W h)).2.2.2.1
    have y6 : ∀ W, C W → W.cell? ⟨b, 6, none⟩ = some (.slice (some ⟨g0, f0, none⟩) 2 c) := fun W h => (HCC.out W (HCB.out W h)).2.2.2.2
    refine w_lit (C := C) (by kernel_rfl) (by kernel_rfl) HCD.out ?_
    refine w_value (PT b) (by kernel_rfl) (fun w hw => x_move _ _ _ _ _ _ _ _ rfl w) ?_
    simp only [Act.put, List.setIfInBounds_toArray, List.set_cons_succ, List.set_cons_zero]
    refine w_value (PT b) (by kernel_rfl) (fun w hw => x_nilCheck _ _ _ _ _ _ _ _ rfl w) ?_
    simp only [Act.put, List.setIfInBounds_toArray, List.set_cons_succ, List.set_cons_zero]
    refine w_value (.pointer (some ⟨b, 6, none⟩)) (by kernel_rfl) (fun w hw => x_tmF6 _ _ _ _ _ _ _ _ rfl w) ?_
    simp only [Act.put, List.setIfInBounds_toArray, List.set_cons_succ, List.set_cons_zero]
    refine w_value (.slice (some ⟨g0, f0, none⟩) 2 c) (by kernel_rfl) (fun w hw => x_tmKids _ _ _ _ _ _ _ _ _ _ rfl w (y6 w hw)) ?_
    simp only [Act.put, List.setIfInBounds_toArray, List.set_cons_succ, List.set_cons_zero]
    refine w_value (.pointer (some ⟨g0, f0 + 0, none⟩)) (by kernel_rfl) (fun w hw => x_tmIdx _ _ _ _ _ _ _ _ _ _ _ _ 0 rfl rfl (by omega) w) ?_
    simp only [Act.put, List.setIfInBounds_toArray, List.set_cons_succ, List.set_cons_zero]
    refine w_value (PT p0) (by kernel_rfl) (fun w hw => x_tmPt _ _ _ _ _ _ _ _ _ _ rfl w (HPC0.out w (HCB.out w hw))) ?_
    simp only [Act.put, List.setIfInBounds_toArray, List.set_cons_succ, List.set_cons_zero]
    refine w_call hG 16 #[PT p0] (.string A0) (by kernel_rfl) (fun w => x_call1 _ _ _ _ _ _ _ _ _ _ rfl rfl (enters_of Tryz.func16 (by kernel_rfl) rfl) w) (fun w hw => HK0.out w (HCB.out w hw)) ?_
    simp only [Act.put, List.setIfInBounds_toArray, List.set_cons_succ, List.set_cons_zero]
    refine w_value (.string (⟨#[114, 105, 103, 104, 116, 40]⟩ ++ A0)) (by kernel_rfl) (fun w hw => x_addSS _ _ _ _ _ _ _ _ (⟨#[114, 105, 103, 104, 116, 40]⟩) (A0) rfl rfl (by (try simp only [ByteArray.size_append]); omega) w) ?_
    simp only [Act.put, List.setIfInBounds_toArray, List.set_cons_succ, List.set_cons_zero]
    refine w_value (.string ((⟨#[114, 105, 103, 104, 116, 40]⟩ ++ A0) ++ ⟨#[44, 32]⟩)) (by kernel_rfl) (fun w hw => x_addSS _ _ _ _ _ _ _ _ ((⟨#[114, 105, 103, 104, 116, 40]⟩ ++ A0)) (⟨#[44, 32]⟩) rfl rfl (by (try simp only [ByteArray.size_append]); omega) w) ?_
    simp only [Act.put, List.setIfInBounds_toArray, List.set_cons_succ, List.set_cons_zero]
    refine w_value (PT b) (by kernel_rfl) (fun w hw => x_move _ _ _ _ _ _ _ _ rfl w) ?_
    simp only [Act.put, List.setIfInBounds_toArray, List.set_cons_succ, List.set_cons_zero]
    refine w_value (PT b) (by kernel_rfl) (fun w hw => x_nilCheck _ _ _ _ _ _ _ _ rfl w) ?_
    simp only [Act.put, List.setIfInBounds_toArray, List.set_cons_succ, List.set_cons_zero]
    refine w_value (.pointer (some ⟨b, 6, none⟩)) (by kernel_rfl) (fun w hw => x_tmF6 _ _ _ _ _ _ _ _ rfl w) ?_
    simp only [Act.put, List.setIfInBounds_toArray, List.set_cons_succ, List.set_cons_zero]
    refine w_value (.slice (some ⟨g0, f0, none⟩) 2 c) (by kernel_rfl) (fun w hw => x_tmKids _ _ _ _ _ _ _ _ _ _ rfl w (y6 w hw)) ?_
    simp only [Act.put, List.setIfInBounds_toArray, List.set_cons_succ, List.set_cons_zero]
    refine w_value (.pointer (some ⟨g0, f0 + 1, none⟩)) (by kernel_rfl) (fun w hw => x_tmIdx _ _ _ _ _ _ _ _ _ _ _ _ 1 rfl rfl (by omega) w) ?_
    simp only [Act.put, List.setIfInBounds_toArray, List.set_cons_succ, List.set_cons_zero]
    refine w_value (PT p1) (by kernel_rfl) (fun w hw => x_tmPt _ _ _ _ _ _ _ _ _ _ rfl w (HPC1.out w (HCB.out w hw))) ?_
    simp only [Act.put, List.setIfInBounds_toArray, List.set_cons_succ, List.set_cons_zero]
    refine w_call hG 16 #[PT p1] (.string A1) (by kernel_rfl) (fun w => x_call1 _ _ _ _ _ _ _ _ _ _ rfl rfl (enters_of Tryz.func16 (by kernel_rfl) rfl) w) (fun w hw => HK1.out w (HCB.out w hw)) ?_
    simp only [Act.put, List.setIfInBounds_toArray, List.set_cons_succ, List.set_cons_zero]
    refine w_value (.string (((⟨#[114, 105, 103, 104, 116, 40]⟩ ++ A0) ++ ⟨#[44, 32]⟩) ++ A1)) (by kernel_rfl) (fun w hw => x_addSS _ _ _ _ _ _ _ _ (((⟨#[114, 105, 103, 104, 116, 40]⟩ ++ A0) ++ ⟨#[44, 32]⟩)) (A1) rfl rfl (by (try simp only [ByteArray.size_append]); omega) w) ?_
    simp only [Act.put, List.setIfInBounds_toArray, List.set_cons_succ, List.set_cons_zero]
    refine w_value (.string ((((⟨#[114, 105, 103, 104, 116, 40]⟩ ++ A0) ++ ⟨#[44, 32]⟩) ++ A1) ++ ⟨#[41]⟩)) (by kernel_rfl) (fun w hw => x_addSS _ _ _ _ _ _ _ _ ((((⟨#[114, 105, 103, 104, 116, 40]⟩ ++ A0) ++ ⟨#[44, 32]⟩) ++ A1)) (⟨#[41]⟩) rfl rfl (by (try simp only [ByteArray.size_append]); omega) w) ?_
    simp only [Act.put, List.setIfInBounds_toArray, List.set_cons_succ, List.set_cons_zero]
    refine w_value (.string ((((⟨#[114, 105, 103, 104, 116, 40]⟩ ++ A0) ++ ⟨#[44, 32]⟩) ++ A1) ++ ⟨#[41]⟩)) (by kernel_rfl) (fun w hw => x_assign _ _ _ _ _ _ _ _ rfl w) ?_
    simp only [Act.put, List.setIfInBounds_toArray, List.set_cons_succ, List.set_cons_zero]
    refine w_nil ?_
    intro W hCW
    have HBW := hide (HCB.out W hCW)
    clear hCW y4 y5 y6 hG
    try unfold PT
    go_wp2
    go_ret
    refine ⟨?_, HBW.out⟩
    rw [HE.out]
    rfl
end Go.Proofs.YtblpekljiilkjaaGreatDoor
