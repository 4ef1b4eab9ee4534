/- Texts of this claim put together: TmK, TmL1, TmL4. -/
import Derived.Test.YtblpekljiilkjaaGreatDoorJoinTmH
/- Write: the law's own text of a term. -/
namespace Go.Proofs.YtblpekljiilkjaaGreatDoor
set_option maxRecDepth 100000
set_option linter.unusedSimpArgs false
set_option linter.unusedVariables false
open Go.RowKit Go.Shelf

/-- Writing by the page. -/
abbrev LwT (t : TM) : Prop := ∀ (b : Nat) (w : World), TmAt w b t → t.txt.length ≤ 800000000 → TabAt w →
  Calls Tryz.prog 16 #[PT b] w fun e w' => e = .returned (.string (strB t.txt)) ∧ Below w.heap.size w w'
theorem tm_op0 {w : World} {b : Nat} {t : TM} (h : TmAt w b t) (W : World) (hW : Below w.heap.size w W) : W.cell? ⟨b, 0, none⟩ = some (.int .i64 t.op) := by
  cases t with
  | mk o n t k r ks => obtain ⟨_, _, _, hs⟩ := h.see; exact hs.c0 W hW
set_option maxHeartbeats 2000000 in
theorem within_any (t : TM) (hw : WfT t) (ih : LwT t) (b m : Nat) (w : World) (h : TmAt w b t) (hl : t.txt.length ≤ 800000000) (hT : TabAt w) (hm : m ≤ 5) :
    Calls Tryz.prog 45 #[PT b, .int .i64 m] w fun e w' => e = .returned (.string (strB (inT (levT t.op) m t.txt))) ∧ Below w.heap.size w w' := by
  have HLV := hide (level_tm b t.op hw.op' w (tm_op0 h w (Below.refl _ _)))
  have HIH : Hid (∀ W, Below w.heap.size w W → Calls Tryz.prog 16 #[PT b] W fun e w' => e = .returned (.string (strB t.txt)) ∧ Below W.heap.size W w') := fun W hW => ih b W (h.keep hW) (by omega) (hT.onS hW)
  obtain ⟨lv, hlv⟩ : ∃ lv, lv = levT t.op := ⟨_, rfl⟩
  obtain ⟨T, hTT⟩ : ∃ T, T = t.txt := ⟨_, rfl⟩
  rw [← hlv] at HLV ⊢
  rw [← hTT] at HIH hl ⊢
  have hl4 : lv ≤ 4 := by
    rw [hlv]; unfold levT
    repeat' split
    all_goals omega
  have hsz : (strB T).size = T.length := strS_size T
  have HSZ := hide hsz
  have hs9 : (strB T).size ≤ 800000000 := by omega
  have z1 : (⟨#[40]⟩ : ByteArray).size = 1 := rfl
  have z2 : (⟨#[41]⟩ : ByteArray).size = 1 := rfl
  clear hlv hTT hw h hT ih hsz
  unfold PT at HLV HIH ⊢
  go_enter Tryz.func45, Tryz.ntmps45
  go_wp2_with fail
  refine HLV.out.mono ?_
  rintro e w1 ⟨rfl, hb1⟩
  have HB1 := hide hb1
  clear hb1 HLV
  by_cases hlt : lv < m
  · have hd : decide ((lv : Int) < m) = true := by simp; omega
    have hd2 : decide (lv < m) = true := by simp [hlt]
    have HE : Hid (strB (inT lv m T) = ⟨#[40]⟩ ++ strB T ++ ⟨#[41]⟩) := by
      show _ = _
      unfold inT
      rw [if_pos hlt, strS_append, strS_append]
      congr 1
    clear hlt
    go_wp2_with fail
    refine (HIH.out w1 HB1.out).mono ?_
    rintro e w2 ⟨rfl, hb2⟩
    have HB2 := hide (HB1.out.trans (hb2.mono HB1.out.size))
    clear hb2
    go_wp2
    all_goals try (exfalso; simp only [ByteArray.size_append] at *; omega)
    go_ret
    refine ⟨?_, HB2.out⟩
    rw [HE.out]
    rfl
  · have hd : decide ((lv : Int) < m) = false := by simp; omega
    have hd2 : decide (lv < m) = false := by simp; omega
    have HE : Hid (strB (inT lv m T) = strB T) := by
      show _ = _
      unfold inT
      rw [if_neg hlt]
    clear hlt
    go_wp2_with fail
    refine (HIH.out w1 HB1.out).mono ?_
    rintro e w2 ⟨rfl, hb2⟩
    have HB2 := hide (HB1.out.trans (hb2.mono HB1.out.size))
    clear hb2
    go_wp2
    go_ret
    refine ⟨?_, HB2.out⟩
    rw [HE.out]
    rfl
theorem inT_ge (l m : Nat) (t : List Nat) : t.length ≤ (inT l m t).length := by
  unfold inT; split <;> simp <;> omega
theorem tkT_ge (o : Nat) (sep : List Nat) (ks : List TM) : ∀ (i : Nat), ∀ x ∈ ks, x.txt.length ≤ (tkT o sep i (tkL ks)).length := by
  induction ks with
  | nil => intro i x hx; cases hx
  | cons k ks ih =>
    intro i x hx
    rw [show tkL (k :: ks) = (k.op, k.txt) :: tkL ks from rfl, tkT, List.length_append, List.length_append]
    rcases List.mem_cons.1 hx with rfl | hx
    · have := inT_ge (levT x.op) (mustT o i) x.txt
      dsimp only
      omega
    · have := ih (i + 1) x hx
      omega
theorem tmT_ge (o : Nat) (n t b : ByteArray) (r : Option RE) (ks : List TM) (h : leafO o = false) : ∀ x ∈ ks, x.txt.length ≤ (tmT o n t b r (tkL ks)).length := by
  intro x hx
  cases hro : rowO o with
  | true => rw [tmT_row _ _ _ _ _ _ h hro]; exact tkT_ge _ _ _ 0 x hx
  | false =>
    by_cases h9 : o = 9
    · have := tkT_ge 9 [] ks 0 x hx
      subst h9
      rw [tmT_9, List.length_append]
      omega
    · have := tkT_ge o (tsep o) ks 0 x hx
      rw [tmT_word _ _ _ _ _ _ h hro h9]
      simp only [List.length_append]
      omega
theorem argS (r : Option RE) : (⟨#[47]⟩ : ByteArray) ++ strB (reT r) ++ ⟨#[47]⟩ = strB (argT r) := by
  unfold argT
  rw [strS_append, strS_append]
  congr 1
theorem argS_len (r : Option RE) (h : (reT r).length ≤ 1000000) : (strB (argT r)).size ≤ 1000002 := by
  rw [strS_size]; unfold argT; simp; omega
end Go.Proofs.YtblpekljiilkjaaGreatDoor
/- Write, op by op. -/
namespace Go.Proofs.YtblpekljiilkjaaGreatDoor
set_option maxRecDepth 100000
set_option linter.unusedSimpArgs false
set_option linter.unusedVariables false
open Go.RowKit Go.Shelf

set_option maxHeartbeats 4000000 in
theorem write_2 (b : Nat) (nm tx bk : ByteArray) (r : Option RE) (ks : List TM) (rp : Value) (a : Option Addr) (c : Nat) (w : World) (hS : TmSee w b 2 nm tx bk r ks rp a c) (hwf : WfT (.mk 2 nm tx bk r ks)) (ih : ∀ x ∈ ks, LwT x) (hl : (tmT 2 nm tx bk r (tkL ks)).length ≤ 800000000) (hT : TabAt w) :
    Calls Tryz.prog 16 #[PT b] w fun e w' => e = .returned (.string (strB (tmT 2 nm tx bk r (tkL ks)))) ∧ Below w.heap.size w w' := by
  obtain ⟨hz1, hz2, hz3⟩ := hwf.sz
  have hlen : ks.length = kidsO 2 := hwf.len
  have hrl : (reT r).length ≤ 1000000 := by
    cases r with
    | none => simp [reT]
    | some q => exact (hwf.re q rfl).2
  have HOF : Hid (Calls Tryz.prog 44 #[rp] w fun e w' => e = .returned (.string (strB (reT r))) ∧ Below w.heap.size w w') := textOf_opt r rp w hS.re hwf.re hT
  have hP : (∃ q, rp = PT q) ∨ rp = .pointer none := by
    have := hS.re
    cases r with
    | none => exact .inr this
    | some r => obtain ⟨p, e, -⟩ := this; exact .inl ⟨p, e⟩
  have hrs : (strB (reT r)).size ≤ 1000000 := by rw [strS_size]; exact hrl
  have has := argS_len r hrl
  have HARG := hide (argS r)
  have zs : (⟨#[47]⟩ : ByteArray).size = 1 := rfl
  have z1 : (⟨#[32]⟩ : ByteArray).size = 1 := rfl
  have c3 := hS.c3 w (Below.refl _ _)
  have c0w := hS.c0 w (Below.refl _ _)
  have HSS := hide hS
  have HT := hide hT
  have HCC : Hid (∀ W, Below w.heap.size w W → W.cell? ⟨b, 0, none⟩ = some (.int .i64 (2 : Nat)) ∧ W.cell? ⟨b, 2, none⟩ = some (.string nm) ∧ W.cell? ⟨b, 4, none⟩ = some (.string tx) ∧ W.cell? ⟨b, 5, none⟩ = some (.string bk) ∧ W.cell? ⟨b, 6, none⟩ = some (.slice a ks.length c)) := fun W h => ⟨hS.c0 W h, hS.c2 W h, hS.c4 W h, hS.c5 W h, hS.c6 W h⟩
  have HE : Hid (tmT 2 nm tx bk r (tkL ks) = wordT 2 ++ restT 2 nm tx bk r) := tmT_leaf _ _ _ _ _ _ (by decide)
  have HQT : Hid (∀ W, Calls Tryz.prog 27 #[.string tx] W fun e w' => e = .returned (.string (strB (quoteT tx))) ∧ Below W.heap.size W w') := fun W => lquote_any tx hz2 W
  have HQB : Hid (∀ W, Calls Tryz.prog 27 #[.string bk] W fun e w' => e = .returned (.string (strB (quoteT bk))) ∧ Below W.heap.size W w') := fun W => lquote_any bk hz3 W
  have hqt : (strB (quoteT tx)).size ≤ 4000002 := by rw [strS_size]; have := quoteT_len tx; omega
  have hqb : (strB (quoteT bk)).size ≤ 4000002 := by rw [strS_size]; have := quoteT_len bk; omega
  have HNM := hide (strS_of nm)
  obtain ⟨QT, hQT⟩ : ∃ QT, QT = strB (quoteT tx) := ⟨_, rfl⟩
  obtain ⟨QB, hQB⟩ : ∃ QB, QB = strB (quoteT bk) := ⟨_, rfl⟩
  rw [← hQT] at HQT hqt
  rw [← hQB] at HQB hqb
  have HQTE := hide hQT
  have HQBE := hide hQB
  clear hQT hQB
  have HEE : Hid (strB (tmT 2 nm tx bk r (tkL ks)) = ⟨#[99, 111, 112, 121, 32]⟩ ++ strB (argT r)) := by
    show _ = _
    rw [HE.out, show (⟨#[99, 111, 112, 121, 32]⟩ : ByteArray) = strB (wordT 2 ++ [32]) from by decide +kernel]
    skip
    simp only [← strS_append]
    congr 1
    simp [restT]
  have zl : (⟨#[99, 111, 112, 121, 32]⟩ : ByteArray).size = 5 := rfl
  clear HE
  obtain ⟨T, hTT⟩ : ∃ T, T = strB (tmT 2 nm tx bk r (tkL ks)) := ⟨_, rfl⟩
  rw [← hTT] at HEE ⊢
  obtain ⟨AR, hAR⟩ : ∃ AR, AR = strB (argT r) := ⟨_, rfl⟩
  rw [← hAR] at HARG has HEE
  obtain ⟨RT, hRT⟩ : ∃ RT, RT = strB (reT r) := ⟨_, rfl⟩
  rw [← hRT] at HARG HOF hrs
  have HP := hide hP
  clear hTT hAR hRT hl hwf ih hT hS hP hrl hlen
  obtain ⟨q, rfl⟩ | rfl := HP.out
  all_goals
    try unfold PT at HOF c3
    unfold PT
    go_enter Tryz.func16, Tryz.ntmps16
    go_wp2_with fail
    refine HOF.out.mono ?_
    rintro e w1 ⟨rfl, hb1⟩
    have HB1 := hide hb1
    obtain ⟨x0, x2, x4, x5, x6⟩ := HCC.out w1 hb1
    clear hb1 HOF c3 c0w
    go_wp2
    all_goals try (exfalso; simp only [ByteArray.size_append] at *; omega)
    go_ret
    refine ⟨?_, HB1.out⟩
    rw [HEE.out]
    first | rfl | (rw [← HARG.out]; rfl)

set_option maxHeartbeats 4000000 in
theorem write_16 (b : Nat) (nm tx bk : ByteArray) (r : Option RE) (ks : List TM) (rp : Value) (a : Option Addr) (c : Nat) (w : World) (hS : TmSee w b 16 nm tx bk r ks rp a c) (hwf : WfT (.mk 16 nm tx bk r ks)) (ih : ∀ x ∈ ks, LwT x) (hl : (tmT 16 nm tx bk r (tkL ks)).length ≤ 800000000) (hT : TabAt w) :
    Calls Tryz.prog 16 #[PT b] w fun e w' => e = .returned (.string (strB (tmT 16 nm tx bk r (tkL ks)))) ∧ Below w.heap.size w w' := by
  obtain ⟨hz1, hz2, hz3⟩ := hwf.sz
  have hlen : ks.length = kidsO 16 := hwf.len
  have hrl : (reT r).length ≤ 1000000 := by
    cases r with
    | none => simp [reT]
    | some q => exact (hwf.re q rfl).2
  have HOF : Hid (Calls Tryz.prog 44 #[rp] w fun e w' => e = .returned (.string (strB (reT r))) ∧ Below w.heap.size w w') := textOf_opt r rp w hS.re hwf.re hT
  have hP : (∃ q, rp = PT q) ∨ rp = .pointer none := by
    have := hS.re
    cases r with
    | none => exact .inr this
    | some r => obtain ⟨p, e, -⟩ := this; exact .inl ⟨p, e⟩
  have hrs : (strB (reT r)).size ≤ 1000000 := by rw [strS_size]; exact hrl
  have has := argS_len r hrl
  have HARG := hide (argS r)
  have zs : (⟨#[47]⟩ : ByteArray).size = 1 := rfl
  have z1 : (⟨#[32]⟩ : ByteArray).size = 1 := rfl
  have c3 := hS.c3 w (Below.refl _ _)
  have c0w := hS.c0 w (Below.refl _ _)
  have HSS := hide hS
  have HT := hide hT
  have HCC : Hid (∀ W, Below w.heap.size w W → W.cell? ⟨b, 0, none⟩ = some (.int .i64 (16 : Nat)) ∧ W.cell? ⟨b, 2, none⟩ = some (.string nm) ∧ W.cell? ⟨b, 4, none⟩ = some (.string tx) ∧ W.cell? ⟨b, 5, none⟩ = some (.string bk) ∧ W.cell? ⟨b, 6, none⟩ = some (.slice a ks.length c)) := fun W h => ⟨hS.c0 W h, hS.c2 W h, hS.c4 W h, hS.c5 W h, hS.c6 W h⟩
  have HE : Hid (tmT 16 nm tx bk r (tkL ks) = wordT 16 ++ restT 16 nm tx bk r) := tmT_leaf _ _ _ _ _ _ (by decide)
  have HQT : Hid (∀ W, Calls Tryz.prog 27 #[.string tx] W fun e w' => e = .returned (.string (strB (quoteT tx))) ∧ Below W.heap.size W w') := fun W => lquote_any tx hz2 W
  have HQB : Hid (∀ W, Calls Tryz.prog 27 #[.string bk] W fun e w' => e = .returned (.string (strB (quoteT bk))) ∧ Below W.heap.size W w') := fun W => lquote_any bk hz3 W
  have hqt : (strB (quoteT tx)).size ≤ 4000002 := by rw [strS_size]; have := quoteT_len tx; omega
  have hqb : (strB (quoteT bk)).size ≤ 4000002 := by rw [strS_size]; have := quoteT_len bk; omega
  have HNM := hide (strS_of nm)
  obtain ⟨QT, hQT⟩ : ∃ QT, QT = strB (quoteT tx) := ⟨_, rfl⟩
  obtain ⟨QB, hQB⟩ : ∃ QB, QB = strB (quoteT bk) := ⟨_, rfl⟩
  rw [← hQT] at HQT hqt
  rw [← hQB] at HQB hqb
  have HQTE := hide hQT
  have HQBE := hide hQB
  clear hQT hQB
  have HEE : Hid (strB (tmT 16 nm tx bk r (tkL ks)) = ⟨#[107, 101, 101, 112, 32]⟩ ++ strB (argT r)) := by
    show _ = _
    rw [HE.out, show (⟨#[107, 101, 101, 112, 32]⟩ : ByteArray) = strB (wordT 16 ++ [32]) from by decide +kernel]
    skip
    simp only [← strS_append]
    congr 1
    simp [restT]
  have zl : (⟨#[107, 101, 101, 112, 32]⟩ : ByteArray).size = 5 := rfl
  clear HE
  obtain ⟨T, hTT⟩ : ∃ T, T = strB (tmT 16 nm tx bk r (tkL ks)) := ⟨_, rfl⟩
  rw [← hTT] at HEE ⊢
  obtain ⟨AR, hAR⟩ : ∃ AR, AR = strB (argT r) := ⟨_, rfl⟩
  rw [← hAR] at HARG has HEE
  obtain ⟨RT, hRT⟩ : ∃ RT, RT = strB (reT r) := ⟨_, rfl⟩
  rw [← hRT] at HARG HOF hrs
  have HP := hide hP
  clear hTT hAR hRT hl hwf ih hT hS hP hrl hlen
  obtain ⟨q, rfl⟩ | rfl := HP.out
  all_goals
    try unfold PT at HOF c3
    unfold PT
    go_enter Tryz.func16, Tryz.ntmps16
    go_wp2_with fail
    refine HOF.out.mono ?_
    rintro e w1 ⟨rfl, hb1⟩
    have HB1 := hide hb1
    obtain ⟨x0, x2, x4, x5, x6⟩ := HCC.out w1 hb1
    clear hb1 HOF c3 c0w
    go_wp2
    all_goals try (exfalso; simp only [ByteArray.size_append] at *; omega)
    go_ret
    refine ⟨?_, HB1.out⟩
    rw [HEE.out]
    first | rfl | (rw [← HARG.out]; rfl)

set_option maxHeartbeats 4000000 in
theorem write_3 (b : Nat) (nm tx bk : ByteArray) (r : Option RE) (ks : List TM) (rp : Value) (a : Option Addr) (c : Nat) (w : World) (hS : TmSee w b 3 nm tx bk r ks rp a c) (hwf : WfT (.mk 3 nm tx bk r ks)) (ih : ∀ x ∈ ks, LwT x) (hl : (tmT 3 nm tx bk r (tkL ks)).length ≤ 800000000) (hT : TabAt w) :
    Calls Tryz.prog 16 #[PT b] w fun e w' => e = .returned (.string (strB (tmT 3 nm tx bk r (tkL ks)))) ∧ Below w.heap.size w w' := by
  obtain ⟨hz1, hz2, hz3⟩ := hwf.sz
  have hlen : ks.length = kidsO 3 := hwf.len
  have hrl : (reT r).length ≤ 1000000 := by
    cases r with
    | none => simp [reT]
    | some q => exact (hwf.re q rfl).2
  have HOF : Hid (Calls Tryz.prog 44 #[rp] w fun e w' => e = .returned (.string (strB (reT r))) ∧ Below w.heap.size w w') := textOf_opt r rp w hS.re hwf.re hT
  have hP : (∃ q, rp = PT q) ∨ rp = .pointer none := by
    have := hS.re
    cases r with
    | none => exact .inr this
    | some r => obtain ⟨p, e, -⟩ := this; exact .inl ⟨p, e⟩
  have hrs : (strB (reT r)).size ≤ 1000000 := by rw [strS_size]; exact hrl
  have has := argS_len r hrl
  have HARG := hide (argS r)
  have zs : (⟨#[47]⟩ : ByteArray).size = 1 := rfl
  have z1 : (⟨#[32]⟩ : ByteArray).size = 1 := rfl
  have c3 := hS.c3 w (Below.refl _ _)
  have c0w := hS.c0 w (Below.refl _ _)
  have HSS := hide hS
  have HT := hide hT
  have HCC : Hid (∀ W, Below w.heap.size w W → W.cell? ⟨b, 0, none⟩ = some (.int .i64 (3 : Nat)) ∧ W.cell? ⟨b, 2, none⟩ = some (.string nm) ∧ W.cell? ⟨b, 4, none⟩ = some (.string tx) ∧ W.cell? ⟨b, 5, none⟩ = some (.string bk) ∧ W.cell? ⟨b, 6, none⟩ = some (.slice a ks.length c)) := fun W h => ⟨hS.c0 W h, hS.c2 W h, hS.c4 W h, hS.c5 W h, hS.c6 W h⟩
  have HE : Hid (tmT 3 nm tx bk r (tkL ks) = wordT 3 ++ restT 3 nm tx bk r) := tmT_leaf _ _ _ _ _ _ (by decide)
  have HQT : Hid (∀ W, Calls Tryz.prog 27 #[.string tx] W fun e w' => e = .returned (.string (strB (quoteT tx))) ∧ Below W.heap.size W w') := fun W => lquote_any tx hz2 W
  have HQB : Hid (∀ W, Calls Tryz.prog 27 #[.string bk] W fun e w' => e = .returned (.string (strB (quoteT bk))) ∧ Below W.heap.size W w') := fun W => lquote_any bk hz3 W
  have hqt : (strB (quoteT tx)).size ≤ 4000002 := by rw [strS_size]; have := quoteT_len tx; omega
  have hqb : (strB (quoteT bk)).size ≤ 4000002 := by rw [strS_size]; have := quoteT_len bk; omega
  have HNM := hide (strS_of nm)
  obtain ⟨QT, hQT⟩ : ∃ QT, QT = strB (quoteT tx) := ⟨_, rfl⟩
  obtain ⟨QB, hQB⟩ : ∃ QB, QB = strB (quoteT bk) := ⟨_, rfl⟩
  rw [← hQT] at HQT hqt
  rw [← hQB] at HQB hqb
  have HQTE := hide hQT
  have HQBE := hide hQB
  clear hQT hQB
  have HEE : Hid (strB (tmT 3 nm tx bk r (tkL ks)) = ⟨#[107, 101, 121, 32]⟩ ++ nm ++ ⟨#[32]⟩ ++ strB (argT r)) := by
    show _ = _
    rw [HE.out, show (⟨#[107, 101, 121, 32]⟩ : ByteArray) = strB (wordT 3 ++ [32]) from by decide +kernel, show (⟨#[32]⟩ : ByteArray) = strB [32] from by decide +kernel]
    conv => rhs; rw [← HNM.out]
    simp only [← strS_append]
    congr 1
    simp [restT]
  have zl : (⟨#[107, 101, 121, 32]⟩ : ByteArray).size = 4 := rfl
  clear HE
  obtain ⟨T, hTT⟩ : ∃ T, T = strB (tmT 3 nm tx bk r (tkL ks)) := ⟨_, rfl⟩
  rw [← hTT] at HEE ⊢
  obtain ⟨AR, hAR⟩ : ∃ AR, AR = strB (argT r) := ⟨_, rfl⟩
  rw [← hAR] at HARG has HEE
  obtain ⟨RT, hRT⟩ : ∃ RT, RT = strB (reT r) := ⟨_, rfl⟩
  rw [← hRT] at HARG HOF hrs
  have HP := hide hP
  clear hTT hAR hRT hl hwf ih hT hS hP hrl hlen
  obtain ⟨q, rfl⟩ | rfl := HP.out
  all_goals
    try unfold PT at HOF c3
    unfold PT
    go_enter Tryz.func16, Tryz.ntmps16
    go_wp2_with fail
    refine HOF.out.mono ?_
    rintro e w1 ⟨rfl, hb1⟩
    have HB1 := hide hb1
    obtain ⟨x0, x2, x4, x5, x6⟩ := HCC.out w1 hb1
    clear hb1 HOF c3 c0w
    go_wp2
    all_goals try (exfalso; simp only [ByteArray.size_append] at *; omega)
    go_ret
    refine ⟨?_, HB1.out⟩
    rw [HEE.out]
    first | rfl | (rw [← HARG.out]; rfl)

set_option maxHeartbeats 4000000 in
theorem write_6 (b : Nat) (nm tx bk : ByteArray) (r : Option RE) (ks : List TM) (rp : Value) (a : Option Addr) (c : Nat) (w : World) (hS : TmSee w b 6 nm tx bk r ks rp a c) (hwf : WfT (.mk 6 nm tx bk r ks)) (ih : ∀ x ∈ ks, LwT x) (hl : (tmT 6 nm tx bk r (tkL ks)).length ≤ 800000000) (hT : TabAt w) :
    Calls Tryz.prog 16 #[PT b] w fun e w' => e = .returned (.string (strB (tmT 6 nm tx bk r (tkL ks)))) ∧ Below w.heap.size w w' := by
  obtain ⟨hz1, hz2, hz3⟩ := hwf.sz
  have hlen : ks.length = kidsO 6 := hwf.len
  have hrl : (reT r).length ≤ 1000000 := by
    cases r with
    | none => simp [reT]
    | some q => exact (hwf.re q rfl).2
  have HOF : Hid (Calls Tryz.prog 44 #[rp] w fun e w' => e = .returned (.string (strB (reT r))) ∧ Below w.heap.size w w') := textOf_opt r rp w hS.re hwf.re hT
  have hP : (∃ q, rp = PT q) ∨ rp = .pointer none := by
    have := hS.re
    cases r with
    | none => exact .inr this
    | some r => obtain ⟨p, e, -⟩ := this; exact .inl ⟨p, e⟩
  have hrs : (strB (reT r)).size ≤ 1000000 := by rw [strS_size]; exact hrl
  have has := argS_len r hrl
  have HARG := hide (argS r)
  have zs : (⟨#[47]⟩ : ByteArray).size = 1 := rfl
  have z1 : (⟨#[32]⟩ : ByteArray).size = 1 := rfl
  have c3 := hS.c3 w (Below.refl _ _)
  have c0w := hS.c0 w (Below.refl _ _)
  have HSS := hide hS
  have HT := hide hT
  have HCC : Hid (∀ W, Below w.heap.size w W → W.cell? ⟨b, 0, none⟩ = some (.int .i64 (6 : Nat)) ∧ W.cell? ⟨b, 2, none⟩ = some (.string nm) ∧ W.cell? ⟨b, 4, none⟩ = some (.string tx) ∧ W.cell? ⟨b, 5, none⟩ = some (.string bk) ∧ W.cell? ⟨b, 6, none⟩ = some (.slice a ks.length c)) := fun W h => ⟨hS.c0 W h, hS.c2 W h, hS.c4 W h, hS.c5 W h, hS.c6 W h⟩
  have HE : Hid (tmT 6 nm tx bk r (tkL ks) = wordT 6 ++ restT 6 nm tx bk r) := tmT_leaf _ _ _ _ _ _ (by decide)
  have HQT : Hid (∀ W, Calls Tryz.prog 27 #[.string tx] W fun e w' => e = .returned (.string (strB (quoteT tx))) ∧ Below W.heap.size W w') := fun W => lquote_any tx hz2 W
  have HQB : Hid (∀ W, Calls Tryz.prog 27 #[.string bk] W fun e w' => e = .returned (.string (strB (quoteT bk))) ∧ Below W.heap.size W w') := fun W => lquote_any bk hz3 W
  have hqt : (strB (quoteT tx)).size ≤ 4000002 := by rw [strS_size]; have := quoteT_len tx; omega
  have hqb : (strB (quoteT bk)).size ≤ 4000002 := by rw [strS_size]; have := quoteT_len bk; omega
  have HNM := hide (strS_of nm)
  obtain ⟨QT, hQT⟩ : ∃ QT, QT = strB (quoteT tx) := ⟨_, rfl⟩
  obtain ⟨QB, hQB⟩ : ∃ QB, QB = strB (quoteT bk) := ⟨_, rfl⟩
  rw [← hQT] at HQT hqt
  rw [← hQB] at HQB hqb
  have HQTE := hide hQT
  have HQBE := hide hQB
  clear hQT hQB
  have HEE : Hid (strB (tmT 6 nm tx bk r (tkL ks)) = ⟨#[105, 110, 115, 32]⟩ ++ QT) := by
    show _ = _
    rw [HE.out, HQTE.out, show (⟨#[105, 110, 115, 32]⟩ : ByteArray) = strB (wordT 6 ++ [32]) from by decide +kernel]
    skip
    simp only [← strS_append]
    congr 1
    simp [restT]
  have zl : (⟨#[105, 110, 115, 32]⟩ : ByteArray).size = 4 := rfl
  clear HE
  obtain ⟨T, hTT⟩ : ∃ T, T = strB (tmT 6 nm tx bk r (tkL ks)) := ⟨_, rfl⟩
  rw [← hTT] at HEE ⊢
  obtain ⟨AR, hAR⟩ : ∃ AR, AR = strB (argT r) := ⟨_, rfl⟩
  rw [← hAR] at HARG has
  obtain ⟨RT, hRT⟩ : ∃ RT, RT = strB (reT r) := ⟨_, rfl⟩
  rw [← hRT] at HARG HOF hrs
  have HP := hide hP
  clear hTT hAR hRT hl hwf ih hT hS hP hrl hlen
  obtain ⟨q, rfl⟩ | rfl := HP.out
  all_goals
    try unfold PT at HOF c3
    unfold PT
    go_enter Tryz.func16, Tryz.ntmps16
    go_wp2_with fail
    refine HOF.out.mono ?_
    rintro e w1 ⟨rfl, hb1⟩
    have HB1 := hide hb1
    obtain ⟨x0, x2, x4, x5, x6⟩ := HCC.out w1 hb1
    clear hb1 HOF c3 c0w
    go_wp2_with fail
    all_goals try (exfalso; simp only [ByteArray.size_append] at *; omega)
    refine (HQT.out w1).mono ?_
    rintro e w2 ⟨rfl, hb⟩
    have HB2 := hide (HB1.out.trans (hb.mono HB1.out.size))
    clear hb x0 x2 x4 x5 x6
    go_wp2
    all_goals try (exfalso; simp only [ByteArray.size_append] at *; omega)
    go_ret
    refine ⟨?_, HB2.out⟩
    rw [HEE.out]
    first | rfl | (rw [← HARG.out]; rfl)
end Go.Proofs.YtblpekljiilkjaaGreatDoor
/- Write, op by op. -/
namespace Go.Proofs.YtblpekljiilkjaaGreatDoor
set_option maxRecDepth 100000
set_option linter.unusedSimpArgs false
set_option linter.unusedVariables false
open Go.RowKit Go.Shelf

set_option maxHeartbeats 4000000 in
theorem write_9 (b : Nat) (nm tx bk : ByteArray) (r : Option RE) (ks : List TM) (rp : Value) (a : Option Addr) (c : Nat) (w : World) (hS : TmSee w b 9 nm tx bk r ks rp a c) (hwf : WfT (.mk 9 nm tx bk r ks)) (ih : ∀ x ∈ ks, LwT x) (hl : (tmT 9 nm tx bk r (tkL ks)).length ≤ 800000000) (hT : TabAt w) :
    Calls Tryz.prog 16 #[PT b] w fun e w' => e = .returned (.string (strB (tmT 9 nm tx bk r (tkL ks)))) ∧ Below w.heap.size w w' := by
  obtain ⟨hz1, hz2, hz3⟩ := hwf.sz
  have hlen : ks.length = kidsO 9 := hwf.len
  have hrl : (reT r).length ≤ 1000000 := by
    cases r with
    | none => simp [reT]
    | some q => exact (hwf.re q rfl).2
  have HOF : Hid (Calls Tryz.prog 44 #[rp] w fun e w' => e = .returned (.string (strB (reT r))) ∧ Below w.heap.size w w') := textOf_opt r rp w hS.re hwf.re hT
  have hP : (∃ q, rp = PT q) ∨ rp = .pointer none := by
    have := hS.re
    cases r with
    | none => exact .inr this
    | some r => obtain ⟨p, e, -⟩ := this; exact .inl ⟨p, e⟩
  have hrs : (strB (reT r)).size ≤ 1000000 := by rw [strS_size]; exact hrl
  have has := argS_len r hrl
  have HARG := hide (argS r)
  have zs : (⟨#[47]⟩ : ByteArray).size = 1 := rfl
  have z1 : (⟨#[32]⟩ : ByteArray).size = 1 := rfl
  have c3 := hS.c3 w (Below.refl _ _)
  have c0w := hS.c0 w (Below.refl _ _)
  have HSS := hide hS
  have HT := hide hT
  have HCC : Hid (∀ W, Below w.heap.size w W → W.cell? ⟨b, 0, none⟩ = some (.int .i64 (9 : Nat)) ∧ W.cell? ⟨b, 2, none⟩ = some (.string nm) ∧ W.cell? ⟨b, 4, none⟩ = some (.string tx) ∧ W.cell? ⟨b, 5, none⟩ = some (.string bk) ∧ W.cell? ⟨b, 6, none⟩ = some (.slice a ks.length c)) := fun W h => ⟨hS.c0 W h, hS.c2 W h, hS.c4 W h, hS.c5 W h, hS.c6 W h⟩
  obtain ⟨k0, hks⟩ : ∃ k0, ks = [k0] := by
    have h1 : ks.length = 1 := hlen
    match ks, h1 with
    | [k0], _ => exact ⟨k0, rfl⟩
  subst hks
  have hl0 : k0.txt.length ≤ 800000000 := Nat.le_trans (tmT_ge 9 nm tx bk r [k0] (by decide) k0 (by simp)) hl
  obtain ⟨g0, f0, p0, ha0, hpc0, ht0⟩ := hS.kid 0 (by simp)
  have ht0 : TmAt w p0 k0 := ht0
  subst ha0
  have HK0 : Hid (∀ W, Below w.heap.size w W → Calls Tryz.prog 45 #[PT p0, .int .i64 3] W fun e w' => e = .returned (.string (strB (inT (levT k0.op) 3 k0.txt))) ∧ Below W.heap.size W w') := fun W hW => within_any k0 (hwf.kid k0 (by simp)) (ih k0 (by simp)) p0 3 W (ht0.keep hW) hl0 (hT.onS hW) (by omega)
  have hs0 : (strB (inT (levT k0.op) 3 k0.txt)).size ≤ 800000002 := by rw [strS_size]; have := inT_len (levT k0.op) 3 k0.txt; omega
  obtain ⟨A0, hA0⟩ : ∃ A0, A0 = strB (inT (levT k0.op) 3 k0.txt) := ⟨_, rfl⟩
  rw [← hA0] at HK0 hs0
  have HAE0 := hide hA0
  have HPC0 := hide hpc0
  clear hA0 hpc0 ht0 hl0
  have HE : Hid (strB (tmT 9 nm tx bk r (tkL [k0])) = A0 ++ ⟨#[42]⟩) := by
    show _ = _
    rw [HAE0.out, tmT_9, show (⟨#[42]⟩ : ByteArray) = strB [42] from by decide +kernel, ← strS_append]
    congr 1
    simp only [tkL, List.map_cons, List.map_nil, tkT]
    rw [if_neg (by omega), List.nil_append, List.append_nil]
    rfl
  have z41 : (⟨#[41]⟩ : ByteArray).size = 1 := rfl
  have z42 : (⟨#[42]⟩ : ByteArray).size = 1 := rfl
  have z44 : (⟨#[44, 32]⟩ : ByteArray).size = 2 := rfl
  obtain ⟨T, hTT⟩ : ∃ T, T = strB (tmT 9 nm tx bk r (tkL [k0])) := ⟨_, rfl⟩
  rw [← hTT] at HE ⊢
  obtain ⟨AR, hAR⟩ : ∃ AR, AR = strB (argT r) := ⟨_, rfl⟩
  rw [← hAR] at HARG has
  obtain ⟨RT, hRT⟩ : ∃ RT, RT = strB (reT r) := ⟨_, rfl⟩
  rw [← hRT] at HARG HOF hrs
  have HP := hide hP
  clear hTT hAR hRT hl hwf ih hT hS hP hrl hlen
  obtain ⟨q, rfl⟩ | rfl := HP.out
  all_goals
    try unfold PT at HOF c3
    unfold PT
    go_enter Tryz.func16, Tryz.ntmps16
    go_wp2_with fail
    refine HOF.out.mono ?_
    rintro e w1 ⟨rfl, hb1⟩
    have HB1 := hide hb1
    obtain ⟨x0, x2, x4, x5, x6⟩ := HCC.out w1 hb1
    clear hb1 HOF c3 c0w
    have hpk := HPC0.out w1 HB1.out
    rw [Nat.add_zero] at hpk
    try unfold PT at hpk HK0
    go_wp2_with fail
    all_goals try (exfalso; simp only [ByteArray.size_append] at *; omega)
    refine (HK0.out w1 HB1.out).mono ?_
    rintro e w2 ⟨rfl, hb⟩
    have HB2 := hide (HB1.out.trans (hb.mono HB1.out.size))
    clear hb x0 x2 x4 x5 x6
    go_wp2
    all_goals try (exfalso; simp only [ByteArray.size_append] at *; omega)
    go_ret
    refine ⟨?_, HB2.out⟩
    rw [HE.out]
    first | rfl | (rw [← HARG.out]; rfl)

set_option maxHeartbeats 4000000 in
theorem write_12 (b : Nat) (nm tx bk : ByteArray) (r : Option RE) (ks : List TM) (rp : Value) (a : Option Addr) (c : Nat) (w : World) (hS : TmSee w b 12 nm tx bk r ks rp a c) (hwf : WfT (.mk 12 nm tx bk r ks)) (ih : ∀ x ∈ ks, LwT x) (hl : (tmT 12 nm tx bk r (tkL ks)).length ≤ 800000000) (hT : TabAt w) :
    Calls Tryz.prog 16 #[PT b] w fun e w' => e = .returned (.string (strB (tmT 12 nm tx bk r (tkL ks)))) ∧ Below w.heap.size w w' := by
  obtain ⟨hz1, hz2, hz3⟩ := hwf.sz
  have hlen : ks.length = kidsO 12 := hwf.len
  have hrl : (reT r).length ≤ 1000000 := by
    cases r with
    | none => simp [reT]
    | some q => exact (hwf.re q rfl).2
  have HOF : Hid (Calls Tryz.prog 44 #[rp] w fun e w' => e = .returned (.string (strB (reT r))) ∧ Below w.heap.size w w') := textOf_opt r rp w hS.re hwf.re hT
  have hP : (∃ q, rp = PT q) ∨ rp = .pointer none := by
    have := hS.re
    cases r with
    | none => exact .inr this
    | some r => obtain ⟨p, e, -⟩ := this; exact .inl ⟨p, e⟩
  have hrs : (strB (reT r)).size ≤ 1000000 := by rw [strS_size]; exact hrl
  have has := argS_len r hrl
  have HARG := hide (argS r)
  have zs : (⟨#[47]⟩ : ByteArray).size = 1 := rfl
  have z1 : (⟨#[32]⟩ : ByteArray).size = 1 := rfl
  have c3 := hS.c3 w (Below.refl _ _)
  have c0w := hS.c0 w (Below.refl _ _)
  have HSS := hide hS
  have HT := hide hT
  have HCC : Hid (∀ W, Below w.heap.size w W → W.cell? ⟨b, 0, none⟩ = some (.int .i64 (12 : Nat)) ∧ W.cell? ⟨b, 2, none⟩ = some (.string nm) ∧ W.cell? ⟨b, 4, none⟩ = some (.string tx) ∧ W.cell? ⟨b, 5, none⟩ = some (.string bk) ∧ W.cell? ⟨b, 6, none⟩ = some (.slice a ks.length c)) := fun W h => ⟨hS.c0 W h, hS.c2 W h, hS.c4 W h, hS.c5 W h, hS.c6 W h⟩
  obtain ⟨k0, hks⟩ : ∃ k0, ks = [k0] := by
    have h1 : ks.length = 1 := hlen
    match ks, h1 with
    | [k0], _ => exact ⟨k0, rfl⟩
  subst hks
  have hl0 : k0.txt.length ≤ 800000000 := Nat.le_trans (tmT_ge 12 nm tx bk r [k0] (by decide) k0 (by simp)) hl
  obtain ⟨g0, f0, p0, ha0, hpc0, ht0⟩ := hS.kid 0 (by simp)
  have ht0 : TmAt w p0 k0 := ht0
  subst ha0
  have HK0 : Hid (∀ W, Below w.heap.size w W → Calls Tryz.prog 16 #[PT p0] W fun e w' => e = .returned (.string (strB k0.txt)) ∧ Below W.heap.size W w') := fun W hW => ih k0 (by simp) p0 W (ht0.keep hW) hl0 (hT.onS hW)
  have hs0 : (strB k0.txt).size ≤ 800000002 := by rw [strS_size]; omega
  obtain ⟨A0, hA0⟩ : ∃ A0, A0 = strB k0.txt := ⟨_, rfl⟩
  rw [← hA0] at HK0 hs0
  have HAE0 := hide hA0
  have HPC0 := hide hpc0
  clear hA0 hpc0 ht0 hl0
  have HE : Hid (strB (tmT 12 nm tx bk r (tkL [k0])) = ⟨#[105, 110, 118, 40]⟩ ++ A0 ++ ⟨#[41]⟩) := by
    show _ = _
    rw [HAE0.out, tmT_word _ _ _ _ _ _ (by decide) (by decide) (by decide), show (⟨#[105, 110, 118, 40]⟩ : ByteArray) = strB (wordT 12 ++ [40]) from by decide +kernel, show (⟨#[41]⟩ : ByteArray) = strB [41] from by decide +kernel]
    skip
    simp only [← strS_append]
    congr 1
    simp only [tkL, List.map_cons, List.map_nil, tkT]
    rw [if_neg (by omega)]
    have e : ∀ l i t, inT l (mustT 12 i) t = t := fun l i t => by unfold inT; rw [if_neg (by rw [show mustT 12 i = 0 from rfl]; omega)]
    simp only [e, List.nil_append, List.append_nil, List.append_assoc]
  have zl : (⟨#[105, 110, 118, 40]⟩ : ByteArray).size = 4 := rfl
  have z41 : (⟨#[41]⟩ : ByteArray).size = 1 := rfl
  have z42 : (⟨#[42]⟩ : ByteArray).size = 1 := rfl
  have z44 : (⟨#[44, 32]⟩ : ByteArray).size = 2 := rfl
  obtain ⟨T, hTT⟩ : ∃ T, T = strB (tmT 12 nm tx bk r (tkL [k0])) := ⟨_, rfl⟩
  rw [← hTT] at HE ⊢
  obtain ⟨AR, hAR⟩ : ∃ AR, AR = strB (argT r) := ⟨_, rfl⟩
  rw [← hAR] at HARG has
  obtain ⟨RT, hRT⟩ : ∃ RT, RT = strB (reT r) := ⟨_, rfl⟩
  rw [← hRT] at HARG HOF hrs
  have HP := hide hP
  clear hTT hAR hRT hl hwf ih hT hS hP hrl hlen
  obtain ⟨q, rfl⟩ | rfl := HP.out
  all_goals
    try unfold PT at HOF c3
    unfold PT
    go_enter Tryz.func16, Tryz.ntmps16
    go_wp2_with fail
    refine HOF.out.mono ?_
    rintro e w1 ⟨rfl, hb1⟩
    have HB1 := hide hb1
    obtain ⟨x0, x2, x4, x5, x6⟩ := HCC.out w1 hb1
    clear hb1 HOF c3 c0w
    have hpk := HPC0.out w1 HB1.out
    rw [Nat.add_zero] at hpk
    try unfold PT at hpk HK0
    go_wp2_with fail
    all_goals try (exfalso; simp only [ByteArray.size_append] at *; omega)
    refine (HK0.out w1 HB1.out).mono ?_
    rintro e w2 ⟨rfl, hb⟩
    have HB2 := hide (HB1.out.trans (hb.mono HB1.out.size))
    clear hb x0 x2 x4 x5 x6
    go_wp2
    all_goals try (exfalso; simp only [ByteArray.size_append] at *; omega)
    go_ret
    refine ⟨?_, HB2.out⟩
    rw [HE.out]
    first | rfl | (rw [← HARG.out]; rfl)

set_option maxHeartbeats 4000000 in
theorem write_13 (b : Nat) (nm tx bk : ByteArray) (r : Option RE) (ks : List TM) (rp : Value) (a : Option Addr) (c : Nat) (w : World) (hS : TmSee w b 13 nm tx bk r ks rp a c) (hwf : WfT (.mk 13 nm tx bk r ks)) (ih : ∀ x ∈ ks, LwT x) (hl : (tmT 13 nm tx bk r (tkL ks)).length ≤ 800000000) (hT : TabAt w) :
    Calls Tryz.prog 16 #[PT b] w fun e w' => e = .returned (.string (strB (tmT 13 nm tx bk r (tkL ks)))) ∧ Below w.heap.size w w' := by
  obtain ⟨hz1, hz2, hz3⟩ := hwf.sz
  have hlen : ks.length = kidsO 13 := hwf.len
  have hrl : (reT r).length ≤ 1000000 := by
    cases r with
    | none => simp [reT]
    | some q => exact (hwf.re q rfl).2
  have HOF : Hid (Calls Tryz.prog 44 #[rp] w fun e w' => e = .returned (.string (strB (reT r))) ∧ Below w.heap.size w w') := textOf_opt r rp w hS.re hwf.re hT
  have hP : (∃ q, rp = PT q) ∨ rp = .pointer none := by
    have := hS.re
    cases r with
    | none => exact .inr this
    | some r => obtain ⟨p, e, -⟩ := this; exact .inl ⟨p, e⟩
  have hrs : (strB (reT r)).size ≤ 1000000 := by rw [strS_size]; exact hrl
  have has := argS_len r hrl
  have HARG := hide (argS r)
  have zs : (⟨#[47]⟩ : ByteArray).size = 1 := rfl
  have z1 : (⟨#[32]⟩ : ByteArray).size = 1 := rfl
  have c3 := hS.c3 w (Below.refl _ _)
  have c0w := hS.c0 w (Below.refl _ _)
  have HSS := hide hS
  have HT := hide hT
  have HCC : Hid (∀ W, Below w.heap.size w W → W.cell? ⟨b, 0, none⟩ = some (.int .i64 (13 : Nat)) ∧ W.cell? ⟨b, 2, none⟩ = some (.string nm) ∧ W.cell? ⟨b, 4, none⟩ = some (.string tx) ∧ W.cell? ⟨b, 5, none⟩ = some (.string bk) ∧ W.cell? ⟨b, 6, none⟩ = some (.slice a ks.length c)) := fun W h => ⟨hS.c0 W h, hS.c2 W h, hS.c4 W h, hS.c5 W h, hS.c6 W h⟩
  obtain ⟨k0, hks⟩ : ∃ k0, ks = [k0] := by
    have h1 : ks.length = 1 := hlen
    match ks, h1 with
    | [k0], _ => exact ⟨k0, rfl⟩
  subst hks
  have hl0 : k0.txt.length ≤ 800000000 := Nat.le_trans (tmT_ge 13 nm tx bk r [k0] (by decide) k0 (by simp)) hl
  obtain ⟨g0, f0, p0, ha0, hpc0, ht0⟩ := hS.kid 0 (by simp)
  have ht0 : TmAt w p0 k0 := ht0
  subst ha0
  have HK0 : Hid (∀ W, Below w.heap.size w W → Calls Tryz.prog 16 #[PT p0] W fun e w' => e = .returned (.string (strB k0.txt)) ∧ Below W.heap.size W w') := fun W hW => ih k0 (by simp) p0 W (ht0.keep hW) hl0 (hT.onS hW)
  have hs0 : (strB k0.txt).size ≤ 800000002 := by rw [strS_size]; omega
  obtain ⟨A0, hA0⟩ : ∃ A0, A0 = strB k0.txt := ⟨_, rfl⟩
  rw [← hA0] at HK0 hs0
  have HAE0 := hide hA0
  have HPC0 := hide hpc0
  clear hA0 hpc0 ht0 hl0
  have HE : Hid (strB (tmT 13 nm tx bk r (tkL [k0])) = ⟨#[100, 105, 99, 116, 40]⟩ ++ A0 ++ ⟨#[41]⟩) := by
    show _ = _
    rw [HAE0.out, tmT_word _ _ _ _ _ _ (by decide) (by decide) (by decide), show (⟨#[100, 105, 99, 116, 40]⟩ : ByteArray) = strB (wordT 13 ++ [40]) from by decide +kernel, show (⟨#[41]⟩ : ByteArray) = strB [41] from by decide +kernel]
    skip
    simp only [← strS_append]
    congr 1
    simp only [tkL, List.map_cons, List.map_nil, tkT]
    rw [if_neg (by omega)]
    have e : ∀ l i t, inT l (mustT 13 i) t = t := fun l i t => by unfold inT; rw [if_neg (by rw [show mustT 13 i = 0 from rfl]; omega)]
    simp only [e, List.nil_append, List.append_nil, List.append_assoc]
  have zl : (⟨#[100, 105, 99, 116, 40]⟩ : ByteArray).size = 5 := rfl
  have z41 : (⟨#[41]⟩ : ByteArray).size = 1 := rfl
  have z42 : (⟨#[42]⟩ : ByteArray).size = 1 := rfl
  have z44 : (⟨#[44, 32]⟩ : ByteArray).size = 2 := rfl
  obtain ⟨T, hTT⟩ : ∃ T, T = strB (tmT 13 nm tx bk r (tkL [k0])) := ⟨_, rfl⟩
  rw [← hTT] at HE ⊢
  obtain ⟨AR, hAR⟩ : ∃ AR, AR = strB (argT r) := ⟨_, rfl⟩
  rw [← hAR] at HARG has
  obtain ⟨RT, hRT⟩ : ∃ RT, RT = strB (reT r) := ⟨_, rfl⟩
  rw [← hRT] at HARG HOF hrs
  have HP := hide hP
  clear hTT hAR hRT hl hwf ih hT hS hP hrl hlen
  obtain ⟨q, rfl⟩ | rfl := HP.out
  all_goals
    try unfold PT at HOF c3
    unfold PT
    go_enter Tryz.func16, Tryz.ntmps16
    go_wp2_with fail
    refine HOF.out.mono ?_
    rintro e w1 ⟨rfl, hb1⟩
    have HB1 := hide hb1
    obtain ⟨x0, x2, x4, x5, x6⟩ := HCC.out w1 hb1
    clear hb1 HOF c3 c0w
    have hpk := HPC0.out w1 HB1.out
    rw [Nat.add_zero] at hpk
    try unfold PT at hpk HK0
    go_wp2_with fail
    all_goals try (exfalso; simp only [ByteArray.size_append] at *; omega)
    refine (HK0.out w1 HB1.out).mono ?_
    rintro e w2 ⟨rfl, hb⟩
    have HB2 := hide (HB1.out.trans (hb.mono HB1.out.size))
    clear hb x0 x2 x4 x5 x6
    go_wp2
    all_goals try (exfalso; simp only [ByteArray.size_append] at *; omega)
    go_ret
    refine ⟨?_, HB2.out⟩
    rw [HE.out]
    first | rfl | (rw [← HARG.out]; rfl)
end Go.Proofs.YtblpekljiilkjaaGreatDoor
