/- TextBytes answers true for all bytes: each byte as it is written is that byte, alone, in a set, in a range. Conditions: the table of math/bits holds what its initialiser lays (the card ties that to the program's text). -/
/- Texts of this claim put together: LawHead4, RdL, LawTextBytes, ProofTextBytes. -/
import Derived.Test.YtkjmjppmpcnejaaGreatDoorJoinRdK
import Derived.Test.YtkjmjppmpcnejaaGreatDoorJoinTrJ
import Derived.Test.YtkjmjppmpcnejaaGreatDoorOpen
import Derived.Test.YtkjmjppmpcnejaaGreatDoorCards
import Derived.Test.YtkjmjppmpcnejaaGreatDoorTie
/- The document's example, as the statements of layer 4 ask it first. -/
namespace Go.Proofs.YtkjmjppmpcnejaaGreatDoor
set_option maxRecDepth 100000
set_option linter.unusedSimpArgs false
set_option linter.unusedVariables false
open Go.RowKit Go.Shelf

set_option maxHeartbeats 1000000 in
theorem head4_any (w : World) (hT : TabAt w) :
    Calls Tryz.prog 10 #[] w fun e w' => e = .returned (.bool true) ∧ Below w.heap.size w w' := by
  have hr := read_any exS w (by decide) hT
  have HR := hide hr
  have HT := hide hT
  clear hr hT
  unfold exS at HR
  go_enter Tryz.func10, Tryz.ntmps10
  go_wp2_with fail
  refine HR.out.mono ?_
  intro e w1 hp
  rw [show (⟨#[40, 97, 124, 98, 41, 42, 99, 45, 97, 98, 99]⟩ : ByteArray) = exS from rfl] at hp
  unfold ReadPost at hp
  rw [exS_b, ex_read] at hp
  obtain ⟨b, rfl, hR, hb⟩ := hp.1 ex_err
  have HB := hide hb
  have HRe := hide hR
  clear hp hR hb HR
  have ho := textOf_any exR b w1 ex_wf HRe.out (by rw [ex_txt]; simp) (HT.out.agree (Agree.of_all (K := fun _ => True) HB.out) trivial)
  rw [exT_b] at ho
  have HO := hide ho
  clear ho
  unfold PT at HO ⊢
  go_wp2_with fail
  refine HO.out.mono ?_
  rintro e w2 ⟨rfl, hb2⟩
  have HB2 := hide (HB.out.trans (hb2.mono HB.out.size))
  clear hb2 HO HRe
  unfold exT
  go_wp2
  go_ret
  exact ⟨rfl, HB2.out⟩
end Go.Proofs.YtkjmjppmpcnejaaGreatDoor
/- Read where it reads, where it does not; texts put together. -/
namespace Go.Proofs.YtkjmjppmpcnejaaGreatDoor
set_option maxRecDepth 100000
set_option linter.unusedSimpArgs false
set_option linter.unusedVariables false
open Go.RowKit Go.Shelf

/-- What Read answers where it reads. -/
theorem read_ok (s : ByteArray) (l : List Nat) (r : RE) (st : St) (hs : bytesN s = l) (hl : s.size ≤ 65536) (hr : readQ l = (r, st) ∧ (rdEnd l).err = 0) (w : World) (hT : TabAt w) :
    Calls Tryz.prog 15 #[.string s] w fun e w' => ∃ b, e = .returned (.tuple #[PT b, .int .i64 (0 : Nat), .int .i64 (0 : Nat)]) ∧ ReAt w' b r ∧ Below w.heap.size w w' := by
  refine (read_any s w hl hT).mono ?_
  intro e w' hp
  unfold ReadPost at hp
  rw [hs, hr.1] at hp
  exact hp.1 hr.2
theorem read_bad (s : ByteArray) (l : List Nat) (er : Nat) (hs : bytesN s = l) (hl : s.size ≤ 65536) (hr : (rdEnd l).err = er) (h0 : er ≠ 0) (w : World) (hT : TabAt w) :
    Calls Tryz.prog 15 #[.string s] w fun e w' => ∃ wh : Nat, e = .returned (.tuple #[.pointer none, .int .i64 er, .int .i64 wh]) ∧ Below w.heap.size w w' := by
  refine (read_any s w hl hT).mono ?_
  intro e w' hp
  unfold ReadPost at hp
  rw [hs, hr] at hp
  exact ⟨_, hp.2 h0⟩
theorem byteW_lt : ∀ c < 256, ∀ x ∈ byteW c, x < 256 := by decide +kernel
theorem bytesN_strB {l : List Nat} (h : ∀ x ∈ l, x < 256) : bytesN (strB l) = l := by
  simp only [bytesN, strB, strOfNums, List.map_map, Function.comp_def, Int.toNat_natCast]
  have : l.map (fun x => (UInt8.ofNat x).toNat) = l.map id := List.map_congr_left fun x hx => by
    have := h x hx
    simp; omega
  simpa using this
theorem strB_size (l : List Nat) : (strB l).size = l.length := by simp [strB, strOfNums, ByteArray.size]
theorem strB_append (a b : List Nat) : strB (a ++ b) = strB a ++ strB b := by
  apply ByteArray.ext
  simp [strB, strOfNums]
end Go.Proofs.YtkjmjppmpcnejaaGreatDoor
/- TextBytes. -/
namespace Go.Proofs.YtkjmjppmpcnejaaGreatDoor
set_option maxRecDepth 100000
set_option linter.unusedSimpArgs false
set_option linter.unusedVariables false
open Go.RowKit Go.Shelf

theorem TabAt.on {w w' : World} (hT : TabAt w) (hb : Below w.heap.size w w') : TabAt w' := hT.agree (Agree.of_all (K := fun _ => True) hb) trivial
theorem bytesN_append (x y : ByteArray) : bytesN (x ++ y) = bytesN x ++ bytesN y := by simp [bytesN]
theorem z91 : (⟨#[91]⟩ : ByteArray).size = 1 := rfl
theorem z93 : (⟨#[93]⟩ : ByteArray).size = 1 := rfl
theorem z45 : (⟨#[45]⟩ : ByteArray).size = 1 := rfl
theorem z94 : (⟨#[91, 94]⟩ : ByteArray).size = 2 := rfl
theorem read_turned (a b : Nat) (ha : a < 256) (hb : b < 256) (s : ByteArray) (hs : bytesN s = 91 :: (byteW (max a b) ++ 45 :: (byteW (min a b) ++ [93]))) (hl : s.size ≤ 65536) (w : World) (hT : TabAt w) :
    Calls Tryz.prog 15 #[.string s] w fun e w' => ∃ (v : Value) (er wh : Nat), e = .returned (.tuple #[v, .int .i64 er, .int .i64 wh]) ∧ (er = 0 ↔ a = b) ∧ Below w.heap.size w w' := by
  by_cases h : a = b
  · refine (read_ok s _ _ _ hs hl (rd_range (by omega) (by omega) (by omega)) w hT).mono ?_
    rintro e w' ⟨p, rfl, -, hb⟩
    exact ⟨_, 0, 0, rfl, by simp [h], hb⟩
  · refine (read_bad s _ 2 hs hl (rd_wrong (by omega) (by omega) (by omega)) (by omega) w hT).mono ?_
    rintro e w' ⟨wh, rfl, hb⟩
    exact ⟨_, 2, wh, rfl, by simp [h], hb⟩
theorem same_self (r : RE) (p q : Nat) (w : World) (hr : Wf r) (hp : ReAt w p r) (hq : ReAt w q r) (hT : TabAt w) :
    Calls Tryz.prog 16 #[PT p, PT q] w fun e w' => e = .returned (.bool true) ∧ Below w.heap.size w w' := by
  refine (same_re r r p q w hr.k hr.k hp hq hT).mono ?_
  rintro e w' ⟨rfl, hm⟩
  exact ⟨by rw [lexN_self]; rfl, hm.below⟩
theorem row_1 {w : World} {c : Nat} {g : Nat} (hg : Blk w g #[.int .u8 c] 5) : ∀ k, k < [c].length → ∃ b off, (some ⟨g, 0, none⟩ : Option Addr) = some ⟨b, off, none⟩ ∧ b < w.heap.size ∧ w.cell? ⟨b, off + k, none⟩ = some (.int .u8 (([c] : List Nat).getD k 0)) := fun k hk => by
  obtain rfl : k = 0 := by simp at hk; omega
  exact ⟨_, _, rfl, hg.lt, hg.cell 0⟩
set_option maxHeartbeats 4000000 in
theorem textBytes_any (a b : Nat) (ha : a < 256) (hb : b < 256) (w : World) (hT : TabAt w) :
    Calls Tryz.prog 5 #[.int .u8 a, .int .u8 b] w fun e w' => e = .returned (.bool true) ∧ Below w.heap.size w w' := by
  have HT := hide hT
  have hmi : min (a : Int) (b : Int) = ((min a b : Nat) : Int) := by omega
  have hMa : max (a : Int) (b : Int) = ((max a b : Nat) : Int) := by omega
  have hm6 : min a b < 256 := by omega
  have hM6 : max a b < 256 := by omega
  have hmM : min a b ≤ max a b := by omega
  have hsm : (strB (byteW (min a b))).size ≤ 4 := by have := byteW_len (min a b); rw [strB_size]; omega
  have hsM : (strB (byteW (max a b))).size ≤ 4 := by have := byteW_len (max a b); rw [strB_size]; omega
  clear hT
  go_enter Tryz.func5, Tryz.ntmps5
  go_wp2_with fail
  refine (head4_any w HT.out).mono ?_
  rintro e w1 ⟨rfl, hb1⟩
  have HB1 := hide hb1
  clear hb1
  go_wp2_with fail
  refine (textByte_any a ha w1).mono ?_
  rintro e w2 ⟨rfl, hb2⟩
  have HB2 := hide (HB1.out.trans (hb2.mono HB1.out.size))
  clear hb2 HB1
  go_wp2_with fail
  have hbl := byteW_len a
  refine (read_ok (strB (byteW a)) _ _ _ (bytesN_strB (byteW_lt a ha)) (by rw [strB_size]; omega) (rd_byte ha) w2 (HT.out.on HB2.out)).mono ?_
  rintro e w3 ⟨p3, rfl, hr3, hb3⟩
  have HB3 := hide (HB2.out.trans (hb3.mono HB2.out.size))
  have HR3 := hide hr3
  clear hb3 hr3 HB2
  unfold PT
  have hsa : (strB (byteW a)).size ≤ 4 := by rw [strB_size]; omega
  go_wp2_with fail
  all_goals try (exfalso; omega)
  refine (read_ok _ (91 :: (byteW a ++ [93])) _ _ (by rw [bytesN_append, bytesN_append, bytesN_strB (byteW_lt a ha)]; rfl) (by simp only [ByteArray.size_append, z91, z93]; omega) (rd_set ha) w3 (HT.out.on HB3.out)).mono ?_
  rintro e w4 ⟨p4, rfl, hr4, hb4⟩
  have HB4 := hide (HB3.out.trans (hb4.mono HB3.out.size))
  have HR4 := hide hr4
  have HR34 := hide (HR3.out.keep hb4)
  clear hb4 hr4 HB3 HR3
  unfold PT
  go_wp2_with fail
  try rw [hmi]
  refine (textByte_any (min a b) hm6 w4).mono ?_
  rintro e w5 ⟨rfl, hb5⟩
  have HB5 := hide (HB4.out.trans (hb5.mono HB4.out.size))
  have HR45 := hide (HR4.out.keep hb5)
  have HR35 := hide (HR34.out.keep hb5)
  clear hb5 HB4 HR4 HR34
  go_wp2_with fail
  all_goals try (exfalso; omega)
  try rw [hMa]
  refine (textByte_any (max a b) hM6 w5).mono ?_
  rintro e w6 ⟨rfl, hb6⟩
  have HB6 := hide (HB5.out.trans (hb6.mono HB5.out.size))
  have HR46 := hide (HR45.out.keep hb6)
  have HR36 := hide (HR35.out.keep hb6)
  clear hb6 HB5 HR45 HR35
  go_wp2_with fail
  all_goals try (exfalso; simp only [ByteArray.size_append, z91, z93, z45] at *; omega)
  refine (read_ok _ (91 :: (byteW (min a b) ++ 45 :: (byteW (max a b) ++ [93]))) _ _ (by simp only [bytesN_append, bytesN_strB (byteW_lt _ hm6), bytesN_strB (byteW_lt _ hM6), List.append_assoc]; rfl) (by simp only [ByteArray.size_append, z91, z93, z45]; omega) (rd_range hm6 hM6 hmM) w6 (HT.out.on HB6.out)).mono ?_
  rintro e w7 ⟨p7, rfl, hr7, hb7⟩
  have HB7 := hide (HB6.out.trans (hb7.mono HB6.out.size))
  have HR7 := hide hr7
  have HR47 := hide (HR46.out.keep hb7)
  have HR37 := hide (HR36.out.keep hb7)
  clear hb7 hr7 HB6 HR46 HR36
  unfold PT
  go_wp2_with fail
  try rw [hMa]
  refine (textByte_any (max a b) hM6 w7).mono ?_
  rintro e w8 ⟨rfl, hb8⟩
  have HB8 := hide (HB7.out.trans (hb8.mono HB7.out.size))
  have HR78 := hide (HR7.out.keep hb8)
  have HR48 := hide (HR47.out.keep hb8)
  have HR38 := hide (HR37.out.keep hb8)
  clear hb8 HB7 HR47 HR37 HR7
  go_wp2_with fail
  all_goals try (exfalso; omega)
  try rw [hmi]
  refine (textByte_any (min a b) hm6 w8).mono ?_
  rintro e w9 ⟨rfl, hb9⟩
  have HB9 := hide (HB8.out.trans (hb9.mono HB8.out.size))
  have HR79 := hide (HR78.out.keep hb9)
  have HR49 := hide (HR48.out.keep hb9)
  have HR39 := hide (HR38.out.keep hb9)
  clear hb9 HB8 HR48 HR38 HR78
  go_wp2_with fail
  all_goals try (exfalso; simp only [ByteArray.size_append, z91, z93, z45] at *; omega)
  refine (read_turned a b ha hb _ (by simp only [bytesN_append, bytesN_strB (byteW_lt _ hm6), bytesN_strB (byteW_lt _ hM6), List.append_assoc]; rfl) (by simp only [ByteArray.size_append, z91, z93, z45]; omega) w9 (HT.out.on HB9.out)).mono ?_
  rintro e w10 ⟨v10, er, wh, rfl, her, hb10⟩
  have HB10 := hide (HB9.out.trans (hb10.mono HB9.out.size))
  have HR70 := hide (HR79.out.keep hb10)
  have HR40 := hide (HR49.out.keep hb10)
  have HR30 := hide (HR39.out.keep hb10)
  have HER := hide her
  clear hb10 HB9 HR49 HR39 HR79 her
  go_wp2_with fail
  all_goals try (exfalso; simp only [ByteArray.size_append, z94, z93] at *; omega)
  refine (read_ok _ (91 :: 94 :: (byteW a ++ [93])) _ _ (by simp only [bytesN_append, bytesN_strB (byteW_lt _ ha), List.append_assoc]; rfl) (by simp only [ByteArray.size_append, z94, z93]; omega) (rd_not ha) w10 (HT.out.on HB10.out)).mono ?_
  rintro e w11 ⟨p11, rfl, hr11, hb11⟩
  have HB11 := hide (HB10.out.trans (hb11.mono HB10.out.size))
  have HRn := hide hr11
  have HRu := hide (HR70.out.keep hb11)
  have HRt := hide (HR40.out.keep hb11)
  have HRr := hide (HR30.out.keep hb11)
  clear hb11 hr11 HB10 HR40 HR30 HR70
  unfold PT
  have HS : Hid (∀ W, Below w11.heap.size w11 W → ReAt W p3 (rOne (setOf [a])) ∧ ReAt W p4 (rOne (setOf [a])) ∧ ReAt W p7 (rOne (span (min a b) (max a b + 1))) ∧ ReAt W p11 (rOne (~~~setOf [a])) ∧ TabAt W) :=
    fun W h => ⟨HRr.out.keep h, HRt.out.keep h, HRu.out.keep h, HRn.out.keep h, (HT.out.on HB11.out).on h⟩
  clear HRr HRt HRu HRn HT
  go_wp2_with fail
  have hb0 := (Below.refl w11.heap.size w11).alloc (Nat.le_refl _) (.cells #[.int .u8 (a : Nat)] 5)
  refine (of_any [a] (by simpa using ha) _ _ 1 (row_1 (Blk.newAt (w := w11) rfl #[.int .u8 (a : Nat)] 5)) (by simp)).mono ?_
  rintro e w12 ⟨rfl, hb⟩
  have H12 := hide (hb0.trans (hb.mono (by simp)))
  clear hb hb0
  unfold SV
  go_wp2_with fail
  refine (one_any (setOf [a]) w12).mono ?_
  rintro e w13 ⟨q13, rfl, hq, hb⟩
  have H13 := hide (H12.out.trans (hb.mono H12.out.size))
  have HQ := hide hq
  clear hq hb H12
  unfold PT
  go_wp2_with fail
  refine (same_self _ p3 q13 w13 (wf_one _) (HS.out _ H13.out).1 HQ.out (HS.out _ H13.out).2.2.2.2).mono ?_
  rintro e w14 ⟨rfl, hb⟩
  have H14 := hide (H13.out.trans (hb.mono H13.out.size))
  clear hb H13 HQ
  go_wp2_with fail
  refine (same_self _ p4 p3 w14 (wf_one _) (HS.out _ H14.out).2.1 (HS.out _ H14.out).1 (HS.out _ H14.out).2.2.2.2).mono ?_
  rintro e w15 ⟨rfl, hb⟩
  have H15 := hide (H14.out.trans (hb.mono H14.out.size))
  clear hb H14
  go_wp2_with fail
  try rw [hmi]
  try rw [hMa]
  refine (from_any (min a b) (max a b) hm6 hM6 w15).mono ?_
  rintro e w16 ⟨rfl, hb⟩
  have H16 := hide (H15.out.trans (hb.mono H15.out.size))
  clear hb H15
  unfold SV
  go_wp2_with fail
  refine (one_any (span (min a b) (max a b + 1)) w16).mono ?_
  rintro e w17 ⟨q17, rfl, hq, hb⟩
  have H17 := hide (H16.out.trans (hb.mono H16.out.size))
  have HQ := hide hq
  clear hq hb H16
  unfold PT
  go_wp2_with fail
  refine (same_self _ p7 q17 w17 (wf_one _) (HS.out _ H17.out).2.2.1 HQ.out (HS.out _ H17.out).2.2.2.2).mono ?_
  rintro e w18 ⟨rfl, hb⟩
  have H18 := hide (H17.out.trans (hb.mono H17.out.size))
  clear hb H17 HQ
  have her := HER.out
  clear HER
  by_cases hab : a = b
  · have h0 : er = 0 := her.2 hab
    subst h0
    subst hab
    clear her
    go_wp2_with fail
    have hb0 := (Below.refl w18.heap.size w18).alloc (Nat.le_refl _) (.cells #[.int .u8 (a : Nat)] 5)
    refine (of_any [a] (by simpa using ha) _ _ 1 (row_1 (Blk.newAt (w := w18) rfl #[.int .u8 (a : Nat)] 5)) (by simp)).mono ?_
    rintro e w19 ⟨rfl, hb⟩
    have H19 := hide (H18.out.trans ((hb0.trans (hb.mono (by simp))).mono H18.out.size))
    clear hb hb0 H18
    unfold SV
    go_wp2_with fail
    refine (not_any (setOf [a]) w19).mono ?_
    rintro e w20 ⟨rfl, hb⟩
    have H20 := hide (H19.out.trans (hb.mono H19.out.size))
    clear hb H19
    unfold SV
    go_wp2_with fail
    refine (one_any (~~~setOf [a]) w20).mono ?_
    rintro e w21 ⟨q21, rfl, hq, hb⟩
    have H21 := hide (H20.out.trans (hb.mono H20.out.size))
    have HQ := hide hq
    clear hq hb H20
    unfold PT
    go_wp2_with fail
    refine (same_self _ p11 q21 w21 (wf_one _) (HS.out _ H21.out).2.2.2.1 HQ.out (HS.out _ H21.out).2.2.2.2).mono ?_
    rintro e w22 ⟨rfl, hb⟩
    have H22 := hide (HB11.out.trans ((H21.out.trans (hb.mono H21.out.size)).mono HB11.out.size))
    clear hb H21 HQ
    go_wp2
    go_ret
    exact ⟨rfl, H22.out⟩
  · have h0 : er ≠ 0 := fun h => hab (her.1 h)
    have h0' : ¬ (er : Int) = 0 := by omega
    have hab' : ¬ (a : Int) = (b : Int) := by omega
    have hEQ : ((er : Int) == 0) = ((a : Int) == (b : Int)) := by rw [beq_eq_false_iff_ne.2 h0', beq_eq_false_iff_ne.2 hab']
    clear her
    go_wp2_with fail
    all_goals try (rename_i hh; exact absurd hEQ hh)
    have hb0 := (Below.refl w18.heap.size w18).alloc (Nat.le_refl _) (.cells #[.int .u8 (a : Nat)] 5)
    refine (of_any [a] (by simpa using ha) _ _ 1 (row_1 (Blk.newAt (w := w18) rfl #[.int .u8 (a : Nat)] 5)) (by simp)).mono ?_
    rintro e w19 ⟨rfl, hb⟩
    have H19 := hide (H18.out.trans ((hb0.trans (hb.mono (by simp))).mono H18.out.size))
    clear hb hb0 H18
    unfold SV
    go_wp2_with fail
    refine (not_any (setOf [a]) w19).mono ?_
    rintro e w20 ⟨rfl, hb⟩
    have H20 := hide (H19.out.trans (hb.mono H19.out.size))
    clear hb H19
    unfold SV
    go_wp2_with fail
    refine (one_any (~~~setOf [a]) w20).mono ?_
    rintro e w21 ⟨q21, rfl, hq, hb⟩
    have H21 := hide (H20.out.trans (hb.mono H20.out.size))
    have HQ := hide hq
    clear hq hb H20
    unfold PT
    go_wp2_with fail
    refine (same_self _ p11 q21 w21 (wf_one _) (HS.out _ H21.out).2.2.2.1 HQ.out (HS.out _ H21.out).2.2.2.2).mono ?_
    rintro e w22 ⟨rfl, hb⟩
    have H22 := hide (HB11.out.trans ((H21.out.trans (hb.mono H21.out.size)).mono HB11.out.size))
    clear hb H21 HQ
    go_wp2
    go_ret
    exact ⟨rfl, H22.out⟩
end Go.Proofs.YtkjmjppmpcnejaaGreatDoor
/- TextBytes answers true for all bytes: each byte as it is written is that byte, alone, in a set, in a range. Conditions: the table of math/bits holds what its initialiser lays (the card ties that to the program's text). -/
namespace Go.Proofs.YtkjmjppmpcnejaaGreatDoor
set_option maxRecDepth 100000
open Go.ChangeShapes Go.WideShapes Go.ChangeAt Go.WideMaps Go.WideElems Go.RowKit

set_option maxRecDepth 100000 in
theorem textBytes_lifted (os : Os) (started : os.Started) (H : Type) (enc : TypeId × Value → H) :
    ReturnsInHanded {} Tryz.checked os 5 .any (fun w args => (Rows.textBytesSpec.pre enc Tryz.prog Tryz.f5 [] false w args ∧ laidMetH Tryz.prog [("math/bits.deBruijn64tab", Rows.laid_math_bits_deBruijn64tab)] w) ∧ sizedMet enc Tryz.prog Tryz.f5 (OpenSpec.ofChange Rows.textBytesSpec) false w args)
      (Rows.textBytesSpec.post enc Tryz.prog Tryz.f5 false true false false) := by
  refine returnsInHanded_of_change_and (C := Tryz.checked) (X := fun w _ => laidMetH Tryz.prog [("math/bits.deBruijn64tab", Rows.laid_math_bits_deBruijn64tab)] w) (fun _ _ _ hh h => h.of_heap hh) own started (by kernel_rfl) Tryz.func5
    (ChangeSpec.witness_shaped (enc := enc) (C := Tryz.checked) (os := os) (X := fun w _ => laidMetH Tryz.prog [("math/bits.deBruijn64tab", Rows.laid_math_bits_deBruijn64tab)] w) false (World.doorLaid Tryz.prog 400 os)
      #[.int .u8 0, .int .u8 0] 8 rfl (World.shaped_of_RefB (by kernel_rfl) (by kernel_rfl)) (by kernel_rfl) (by kernel_rfl) (by kernel_rfl) (door_met os _)) ?_
  intro W base args ds gs before hval0 hW _ _ hL _
  have hval : ∀ (j : Nat) t v, Tryz.f5.params[j]? = some t → args[j]? = some v → Value.okWide Tryz.prog W .any base t v := hval0
  have hW' := hW
  obtain ⟨p, q, hA0, hV, rfl, hfz, hnd⟩ := hW
  have hA : DataW.TrodAll enc Tryz.prog W 0 (fun _ => true) true Tryz.f5.params.toList args.toList ds p := hA0
  rw [Tryz.params5] at hA hval
  obtain ⟨v0, v1, d0, d1, p0, p1, rfl, rfl, rfl, h0, h1⟩ := trodAll_two hA
  obtain ⟨rfl, rfl⟩ := trodVars_none hV
  have k0 := h0
  obtain ⟨i0, rfl, rfl, rfl, w0⟩ := open_int Tryz.underlying5 (hval 0 5 v0 rfl rfl) h0
  have b0 := bounds_u8 w0
  obtain ⟨n0, rfl⟩ := Int.eq_ofNat_of_zero_le b0.1
  have g0 : n0 < 256 := by omega
  have k1 := h1
  obtain ⟨i1, rfl, rfl, rfl, w1⟩ := open_int Tryz.underlying5 (hval 1 5 v1 rfl rfl) h1
  have b1 := bounds_u8 w1
  obtain ⟨n1, rfl⟩ := Int.eq_ofNat_of_zero_le b1.1
  have g1 : n1 < 256 := by omega
  have hT := tab_of_laid hL
  clear hA0 hval0
  refine (textBytes_any n0 n1 g0 g1 W hT).mono fun e W' ⟨he, hb⟩ => ?_
  subst he
  exact ⟨_, rfl, _, _, _, [], _, [], hW', trodAll_mk1 (shut_bool Tryz.underlying4 _), trodAll_mk2 (shut_int Tryz.underlying5 w0) (shut_int Tryz.underlying5 w1), rfl, hb.frame _, fun h => by cases h⟩

theorem textBytes_said : Rows.TextBytesSaid :=
  OpenClaim.holds_of_wide 5 Tryz.f5 rfl rfl rfl rfl rfl rfl rfl ⟨rfl, rfl, rfl, rfl, rfl⟩ rfl rfl rfl rfl rfl (by kernel_rfl) Tryz.func5 (by kernel_rfl)
    (of_decide_eq_true (by kernel_rfl)) (by unfold Func.isWrapper; first | (rw [if_pos (by decide +kernel)]; kernel_rfl) | (rw [if_neg (by decide +kernel)]; exact ⟨rfl, rfl⟩))
    (fun os started H enc _ => textBytes_lifted os started H enc)

theorem textBytes_card : Rows.TextBytesCardSaid :=
  Claim7.holds_tied_plain_at .later [] [.data] true Rows.textBytesCard.stood.harness false
    textBytes_said (fun _ h => by cases h) (by kernel_rfl) (fun _ h => by cases h) textBytes_row_tie rfl ⟨rfl, rfl⟩ (by kernel_rfl) rfl
    (fun f fn hf hfn => by
      obtain rfl : f = 5 := Option.some.inj ((show Tryz.prog.funcNamed "periscope/periscopelaw04.TextBytes" = some 5 by kernel_rfl).symm.trans hf) |>.symm
      obtain rfl : fn = Tryz.f5 := (Option.some.inj (Tryz.func5.symm.trans hfn)).symm
      exact ⟨by kernel_rfl, fun j t ht => by
        rw [Tryz.params5] at ht
        have hm : t ∈ [5, 5] := by simpa using Array.mem_of_getElem? ht
        have hall : ([5, 5].all fun u => !Tryz.prog.wantsStandIn u) = true := by kernel_rfl
        exact (show Tryz.prog.wantsStandIn t = false by simpa using List.all_eq_true.1 hall t hm)⟩)
    (by kernel_rfl)
#print axioms textBytes_card
end Go.Proofs.YtkjmjppmpcnejaaGreatDoor
