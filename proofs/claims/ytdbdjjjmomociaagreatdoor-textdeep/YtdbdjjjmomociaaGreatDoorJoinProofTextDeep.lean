/- TextDeep answers true for all numbers: a letter in up to 60 parentheses is read as that letter, in more it is told that it is too deep, and where; so many letters that there are too many parts are told to be too many, up to there they are read. Conditions: the table of math/bits holds what its initialiser lays (the card ties that to the program's text). -/
/- Texts of this claim put together: LawTextErrors, LawTextDeep, ProofTextDeep. -/
import Derived.Test.YtdbdjjjmomociaaGreatDoorJoinMathSame
import Derived.Test.YtdbdjjjmomociaaGreatDoorJoinRunM
import Derived.Test.YtdbdjjjmomociaaGreatDoorJoinOpen
import Derived.Test.YtdbdjjjmomociaaGreatDoorCards
import Derived.Test.YtdbdjjjmomociaaGreatDoorTie
/- TextErrors: texts that can't go on, and where that is. -/
namespace Go.Proofs.YtdbdjjjmomociaaGreatDoor
set_option maxRecDepth 100000
set_option linter.unusedSimpArgs false
set_option linter.unusedVariables false
open Go.RowKit Go.Shelf

theorem TabAt.pastE {w w' : World} (hT : TabAt w) (hb : Below w.heap.size w w') : TabAt w' := hT.agree (Agree.of_all (K := fun _ => True) hb) trivial
theorem ab_snocB (k : Nat) : strB (abL k) ++ ⟨#[97, 98, 42]⟩ = strB (abL (k + 1)) := by
  rw [abL_snoc, strB_append]; rfl
theorem abL_lt (k : Nat) : ∀ x ∈ abL k, x < 256 := by
  induction k with
  | zero => intro x hx; cases hx
  | succ k ih =>
    intro x hx
    simp [abL] at hx
    rcases hx with rfl | rfl | rfl | hx
    · decide
    · decide
    · decide
    · exact ih x hx
theorem bytesN_app (x y : ByteArray) : bytesN (x ++ y) = bytesN x ++ bytesN y := by simp [bytesN]
/-- Read where it does not read, and where that is. -/
theorem read_at (s : ByteArray) (l : List Nat) (er p : Nat) (hs : bytesN s = l) (hl : s.size ≤ 65536) (hr : (rdEnd l).err = er ∧ (rdEnd l).wh = p) (h0 : er ≠ 0) (w : World) (hT : TabAt w) :
    Calls Tryz.prog 10 #[.string s] w fun e w' => e = .returned (.tuple #[.pointer none, .int .i64 er, .int .i64 p]) ∧ Below w.heap.size w w' := by
  refine (read_any s w hl hT).mono ?_
  intro e w' hp
  unfold ReadPost at hp
  rw [hs, hr.1, hr.2] at hp
  exact hp.2 h0
/-- The table's cells. -/
def errC : Array Value := #[.string ⟨#[40]⟩, .int .i64 1, .string ⟨#[40, 97]⟩, .int .i64 2, .string ⟨#[97, 41]⟩, .int .i64 1, .string ⟨#[91, 97]⟩, .int .i64 2, .string ⟨#[91, 98, 45, 97, 93]⟩, .int .i64 4, .string ⟨#[92, 113]⟩, .int .i64 0, .string ⟨#[92, 120, 49, 103]⟩, .int .i64 0, .string ⟨#[124]⟩, .int .i64 0, .string ⟨#[97, 124]⟩, .int .i64 2, .string ⟨#[97, 38, 42]⟩, .int .i64 2, .string ⟨#[40, 45, 97, 41]⟩, .int .i64 1, .string ⟨#[1]⟩, .int .i64 0, .string ⟨#[97, 93]⟩, .int .i64 1, .string ⟨#[92]⟩, .int .i64 0, .string ⟨#[91, 97, 45, 93]⟩, .int .i64 3, .string ⟨#[91, 40, 93]⟩, .int .i64 1]
theorem errC_at : ∀ j, j < 16 → errC[j * 2]? = some (.string (strB (errT.getD j ([], 0)).1)) ∧ errC[j * 2 + 1]? = some (.int .i64 ((errT.getD j ([], 0)).2 : Nat)) := by
  intro j hj
  match j, hj with
  | 0, _ => exact ⟨rfl, rfl⟩
  | 1, _ => exact ⟨rfl, rfl⟩
  | 2, _ => exact ⟨rfl, rfl⟩
  | 3, _ => exact ⟨rfl, rfl⟩
  | 4, _ => exact ⟨rfl, rfl⟩
  | 5, _ => exact ⟨rfl, rfl⟩
  | 6, _ => exact ⟨rfl, rfl⟩
  | 7, _ => exact ⟨rfl, rfl⟩
  | 8, _ => exact ⟨rfl, rfl⟩
  | 9, _ => exact ⟨rfl, rfl⟩
  | 10, _ => exact ⟨rfl, rfl⟩
  | 11, _ => exact ⟨rfl, rfl⟩
  | 12, _ => exact ⟨rfl, rfl⟩
  | 13, _ => exact ⟨rfl, rfl⟩
  | 14, _ => exact ⟨rfl, rfl⟩
  | 15, _ => exact ⟨rfl, rfl⟩
  | j + 16, h => omega
theorem errT_lt : ∀ j, j < 16 → (errT.getD j ([], 0)).1.length ≤ 5 ∧ (errT.getD j ([], 0)).2 ≤ 5 ∧ ∀ x ∈ (errT.getD j ([], 0)).1, x < 256 := by decide +kernel
set_option maxHeartbeats 4000000 in
theorem textErrors_any (wi ah : Int) (w : World) (hT : TabAt w) :
    Calls Tryz.prog 6 #[.int .i64 wi, .int .i64 ah] w fun e w' => e = .returned (.bool true) ∧ Below w.heap.size w w' := by
  have HT := hide hT
  obtain ⟨m, hm, hah⟩ : ∃ m : Nat, m ≤ 15 ∧ bits .and .i64 ah 15 = (m : Int) := ⟨(ah % 16).toNat, by omega, by rw [i64_and15]; omega⟩
  obtain ⟨j, hj, hwi⟩ : ∃ j : Nat, j < 16 ∧ wrap64 ((IntKind.u64.wrap wi).tmod 16) = (j : Int) := by
    have h0 : 0 ≤ IntKind.u64.wrap wi := by simp [IntKind.wrap, IntKind.signed, IntKind.bits]; omega
    refine ⟨((IntKind.u64.wrap wi).tmod 16).toNat, ?_, ?_⟩
    · rw [Int.tmod_eq_emod_of_nonneg h0]; omega
    · rw [Int.tmod_eq_emod_of_nonneg h0]; unfold wrap64; omega
  clear hT
  go_enter Tryz.func6, Tryz.ntmps6
  go_wp2_with fail
  refine (head4_any w HT.out).mono ?_
  rintro e w1 ⟨rfl, hb1⟩
  have HB1 := hide hb1
  clear hb1
  go_wp2
  go_loopw [5, 6] (fun a i wr => ∃ k : Nat, k ≤ m ∧ i = .int .i64 k ∧ a = .string (strB (abL k)) ∧ wr = w1) (fun _ i _ => m - (intOf i).toNat)
  case atStart => exact ⟨0, by omega, rfl, rfl, rfl⟩
  case round =>
    obtain ⟨k, hk, rfl, rfl, rfl⟩ := hrel
    by_cases hlt : k < m
    · have hkd : decide (k < m) = true := by simp [hlt]
      have hsz : (strB (abL k)).size ≤ 45 := by rw [strB_size, abL_len]; omega
      have hsn := ab_snocB k
      go_wp2
      refine ⟨⟨k + 1, by omega, by go_num, rfl, trivial⟩, by simp [intOf]; omega⟩
    · obtain rfl : k = m := by omega
      have hsz : (strB (abL k)).size = 3 * k := by rw [strB_size, abL_len]
      obtain ⟨w2, hw2⟩ : ∃ w2, w2 = wr.alloc (.cells errC 54) := ⟨_, rfl⟩
      have hB2 : Blk w2 wr.heap.size errC 54 := by rw [hw2]; exact Blk.new wr _ _
      have hbl2 : Below wr.heap.size wr w2 := by rw [hw2]; exact (Below.refl _ _).alloc (Nat.le_refl _) _
      have HB2 := hide hbl2
      obtain ⟨e1, e2⟩ := errC_at j hj
      have c0 : w2.cell? ⟨wr.heap.size, j * 2, none⟩ = _ := (hB2.cell (j * 2)).trans e1
      have c1 : w2.cell? ⟨wr.heap.size, j * 2 + 1, none⟩ = _ := (hB2.cell (j * 2 + 1)).trans e2
      have ew := hw2.symm
      unfold errC at ew
      obtain ⟨l1, l2, l3⟩ := errT_lt j hj
      have HLT := hide l3
      have HJ := hide hj
      obtain ⟨tx, htx⟩ : ∃ tx, tx = (errT.getD j ([], 0)).1 := ⟨_, rfl⟩
      obtain ⟨tp, htp⟩ : ∃ tp, tp = (errT.getD j ([], 0)).2 := ⟨_, rfl⟩
      have hts : (strB tx).size ≤ 5 := by rw [strB_size, htx]; exact l1
      rw [← htx] at c0
      rw [← htp] at c1 l2
      have HTX := hide htx
      have HTP := hide htp
      clear hw2 hbl2 hB2 e1 e2 l1 l3 htx htp
      have HEW := hide ew
      have HK0 := hide hlt
      have HM := hide hm
      have HER := hide (err_all j k hj hm)
      rw [← HTX.out, ← HTP.out] at HER
      rw [← HTX.out] at HLT
      obtain ⟨st, hst⟩ : ∃ st, st = strB tx := ⟨_, rfl⟩
      rw [← hst] at c0 hts
      have HST := hide hst
      obtain ⟨sa, hsa⟩ : ∃ sa, sa = strB (abL k) := ⟨_, rfl⟩
      rw [← hsa] at hsz ⊢
      have HSA := hide hsa
      have hB3 := Blk.new w2 #[.string st, .int .i64 tp] 54
      have hb3 : Below w2.heap.size w2 (w2.alloc (.cells #[.string st, .int .i64 tp] 54)) := (Below.refl _ _).alloc (Nat.le_refl _) _
      have HB3 := hide hB3
      have HBL3 := hide (HB1.out.trans ((HB2.out.trans (hb3.mono HB2.out.size)).mono HB1.out.size))
      clear hst hsa hB3 hb3 hm hlt hk
      by_cases hk0 : k = 0
      · have hz0 : sa.size = 0 := by omega
        clear hsz
        have HKK := hide hk0
        clear hk0
        go_wp2_with fail
        refine (read_at (sa ++ st) (aheadL k ++ tx) 2 tp (by rw [HSA.out, HST.out, bytesN_app, bytesN_strB (abL_lt k), bytesN_strB HLT.out, HKK.out]; rfl) (by rw [ByteArray.size_append]; omega) (by have := HER.out; refine ⟨this.1, this.2.trans ?_⟩; rw [HKK.out]; show 0 + tp = tp; omega) (by decide) _ (HT.out.pastE HBL3.out)).mono ?_
        rintro e w4 ⟨rfl, hb4⟩
        have d1 : w4.cell? ⟨w2.heap.size, 1, none⟩ = some (.int .i64 tp) := (World.cell?_of_block (hb4.block _ HB3.out.lt)).trans (HB3.out.cell 1)
        have HB4 := hide (HBL3.out.trans (hb4.mono HBL3.out.size))
        clear hb4
        go_wp2
        go_ret
        exact ⟨rfl, HB4.out⟩
      · have hk1 : 0 < 3 * k := by omega
        have hk15 : k ≤ 15 := HM.out
        have hdk : decide (0 < 3 * k) = true := by simp; omega
        have hdk2 : decide ((0 : Int) < ((3 * k : Nat) : Int)) = true := by simp; omega
        have HKK := hide hk0
        clear hk0
        go_wp2_with fail
        all_goals try (exfalso; simp only [ByteArray.size_append] at *; omega)
        have hal : (aheadL k).length = 3 * k + 1 := by unfold aheadL; rw [if_neg HKK.out, List.length_append, abL_len]; rfl
        refine (read_at (sa ++ ⟨#[124]⟩ ++ st) (aheadL k ++ tx) 2 (3 * k + 1 + tp) (by rw [HSA.out, HST.out, bytesN_app, bytesN_app, bytesN_strB (abL_lt k), bytesN_strB HLT.out]; unfold aheadL; rw [if_neg HKK.out]; rfl) (by rw [ByteArray.size_append, ByteArray.size_append]; show sa.size + 1 + st.size ≤ _; omega) (by have := HER.out; exact ⟨this.1, this.2.trans (by rw [hal])⟩) (by decide) _ (HT.out.pastE HBL3.out)).mono ?_
        rintro e w4 ⟨rfl, hb4⟩
        have d1 : w4.cell? ⟨w2.heap.size, 1, none⟩ = some (.int .i64 tp) := (World.cell?_of_block (hb4.block _ HB3.out.lt)).trans (HB3.out.cell 1)
        have HB4 := hide (HBL3.out.trans (hb4.mono HBL3.out.size))
        clear hb4 hal
        go_wp2
        go_ret
        exact ⟨rfl, HB4.out⟩
end Go.Proofs.YtdbdjjjmomociaaGreatDoor
/- TextDeep: as deep as may be, and deeper; as many as may be, and more. -/
namespace Go.Proofs.YtdbdjjjmomociaaGreatDoor
set_option maxRecDepth 100000
set_option linter.unusedSimpArgs false
set_option linter.unusedVariables false
open Go.RowKit Go.Shelf

theorem i64_and31 (n : Int) : bits .and .i64 n 31 = n % 32 := by
  have h3 : (BitVec.ofInt 64 31).toNat = 2 ^ 5 - 1 := by decide
  have key : (BitVec.ofInt 64 n &&& BitVec.ofInt 64 31).toNat = (n % ((2 ^ 64 : Nat) : Int)).toNat % 2 ^ 5 := by
    rw [BitVec.toNat_and, BitVec.toNat_ofInt, h3, Nat.and_two_pow_sub_one_eq_mod]
  show IntKind.i64.wrap ((BitVec.ofInt 64 n &&& BitVec.ofInt 64 31).toNat : Nat) = n % 32
  rw [key, IntKind.wrap_i64]
  omega
theorem same_selfD (r : RE) (p q : Nat) (w : World) (hr : Wf r) (hp : ReAt w p r) (hq : ReAt w q r) (hT : TabAt w) :
    Calls Tryz.prog 14 #[PT p, PT q] w fun e w' => e = .returned (.bool true) ∧ Below w.heap.size w w' := by
  refine (same_re r r p q w hr.k hr.k hp hq hT).mono ?_
  rintro e w' ⟨rfl, hm⟩
  exact ⟨by rw [lexN_self]; rfl, hm.below⟩
theorem par_snocB (k : Nat) : (⟨#[40]⟩ : ByteArray) ++ strB (parL k) ++ ⟨#[41]⟩ = strB (parL (k + 1)) := by
  show _ = strB ([40] ++ parL k ++ [41])
  rw [strB_append, strB_append]; rfl
theorem let_snocB (k : Nat) : strB (List.replicate k 97) ++ ⟨#[97]⟩ = strB (List.replicate (k + 1) 97) := by
  rw [List.replicate_succ', strB_append]; rfl
theorem parL_lt (k : Nat) : ∀ x ∈ parL k, x < 256 := by
  induction k with
  | zero => decide
  | succ k ih =>
    intro x hx
    simp [parL] at hx
    rcases hx with rfl | hx | rfl
    · decide
    · exact ih x hx
    · decide
theorem let_lt (k : Nat) : ∀ x ∈ List.replicate k 97, x < 256 := fun x hx => by rw [List.eq_of_mem_replicate hx]; decide
/-- What Read answers at the second text. -/
theorem read_let (m : Nat) (h2 : 2 ≤ m) (hm : m ≤ 2000) (w : World) (hT : TabAt w) :
    Calls Tryz.prog 10 #[.string (strB (List.replicate m 97))] w fun e w' => ∃ (v : Value) (wh : Nat), e = .returned (.tuple #[v, .int .i64 ((if m ≤ 999 then 0 else 3 : Nat) : Int), .int .i64 wh]) ∧ Below w.heap.size w w' := by
  have ha := let_all h2 hm
  by_cases h : m ≤ 999
  · rw [if_pos h] at ha ⊢
    obtain ⟨r, st, hq⟩ : ∃ r st, readQ (List.replicate m 97) = (r, st) := ⟨_, _, rfl⟩
    refine (read_ok _ _ r st (bytesN_strB (let_lt m)) (by rw [strB_size]; simp; omega) ⟨hq, ha⟩ w hT).mono ?_
    rintro e w' ⟨b, rfl, -, hb⟩
    exact ⟨_, 0, rfl, hb⟩
  · rw [if_neg h] at ha ⊢
    refine (read_bad _ _ 3 (bytesN_strB (let_lt m)) (by rw [strB_size]; simp; omega) ha (by decide) w hT).mono ?_
    rintro e w' ⟨wh, rfl, hb⟩
    exact ⟨_, wh, rfl, hb⟩
set_option maxHeartbeats 4000000 in
theorem textDeep_any (ni mi : Int) (w : World) (hT : TabAt w) :
    Calls Tryz.prog 7 #[.int .i64 ni, .int .i64 mi] w fun e w' => e = .returned (.bool true) ∧ Below w.heap.size w w' := by
  have HT := hide hT
  obtain ⟨a, ha, hni⟩ : ∃ m : Nat, m ≤ 15 ∧ bits .and .i64 ni 15 = (m : Int) := ⟨(ni % 16).toNat, by omega, by rw [i64_and15]; omega⟩
  obtain ⟨b, hb, hmi⟩ : ∃ m : Nat, m ≤ 31 ∧ bits .and .i64 mi 31 = (m : Int) := ⟨(mi % 32).toNat, by omega, by rw [i64_and31]; omega⟩
  clear hT
  go_enter Tryz.func7, Tryz.ntmps7
  go_wp2_with fail
  refine (head4_any w HT.out).mono ?_
  rintro e w1 ⟨rfl, hb1⟩
  have HB1 := hide hb1
  clear hb1
  go_wp2
  go_loopw [5, 6] (fun s i wr => ∃ k : Nat, k ≤ 55 + a ∧ i = .int .i64 k ∧ s = .string (strB (parL k)) ∧ wr = w1) (fun _ i _ => 55 + a - (intOf i).toNat)
  case atStart => exact ⟨0, by omega, rfl, rfl, rfl⟩
  case round =>
    obtain ⟨k, hk, rfl, rfl, rfl⟩ := hrel
    have hsz : (strB (parL k)).size ≤ 141 := by rw [strB_size, parL_len]; omega
    by_cases hlt : k < 55 + a
    · have hsn := par_snocB k
      have hsz2 : (strB (parL (k + 1))).size ≤ 143 := by rw [strB_size, parL_len]; omega
      go_wp2
      all_goals try (exfalso; simp only [ByteArray.size_append] at *; omega)
      refine ⟨⟨k + 1, by omega, by go_num, rfl, trivial⟩, by simp [intOf]; omega⟩
    · obtain rfl : k = 55 + a := by omega
      clear hk hlt
      obtain ⟨ss, hss⟩ : ∃ ss, ss = strB (parL (55 + a)) := ⟨_, rfl⟩
      rw [← hss] at hsz ⊢
      have HSS := hide hss
      clear hss
      have HTW := hide (HT.out.pastE HB1.out)
      clear HT
      by_cases h60 : 55 + a ≤ 60
      · have HRD := hide (par_ok h60)
        go_wp2_with fail
        obtain ⟨st, hrd⟩ := HRD.out
        have hro := read_ok ss (parL (55 + a)) _ _ (by rw [HSS.out]; exact bytesN_strB (parL_lt _)) (by omega) hrd wr HTW.out
        refine hro.mono ?_
        rintro e w3 ⟨rb, rfl, hr, hb3⟩
        have HR := hide hr
        have HB3 := hide hb3
        clear hr hb3 hro hrd
        unfold PT
        go_wp2_with fail
        refine (word_any ⟨#[97]⟩ w3 (by decide)).mono ?_
        rintro e w4 ⟨qb, rfl, hq, hb4⟩
        have hw1 : rWord (bytesN ⟨#[97]⟩) = rOne sa := then_one1 sa_ne
        rw [hw1] at hq
        have HQ := hide hq
        have HR4 := hide (HR.out.keep hb4)
        have HB4 := hide (HB3.out.trans (hb4.mono HB3.out.size))
        clear hq hb4 HB3 hw1 HR
        have HSM := hide (same_selfD (rOne sa) rb qb w4 (wf_one _) HR4.out HQ.out (HTW.out.pastE HB4.out))
        unfold PT at HSM ⊢
        go_wp2_with fail
        refine HSM.out.mono ?_
        rintro e w5 ⟨rfl, hb5⟩
        have HB5 := hide (HB4.out.trans (hb5.mono HB4.out.size))
        have HTZ := hide (HTW.out.pastE HB5.out)
        have HBZ := hide (HB1.out.trans (HB5.out.mono HB1.out.size))
        clear hb5 HB4 HSM HQ HR4
        go_wp2
        go_loopw [10, 11] (fun s i wr => ∃ k : Nat, k ≤ 985 + b ∧ i = .int .i64 k ∧ s = .string (strB (List.replicate k 97)) ∧ wr = w5) (fun _ i _ => 985 + b - (intOf i).toNat)
        case atStart => exact ⟨0, by omega, rfl, rfl, rfl⟩
        case round =>
          obtain ⟨k, hk, rfl, rfl, rfl⟩ := hrel
          have hsz2 : (strB (List.replicate k 97)).size ≤ 1016 := by rw [strB_size]; simp; omega
          by_cases hlt : k < 985 + b
          · have hsn := let_snocB k
            go_wp2
            all_goals try (exfalso; simp only [ByteArray.size_append] at *; omega)
            refine ⟨⟨k + 1, by omega, by go_num, rfl, trivial⟩, by simp [intOf]; omega⟩
          · obtain rfl : k = 985 + b := by omega
            have HRL := hide (read_let (985 + b) (by omega) (by omega) wr HTZ.out)
            obtain ⟨s2, hs2⟩ : ∃ s2, s2 = strB (List.replicate (985 + b) 97) := ⟨_, rfl⟩
            rw [← hs2] at hsz2 HRL ⊢
            clear hs2 hk hlt
            by_cases h9 : 985 + b ≤ 999
            · rw [if_pos h9] at HRL
              have hd9 : decide ((985 : Int) + (b : Int) ≤ 999) = true := decide_eq_true (by omega)
              go_wp2_with fail
              refine HRL.out.mono ?_
              rintro e w6 ⟨v6, wh6, rfl, hb6⟩
              have HB6 := hide (HBZ.out.trans (hb6.mono HBZ.out.size))
              clear hb6 HRL
              go_wp2
              all_goals try (exfalso; simp at *; omega)
              go_ret
              exact ⟨rfl, HB6.out⟩
            · rw [if_neg h9] at HRL
              have hd9 : decide ((985 : Int) + (b : Int) ≤ 999) = false := decide_eq_false (by omega)
              go_wp2_with fail
              refine HRL.out.mono ?_
              rintro e w6 ⟨v6, wh6, rfl, hb6⟩
              have HB6 := hide (HBZ.out.trans (hb6.mono HBZ.out.size))
              clear hb6 HRL
              go_wp2
              all_goals try (exfalso; simp at *; omega)
              go_ret
              exact ⟨rfl, HB6.out⟩
      · have HRD := hide (par_bad (show 60 < 55 + a by omega) (by omega))
        go_wp2_with fail
        refine (read_at ss (parL (55 + a)) 4 60 (by rw [HSS.out]; exact bytesN_strB (parL_lt _)) (by omega) HRD.out (by decide) wr HTW.out).mono ?_
        rintro e w3 ⟨rfl, hb3⟩
        have HB3 := hide hb3
        have HTZ := hide (HTW.out.pastE HB3.out)
        have HBZ := hide (HB1.out.trans (HB3.out.mono HB1.out.size))
        clear hb3
        go_wp2
        go_loopw [10, 11] (fun s i wr => ∃ k : Nat, k ≤ 985 + b ∧ i = .int .i64 k ∧ s = .string (strB (List.replicate k 97)) ∧ wr = w3) (fun _ i _ => 985 + b - (intOf i).toNat)
        case atStart => exact ⟨0, by omega, rfl, rfl, rfl⟩
        case round =>
          obtain ⟨k, hk, rfl, rfl, rfl⟩ := hrel
          have hsz2 : (strB (List.replicate k 97)).size ≤ 1016 := by rw [strB_size]; simp; omega
          by_cases hlt : k < 985 + b
          · have hsn := let_snocB k
            go_wp2
            all_goals try (exfalso; simp only [ByteArray.size_append] at *; omega)
            refine ⟨⟨k + 1, by omega, by go_num, rfl, trivial⟩, by simp [intOf]; omega⟩
          · obtain rfl : k = 985 + b := by omega
            have HRL := hide (read_let (985 + b) (by omega) (by omega) wr HTZ.out)
            obtain ⟨s2, hs2⟩ : ∃ s2, s2 = strB (List.replicate (985 + b) 97) := ⟨_, rfl⟩
            rw [← hs2] at hsz2 HRL ⊢
            clear hs2 hk hlt
            by_cases h9 : 985 + b ≤ 999
            · rw [if_pos h9] at HRL
              have hd9 : decide ((985 : Int) + (b : Int) ≤ 999) = true := decide_eq_true (by omega)
              go_wp2_with fail
              refine HRL.out.mono ?_
              rintro e w6 ⟨v6, wh6, rfl, hb6⟩
              have HB6 := hide (HBZ.out.trans (hb6.mono HBZ.out.size))
              clear hb6 HRL
              go_wp2
              all_goals try (exfalso; simp at *; omega)
              go_ret
              exact ⟨rfl, HB6.out⟩
            · rw [if_neg h9] at HRL
              have hd9 : decide ((985 : Int) + (b : Int) ≤ 999) = false := decide_eq_false (by omega)
              go_wp2_with fail
              refine HRL.out.mono ?_
              rintro e w6 ⟨v6, wh6, rfl, hb6⟩
              have HB6 := hide (HBZ.out.trans (hb6.mono HBZ.out.size))
              clear hb6 HRL
              go_wp2
              all_goals try (exfalso; simp at *; omega)
              go_ret
              exact ⟨rfl, HB6.out⟩
end Go.Proofs.YtdbdjjjmomociaaGreatDoor
/- TextDeep answers true for all numbers: a letter in up to 60 parentheses is read as that letter, in more it is told that it is too deep, and where; so many letters that there are too many parts are told to be too many, up to there they are read. Conditions: the table of math/bits holds what its initialiser lays (the card ties that to the program's text). -/
namespace Go.Proofs.YtdbdjjjmomociaaGreatDoor
set_option maxRecDepth 100000
open Go.ChangeShapes Go.WideShapes Go.ChangeAt Go.WideMaps Go.WideElems Go.RowKit

set_option maxRecDepth 100000 in
theorem textDeep_lifted (os : Os) (started : os.Started) (H : Type) (enc : TypeId × Value → H) :
    ReturnsInHanded {} Tryz.checked os 7 .any (fun w args => (Rows.textDeepSpec.pre enc Tryz.prog Tryz.f7 [] false w args ∧ laidMetH Tryz.prog [("math/bits.deBruijn64tab", Rows.laid_math_bits_deBruijn64tab)] w) ∧ sizedMet enc Tryz.prog Tryz.f7 (OpenSpec.ofChange Rows.textDeepSpec) false w args)
      (Rows.textDeepSpec.post enc Tryz.prog Tryz.f7 false true false false) := by
  refine returnsInHanded_of_change_and (C := Tryz.checked) (X := fun w _ => laidMetH Tryz.prog [("math/bits.deBruijn64tab", Rows.laid_math_bits_deBruijn64tab)] w) (fun _ _ _ hh h => h.of_heap hh) own started (by kernel_rfl) Tryz.func7
    (ChangeSpec.witness_shaped (enc := enc) (C := Tryz.checked) (os := os) (X := fun w _ => laidMetH Tryz.prog [("math/bits.deBruijn64tab", Rows.laid_math_bits_deBruijn64tab)] w) false (World.doorLaid Tryz.prog 400 os)
      #[.int .i64 0, .int .i64 0] 8 rfl (World.shaped_of_RefB (by kernel_rfl) (by kernel_rfl)) (by kernel_rfl) (by kernel_rfl) (by kernel_rfl) (door_met os _)) ?_
  intro W base args ds gs before hval0 hW _ _ hL _
  have hval : ∀ (j : Nat) t v, Tryz.f7.params[j]? = some t → args[j]? = some v → Value.okWide Tryz.prog W .any base t v := hval0
  have hW' := hW
  obtain ⟨p, q, hA0, hV, rfl, hfz, hnd⟩ := hW
  have hA : DataW.TrodAll enc Tryz.prog W 0 (fun _ => true) true Tryz.f7.params.toList args.toList ds p := hA0
  rw [Tryz.params7] at hA hval
  obtain ⟨v0, v1, d0, d1, p0, p1, rfl, rfl, rfl, h0, h1⟩ := trodAll_two hA
  obtain ⟨rfl, rfl⟩ := trodVars_none hV
  have k0 := h0
  obtain ⟨i0, rfl, rfl, rfl, w0⟩ := open_int Tryz.underlying3 (hval 0 3 v0 rfl rfl) h0
  have b0 := bounds_i64 w0
  have k1 := h1
  obtain ⟨i1, rfl, rfl, rfl, w1⟩ := open_int Tryz.underlying3 (hval 1 3 v1 rfl rfl) h1
  have b1 := bounds_i64 w1
  have hT := tab_of_laid hL
  clear hA0 hval0
  refine (textDeep_any i0 i1 W hT).mono fun e W' ⟨he, hb⟩ => ?_
  subst he
  exact ⟨_, rfl, _, _, _, [], _, [], hW', trodAll_mk1 (shut_bool Tryz.underlying4 _), trodAll_mk2 (shut_int Tryz.underlying3 w0) (shut_int Tryz.underlying3 w1), rfl, hb.frame _, fun h => by cases h⟩

theorem textDeep_said : Rows.TextDeepSaid :=
  OpenClaim.holds_of_wide 7 Tryz.f7 rfl rfl rfl rfl rfl rfl rfl ⟨rfl, rfl, rfl, rfl, rfl⟩ rfl rfl rfl rfl rfl (by kernel_rfl) Tryz.func7 (by kernel_rfl)
    (of_decide_eq_true (by kernel_rfl)) (by unfold Func.isWrapper; first | (rw [if_pos (by decide +kernel)]; kernel_rfl) | (rw [if_neg (by decide +kernel)]; exact ⟨rfl, rfl⟩))
    (fun os started H enc _ => textDeep_lifted os started H enc)

theorem textDeep_card : Rows.TextDeepCardSaid :=
  Claim7.holds_tied_plain_at .later [] [.data] true Rows.textDeepCard.stood.harness false
    textDeep_said (fun _ h => by cases h) (by kernel_rfl) (fun _ h => by cases h) textDeep_row_tie rfl ⟨rfl, rfl⟩ (by kernel_rfl) rfl
    (fun f fn hf hfn => by
      obtain rfl : f = 7 := Option.some.inj ((show Tryz.prog.funcNamed "periscope/periscopelaw04.TextDeep" = some 7 by kernel_rfl).symm.trans hf) |>.symm
      obtain rfl : fn = Tryz.f7 := (Option.some.inj (Tryz.func7.symm.trans hfn)).symm
      exact ⟨by kernel_rfl, fun j t ht => by
        rw [Tryz.params7] at ht
        have hm : t ∈ [3, 3] := by simpa using Array.mem_of_getElem? ht
        have hall : ([3, 3].all fun u => !Tryz.prog.wantsStandIn u) = true := by kernel_rfl
        exact (show Tryz.prog.wantsStandIn t = false by simpa using List.all_eq_true.1 hall t hm)⟩)
    (by kernel_rfl)
#print axioms textDeep_card
end Go.Proofs.YtdbdjjjmomociaaGreatDoor
