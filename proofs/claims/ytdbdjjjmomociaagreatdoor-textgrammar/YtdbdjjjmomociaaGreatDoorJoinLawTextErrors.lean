/- Texts of this claim put together: LawTextErrors. -/
import Derived.Test.YtdbdjjjmomociaaGreatDoorJoinMathSame
import Derived.Test.YtdbdjjjmomociaaGreatDoorJoinRunM
/- TextErrors: texts that can't go on, and where that is. -/
namespace Go.Proofs.YtdbdjjjmomociaaGreatDoor
set_option maxRecDepth 100000
set_option linter.unusedSimpArgs false
set_option linter.unusedVariables false
open Go.RowKit Go.Shelf

theorem TabAt.pastE {w w' : World} (hT : TabAt w) (hb : Below w.heap.size w w') : TabAt w' := hT.agree (Agree.of_all (K := fun _ => True) hb) trivial
theorem ab_snocB (k : Nat) : strB (abL k) ++ ⟨#[97, 98, 42]⟩ = strB (abL (k + 1)) := by
  rw [abL_snoc, strB_append]; rfl
theorem abL_lt (k : Nat) : ∀ x ∈ abL k, x < 256 := by
  induction k with
  | zero => intro x hx; cases hx
  | succ k ih =>
    intro x hx
    simp [abL] at hx
    rcases hx with rfl | rfl | rfl | hx
    · decide
    · decide
    · decide
    · exact ih x hx
theorem bytesN_app (x y : ByteArray) : bytesN (x ++ y) = bytesN x ++ bytesN y := by simp [bytesN]
/-- Read where it does not read, and where that is. -/
theorem read_at (s : ByteArray) (l : List Nat) (er p : Nat) (hs : bytesN s = l) (hl : s.size ≤ 65536) (hr : (rdEnd l).err = er ∧ (rdEnd l).wh = p) (h0 : er ≠ 0) (w : World) (hT : TabAt w) :
    Calls Tryz.prog 10 #[.string s] w fun e w' => e = .returned (.tuple #[.pointer none, .int .i64 er, .int .i64 p]) ∧ Below w.heap.size w w' := by
  refine (read_any s w hl hT).mono ?_
  intro e w' hp
  unfold ReadPost at hp
  rw [hs, hr.1, hr.2] at hp
  exact hp.2 h0
/-- The table's cells. -/
def errC : Array Value := #[.string ⟨#[40]⟩, .int .i64 1, .string ⟨#[40, 97]⟩, .int .i64 2, .string ⟨#[97, 41]⟩, .int .i64 1, .string ⟨#[91, 97]⟩, .int .i64 2, .string ⟨#[91, 98, 45, 97, 93]⟩, .int .i64 4, .string ⟨#[92, 113]⟩, .int .i64 0, .string ⟨#[92, 120, 49, 103]⟩, .int .i64 0, .string ⟨#[124]⟩, .int .i64 0, .string ⟨#[97, 124]⟩, .int .i64 2, .string ⟨#[97, 38, 42]⟩, .int .i64 2, .string ⟨#[40, 45, 97, 41]⟩, .int .i64 1, .string ⟨#[1]⟩, .int .i64 0, .string ⟨#[97, 93]⟩, .int .i64 1, .string ⟨#[92]⟩, .int .i64 0, .string ⟨#[91, 97, 45, 93]⟩, .int .i64 3, .string ⟨#[91, 40, 93]⟩, .int .i64 1]
theorem errC_at : ∀ j, j < 16 → errC[j * 2]? = some (.string (strB (errT.getD j ([], 0)).1)) ∧ errC[j * 2 + 1]? = some (.int .i64 ((errT.getD j ([], 0)).2 : Nat)) := by
  intro j hj
  match j, hj with
  | 0, _ => exact ⟨rfl, rfl⟩
  | 1, _ => exact ⟨rfl, rfl⟩
  | 2, _ => exact ⟨rfl, rfl⟩
  | 3, _ => exact ⟨rfl, rfl⟩
  | 4, _ => exact ⟨rfl, rfl⟩
  | 5, _ => exact ⟨rfl, rfl⟩
  | 6, _ => exact ⟨rfl, rfl⟩
  | 7, _ => exact ⟨rfl, rfl⟩
  | 8, _ => exact ⟨rfl, rfl⟩
  | 9, _ => exact ⟨rfl, rfl⟩
  | 10, _ => exact ⟨rfl, rfl⟩
  | 11, _ => exact ⟨rfl, rfl⟩
  | 12, _ => exact ⟨rfl, rfl⟩
  | 13, _ => exact ⟨rfl, rfl⟩
  | 14, _ => exact ⟨rfl, rfl⟩
  | 15, _ => exact ⟨rfl, rfl⟩
  | j + 16, h => omega
theorem errT_lt : ∀ j, j < 16 → (errT.getD j ([], 0)).1.length ≤ 5 ∧ (errT.getD j ([], 0)).2 ≤ 5 ∧ ∀ x ∈ (errT.getD j ([], 0)).1, x < 256 := by decide +kernel
set_option maxHeartbeats 4000000 in
theorem textErrors_any (wi ah : Int) (w : World) (hT : TabAt w) :
    Calls Tryz.prog 6 #[.int .i64 wi, .int .i64 ah] w fun e w' => e = .returned (.bool true) ∧ Below w.heap.size w w' := by
  have HT := hide hT
  obtain ⟨m, hm, hah⟩ : ∃ m : Nat, m ≤ 15 ∧ bits .and .i64 ah 15 = (m : Int) := ⟨(ah % 16).toNat, by omega, by rw [i64_and15]; omega⟩
  obtain ⟨j, hj, hwi⟩ : ∃ j : Nat, j < 16 ∧ wrap64 ((IntKind.u64.wrap wi).tmod 16) = (j : Int) := by
    have h0 : 0 ≤ IntKind.u64.wrap wi := by simp [IntKind.wrap, IntKind.signed, IntKind.bits]; omega
    refine ⟨((IntKind.u64.wrap wi).tmod 16).toNat, ?_, ?_⟩
    · rw [Int.tmod_eq_emod_of_nonneg h0]; omega
    · rw [Int.tmod_eq_emod_of_nonneg h0]; unfold wrap64; omega
  clear hT
  go_enter Tryz.func6, Tryz.ntmps6
  go_wp2_with fail
  refine (head4_any w HT.out).mono ?_
  rintro e w1 ⟨rfl, hb1⟩
  have HB1 := hide hb1
  clear hb1
  go_wp2
  go_loopw [5, 6] (fun a i wr => ∃ k : Nat, k ≤ m ∧ i = .int .i64 k ∧ a = .string (strB (abL k)) ∧ wr = w1) (fun _ i _ => m - (intOf i).toNat)
  case atStart => exact ⟨0, by omega, rfl, rfl, rfl⟩
  case round =>
    obtain ⟨k, hk, rfl, rfl, rfl⟩ := hrel
    by_cases hlt : k < m
    · have hkd : decide (k < m) = true := by simp [hlt]
      have hsz : (strB (abL k)).size ≤ 45 := by rw [strB_size, abL_len]; omega
      have hsn := ab_snocB k
      go_wp2
      refine ⟨⟨k + 1, by omega, by go_num, rfl, trivial⟩, by simp [intOf]; omega⟩
    · obtain rfl : k = m := by omega
      have hsz : (strB (abL k)).size = 3 * k := by rw [strB_size, abL_len]
      obtain ⟨w2, hw2⟩ : ∃ w2, w2 = wr.alloc (.cells errC 54) := ⟨_, rfl⟩
      have hB2 : Blk w2 wr.heap.size errC 54 := by rw [hw2]; exact Blk.new wr _ _
      have hbl2 : Below wr.heap.size wr w2 := by rw [hw2]; exact (Below.refl _ _).alloc (Nat.le_refl _) _
      have HB2 := hide hbl2
      obtain ⟨e1, e2⟩ := errC_at j hj
      have c0 : w2.cell? ⟨wr.heap.size, j * 2, none⟩ = _ := (hB2.cell (j * 2)).trans e1
      have c1 : w2.cell? ⟨wr.heap.size, j * 2 + 1, none⟩ = _ := (hB2.cell (j * 2 + 1)).trans e2
      have ew := hw2.symm
      unfold errC at ew
      obtain ⟨l1, l2, l3⟩ := errT_lt j hj
      have HLT := hide l3
      have HJ := hide hj
      obtain ⟨tx, htx⟩ : ∃ tx, tx = (errT.getD j ([], 0)).1 := ⟨_, rfl⟩
      obtain ⟨tp, htp⟩ : ∃ tp, tp = (errT.getD j ([], 0)).2 := ⟨_, rfl⟩
      have hts : (strB tx).size ≤ 5 := by rw [strB_size, htx]; exact l1
      rw [← htx] at c0
      rw [← htp] at c1 l2
      have HTX := hide htx
      have HTP := hide htp
      clear hw2 hbl2 hB2 e1 e2 l1 l3 htx htp
      have HEW := hide ew
      have HK0 := hide hlt
      have HM := hide hm
      have HER := hide (err_all j k hj hm)
      rw [← HTX.out, ← HTP.out] at HER
      rw [← HTX.out] at HLT
      obtain ⟨st, hst⟩ : ∃ st, st = strB tx := ⟨_, rfl⟩
      rw [← hst] at c0 hts
      have HST := hide hst
      obtain ⟨sa, hsa⟩ : ∃ sa, sa = strB (abL k) := ⟨_, rfl⟩
      rw [← hsa] at hsz ⊢
      have HSA := hide hsa
      have hB3 := Blk.new w2 #[.string st, .int .i64 tp] 54
      have hb3 : Below w2.heap.size w2 (w2.alloc (.cells #[.string st, .int .i64 tp] 54)) := (Below.refl _ _).alloc (Nat.le_refl _) _
      have HB3 := hide hB3
      have HBL3 := hide (HB1.out.trans ((HB2.out.trans (hb3.mono HB2.out.size)).mono HB1.out.size))
      clear hst hsa hB3 hb3 hm hlt hk
      by_cases hk0 : k = 0
      · have hz0 : sa.size = 0 := by omega
        clear hsz
        have HKK := hide hk0
        clear hk0
        go_wp2_with fail
        refine (read_at (sa ++ st) (aheadL k ++ tx) 2 tp (by rw [HSA.out, HST.out, bytesN_app, bytesN_strB (abL_lt k), bytesN_strB HLT.out, HKK.out]; rfl) (by rw [ByteArray.size_append]; omega) (by have := HER.out; refine ⟨this.1, this.2.trans ?_⟩; rw [HKK.out]; show 0 + tp = tp; omega) (by decide) _ (HT.out.pastE HBL3.out)).mono ?_
        rintro e w4 ⟨rfl, hb4⟩
        have d1 : w4.cell? ⟨w2.heap.size, 1, none⟩ = some (.int .i64 tp) := (World.cell?_of_block (hb4.block _ HB3.out.lt)).trans (HB3.out.cell 1)
        have HB4 := hide (HBL3.out.trans (hb4.mono HBL3.out.size))
        clear hb4
        go_wp2
        go_ret
        exact ⟨rfl, HB4.out⟩
      · have hk1 : 0 < 3 * k := by omega
        have hk15 : k ≤ 15 := HM.out
        have hdk : decide (0 < 3 * k) = true := by simp; omega
        have hdk2 : decide ((0 : Int) < ((3 * k : Nat) : Int)) = true := by simp; omega
        have HKK := hide hk0
        clear hk0
        go_wp2_with fail
        all_goals try (exfalso; simp only [ByteArray.size_append] at *; omega)
        have hal : (aheadL k).length = 3 * k + 1 := by unfold aheadL; rw [if_neg HKK.out, List.length_append, abL_len]; rfl
        refine (read_at (sa ++ ⟨#[124]⟩ ++ st) (aheadL k ++ tx) 2 (3 * k + 1 + tp) (by rw [HSA.out, HST.out, bytesN_app, bytesN_app, bytesN_strB (abL_lt k), bytesN_strB HLT.out]; unfold aheadL; rw [if_neg HKK.out]; rfl) (by rw [ByteArray.size_append, ByteArray.size_append]; show sa.size + 1 + st.size ≤ _; omega) (by have := HER.out; exact ⟨this.1, this.2.trans (by rw [hal])⟩) (by decide) _ (HT.out.pastE HBL3.out)).mono ?_
        rintro e w4 ⟨rfl, hb4⟩
        have d1 : w4.cell? ⟨w2.heap.size, 1, none⟩ = some (.int .i64 tp) := (World.cell?_of_block (hb4.block _ HB3.out.lt)).trans (HB3.out.cell 1)
        have HB4 := hide (HBL3.out.trans (hb4.mono HBL3.out.size))
        clear hb4 hal
        go_wp2
        go_ret
        exact ⟨rfl, HB4.out⟩
end Go.Proofs.YtdbdjjjmomociaaGreatDoor
