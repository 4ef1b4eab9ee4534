/- LexErrors answers true for all numbers: eleven texts that can't go on, alone and behind words and expressions, are told by All to be wrong, by the error and at the place that the page says. Conditions: the table of math/bits holds what its initialiser lays (the card ties that to the program's text). -/
/- Texts of this claim put together: LawLexErrors, ProofLexErrors. -/
import Derived.Test.YtjlgepahgmkamaaGreatDoorJoinLxE1
import Derived.Test.YtjlgepahgmkamaaGreatDoorJoinTwB
import Derived.Test.YtjlgepahgmkamaaGreatDoorCards
import Derived.Test.YtjlgepahgmkamaaGreatDoorTie
/- LexErrors: texts that can't go on, and where that is. -/
namespace Go.Proofs.YtjlgepahgmkamaaGreatDoor
set_option maxRecDepth 100000
set_option linter.unusedSimpArgs false
set_option linter.unusedVariables false
open Go.RowKit Go.Shelf

theorem i64_and7 (n : Int) : bits .and .i64 n 7 = n % 8 := by
  have h15 : (BitVec.ofInt 64 7).toNat = 2 ^ 3 - 1 := by decide
  have key : (BitVec.ofInt 64 n &&& BitVec.ofInt 64 7).toNat = (n % ((2 ^ 64 : Nat) : Int)).toNat % 2 ^ 3 := by
    rw [BitVec.toNat_and, BitVec.toNat_ofInt, h15, Nat.and_two_pow_sub_one_eq_mod]
  show IntKind.i64.wrap ((BitVec.ofInt 64 n &&& BitVec.ofInt 64 7).toNat : Nat) = n % 8
  rw [key, IntKind.wrap_i64]
  omega
theorem pre_snocB (k : Nat) : strB (preL k) ++ ⟨#[120, 32, 47, 97, 47, 32]⟩ = strB (preL (k + 1)) := by
  rw [preL_snoc, strB_append]; rfl
theorem z_snocB (k : Nat) : strB (List.replicate k 122) ++ ⟨#[122]⟩ = strB (List.replicate (k + 1) 122) := by
  rw [List.replicate_succ', strB_append]; rfl
theorem bytesN_appL (x y : ByteArray) : bytesN (x ++ y) = bytesN x ++ bytesN y := by simp [bytesN]
/-- The table's cells. -/
def lxC11 (lg : ByteArray) : Array Value := #[.string ⟨#[34, 97, 98, 99]⟩, .int .i64 2, .int .i64 4, .string ⟨#[47, 97]⟩, .int .i64 2, .int .i64 2, .string ⟨#[47, 97, 40, 47]⟩, .int .i64 2, .int .i64 3, .string ⟨#[65]⟩, .int .i64 2, .int .i64 0, .string ⟨#[34, 97, 92, 113, 34]⟩, .int .i64 2, .int .i64 2, .string ⟨#[34, 10, 34]⟩, .int .i64 2, .int .i64 1, .string lg, .int .i64 3, .int .i64 0, .string ⟨#[57]⟩, .int .i64 2, .int .i64 0, .string ⟨#[47, 91, 98, 45, 97, 93, 47]⟩, .int .i64 2, .int .i64 5, .string ⟨#[97, 33]⟩, .int .i64 2, .int .i64 1, .string ⟨#[34, 97, 92, 34]⟩, .int .i64 2, .int .i64 4]
theorem lxC_at : ∀ j, j < 11 → (lxC11 (strB (List.replicate 31 122)))[j * 3]? = some (.string (strB (lxTests.getD j ([], 0, 0)).1)) ∧ (lxC11 (strB (List.replicate 31 122)))[j * 3 + 1]? = some (.int .i64 ((lxTests.getD j ([], 0, 0)).2.1 : Nat)) ∧ (lxC11 (strB (List.replicate 31 122)))[j * 3 + 2]? = some (.int .i64 ((lxTests.getD j ([], 0, 0)).2.2 : Nat)) := by
  intro j hj
  match j, hj with
  | 0, _ => exact ⟨rfl, rfl, rfl⟩
  | 1, _ => exact ⟨rfl, rfl, rfl⟩
  | 2, _ => exact ⟨rfl, rfl, rfl⟩
  | 3, _ => exact ⟨rfl, rfl, rfl⟩
  | 4, _ => exact ⟨rfl, rfl, rfl⟩
  | 5, _ => exact ⟨rfl, rfl, rfl⟩
  | 6, _ => exact ⟨rfl, rfl, rfl⟩
  | 7, _ => exact ⟨rfl, rfl, rfl⟩
  | 8, _ => exact ⟨rfl, rfl, rfl⟩
  | 9, _ => exact ⟨rfl, rfl, rfl⟩
  | 10, _ => exact ⟨rfl, rfl, rfl⟩
  | j + 11, h => omega
theorem lxT_lt : ∀ j, j < 11 → (lxTests.getD j ([], 0, 0)).1.length ≤ 31 ∧ (lxTests.getD j ([], 0, 0)).2.1 ≤ 3 ∧ (lxTests.getD j ([], 0, 0)).2.2 ≤ 5 ∧ ∀ x ∈ (lxTests.getD j ([], 0, 0)).1, x < 256 := by decide +kernel
set_option maxHeartbeats 4000000 in
theorem lexErrors_any (wi ah : Int) (w : World) (hT : TabAt w) :
    Calls Tryz.prog 6 #[.int .i64 wi, .int .i64 ah] w fun e w' => e = .returned (.bool true) ∧ Below w.heap.size w w' := by
  have HT := hide hT
  obtain ⟨m, hm, hah⟩ : ∃ m : Nat, m ≤ 7 ∧ bits .and .i64 ah 7 = (m : Int) := ⟨(ah % 8).toNat, by omega, by rw [i64_and7]; omega⟩
  obtain ⟨j, hj, hwi⟩ : ∃ j : Nat, j < 11 ∧ wrap64 ((IntKind.u64.wrap wi).tmod 11) = (j : Int) := by
    have h0 : 0 ≤ IntKind.u64.wrap wi := by simp [IntKind.wrap, IntKind.signed, IntKind.bits]; omega
    refine ⟨((IntKind.u64.wrap wi).tmod 11).toNat, ?_, ?_⟩
    · rw [Int.tmod_eq_emod_of_nonneg h0]; omega
    · rw [Int.tmod_eq_emod_of_nonneg h0]; unfold wrap64; omega
  clear hT
  go_enter Tryz.func6, Tryz.ntmps6
  go_wp2_with fail
  refine (head11_any w HT.out).mono ?_
  rintro e w1 ⟨rfl, hb1⟩
  have HB1 := hide hb1
  clear hb1
  go_wp2
  go_loopw [5, 6] (fun a i wr => ∃ k : Nat, k ≤ m ∧ i = .int .i64 k ∧ a = .string (strB (preL k)) ∧ wr = w1) (fun _ i _ => m - (intOf i).toNat)
  case atStart => exact ⟨0, by omega, rfl, rfl, rfl⟩
  case round =>
    obtain ⟨k, hk, rfl, rfl, rfl⟩ := hrel
    by_cases hlt : k < m
    · have hkd : decide (k < m) = true := by simp [hlt]
      have hsz : (strB (preL k)).size ≤ 42 := by rw [strB_size, preL_len]; omega
      have hsn := pre_snocB k
      go_wp2
      refine ⟨⟨k + 1, by omega, by go_num, rfl, trivial⟩, by simp [intOf]; omega⟩
    · obtain rfl : k = m := by omega
      obtain ⟨sa, hsa⟩ : ∃ sa, sa = strB (preL k) := ⟨_, rfl⟩
      rw [← hsa]
      have hsz : sa.size = 6 * k := by rw [hsa, strB_size, preL_len]
      have HSA := hide hsa
      have HK0 := hide hlt
      clear hsa
      go_wp2
      go_loopw [8, 9] (fun z i w' => ∃ q : Nat, q ≤ 31 ∧ i = .int .i64 q ∧ z = .string (strB (List.replicate q 122)) ∧ w' = wr) (fun _ i _ => 31 - (intOf i).toNat)
      case atStart => exact ⟨0, by omega, rfl, rfl, rfl⟩
      case round =>
        obtain ⟨q, hq, rfl, rfl, rfl⟩ := hrel
        by_cases hq31 : q < 31
        · have hzz : (strB (List.replicate q 122)).size ≤ 31 := by rw [strB_size, List.length_replicate]; omega
          have hsn := z_snocB q
          go_wp2
          refine ⟨⟨q + 1, by omega, by go_num, rfl, trivial⟩, by simp [intOf]; omega⟩
        · obtain rfl : q = 31 := by omega
          obtain ⟨lg, hlg⟩ : ∃ lg, strB (List.replicate 31 122) = lg := ⟨_, rfl⟩
          rw [hlg]
          obtain ⟨e1, e2, e3⟩ := lxC_at j hj
          rw [hlg] at e1 e2 e3
          clear hlg
          obtain ⟨G, hG⟩ : ∃ G, wr.heap.size = G := ⟨_, rfl⟩
          obtain ⟨w2, ew⟩ : ∃ w2, wr.alloc (.cells #[.string ⟨#[34, 97, 98, 99]⟩, .int .i64 2, .int .i64 4, .string ⟨#[47, 97]⟩, .int .i64 2, .int .i64 2, .string ⟨#[47, 97, 40, 47]⟩, .int .i64 2, .int .i64 3, .string ⟨#[65]⟩, .int .i64 2, .int .i64 0, .string ⟨#[34, 97, 92, 113, 34]⟩, .int .i64 2, .int .i64 2, .string ⟨#[34, 10, 34]⟩, .int .i64 2, .int .i64 1, .string lg, .int .i64 3, .int .i64 0, .string ⟨#[57]⟩, .int .i64 2, .int .i64 0, .string ⟨#[47, 91, 98, 45, 97, 93, 47]⟩, .int .i64 2, .int .i64 5, .string ⟨#[97, 33]⟩, .int .i64 2, .int .i64 1, .string ⟨#[34, 97, 92, 34]⟩, .int .i64 2, .int .i64 4] 48) = w2 := ⟨_, rfl⟩
          have hB2 : Blk w2 G (lxC11 lg) 48 := by rw [← ew, ← hG]; exact Blk.newAt rfl _ _
          have hbl2 : Below wr.heap.size wr w2 := by rw [← ew]; exact (Below.refl _ _).alloc (Nat.le_refl _) _
          have HB2 := hide hbl2
          have c0 : w2.cell? ⟨G, j * 3, none⟩ = _ := (hB2.cell (j * 3)).trans e1
          have c1 : w2.cell? ⟨G, j * 3 + 1, none⟩ = _ := (hB2.cell (j * 3 + 1)).trans e2
          have c2 : w2.cell? ⟨G, j * 3 + 2, none⟩ = _ := (hB2.cell (j * 3 + 2)).trans e3
          obtain ⟨l1, l2, l3, l4⟩ := lxT_lt j hj
          have HLT := hide l4
          have HJ := hide hj
          have HER : Hid (∀ s : ByteArray, bytesN s = preL k ++ (lxTests.getD j ([], 0, 0)).1 → lexT s = .inl ((lxTests.getD j ([], 0, 0)).2.1, 6 * k + (lxTests.getD j ([], 0, 0)).2.2)) := fun s hs => lx_errs hj hs
          obtain ⟨tx, htx⟩ : ∃ tx, tx = (lxTests.getD j ([], 0, 0)).1 := ⟨_, rfl⟩
          obtain ⟨te, hte⟩ : ∃ te, te = (lxTests.getD j ([], 0, 0)).2.1 := ⟨_, rfl⟩
          obtain ⟨tp, htp⟩ : ∃ tp, tp = (lxTests.getD j ([], 0, 0)).2.2 := ⟨_, rfl⟩
          rw [← htx] at c0 l1 HLT HER
          rw [← hte] at c1 l2 HER
          rw [← htp] at c2 l3 HER
          have hts : (strB tx).size ≤ 31 := by rw [strB_size]; exact l1
          clear hbl2 hB2 e1 e2 e3 l1 l4 htx hte htp
          have HM := hide hm
          obtain ⟨st, hst⟩ : ∃ st, st = strB tx := ⟨_, rfl⟩
          rw [← hst] at c0 hts
          have HST := hide hst
          obtain ⟨K, hK⟩ : ∃ K, w2.heap.size = K := ⟨_, rfl⟩
          obtain ⟨w3, ew3⟩ : ∃ w3, w2.alloc (.cells #[.string st, .int .i64 te, .int .i64 tp] 48) = w3 := ⟨_, rfl⟩
          have hB3 : Blk w3 K #[.string st, .int .i64 te, .int .i64 tp] 48 := by rw [← ew3, ← hK]; exact Blk.newAt rfl _ _
          have hb3 : Below w2.heap.size w2 w3 := by rw [← ew3]; exact (Below.refl _ _).alloc (Nat.le_refl _) _
          have HB3 := hide hB3
          have HBL3 := hide (HB1.out.trans ((HB2.out.trans (hb3.mono HB2.out.size)).mono HB1.out.size))
          have HALL := hide (lexAll_any (sa ++ st) w3 (by rw [ByteArray.size_append]; omega) (HT.out.agree (Agree.of_all (K := fun _ => True) HBL3.out) trivial))
          have HTT : Hid (lexT (sa ++ st) = .inl (te, 6 * k + tp)) := HER.out _ (by rw [bytesN_appL, HSA.out, HST.out, bytesN_strB (preL_lt k), bytesN_strB HLT.out])
          have d0 := hB3.cell 0
          simp only [List.getElem?_toArray, List.getElem?_cons_zero] at d0
          clear hst hB3 hb3 hlt hk
          go_wp2_with fail
          refine HALL.out.mono ?_
          rintro e w4 ⟨hE, -, hb4⟩
          obtain ⟨rfl, -⟩ := hE _ _ HTT.out
          have d1 : w4.cell? ⟨K, 1, none⟩ = some (.int .i64 te) := (World.cell?_of_block (hb4.block _ HB3.out.lt)).trans (HB3.out.cell 1)
          have d2 : w4.cell? ⟨K, 2, none⟩ = some (.int .i64 tp) := (World.cell?_of_block (hb4.block _ HB3.out.lt)).trans (HB3.out.cell 2)
          have HB4 := hide (HBL3.out.trans (hb4.mono HBL3.out.size))
          clear hb4 hE
          go_wp2
          go_ret
          exact ⟨rfl, HB4.out⟩
end Go.Proofs.YtjlgepahgmkamaaGreatDoor
/- LexErrors answers true for all numbers: eleven texts that can't go on, alone and behind words and expressions, are told by All to be wrong, by the error and at the place that the page says. Conditions: the table of math/bits holds what its initialiser lays (the card ties that to the program's text). -/
namespace Go.Proofs.YtjlgepahgmkamaaGreatDoor
set_option maxRecDepth 100000
open Go.ChangeShapes Go.WideShapes Go.ChangeAt Go.WideMaps Go.WideElems Go.RowKit

set_option maxRecDepth 100000 in
theorem lexErrors_lifted (os : Os) (started : os.Started) (H : Type) (enc : TypeId × Value → H) :
    ReturnsInHanded {} Tryz.checked os 6 .any (fun w args => (Rows.lexErrorsSpec.pre enc Tryz.prog Tryz.f6 [] false w args ∧ laidMetH Tryz.prog [("math/bits.deBruijn64tab", Rows.laid_math_bits_deBruijn64tab)] w) ∧ sizedMet enc Tryz.prog Tryz.f6 (OpenSpec.ofChange Rows.lexErrorsSpec) false w args)
      (Rows.lexErrorsSpec.post enc Tryz.prog Tryz.f6 false true false false) := by
  refine returnsInHanded_of_change_and (C := Tryz.checked) (X := fun w _ => laidMetH Tryz.prog [("math/bits.deBruijn64tab", Rows.laid_math_bits_deBruijn64tab)] w) (fun _ _ _ hh h => h.of_heap hh) own started (by kernel_rfl) Tryz.func6
    (ChangeSpec.witness_shaped (enc := enc) (C := Tryz.checked) (os := os) (X := fun w _ => laidMetH Tryz.prog [("math/bits.deBruijn64tab", Rows.laid_math_bits_deBruijn64tab)] w) false (World.doorLaid Tryz.prog 400 os)
      #[.int .i64 0, .int .i64 0] 8 rfl (World.shaped_of_RefB (by kernel_rfl) (by kernel_rfl)) (by kernel_rfl) (by kernel_rfl) (by kernel_rfl) (door_met os _)) ?_
  intro W base args ds gs before hval0 hW _ _ hL _
  have hval : ∀ (j : Nat) t v, Tryz.f6.params[j]? = some t → args[j]? = some v → Value.okWide Tryz.prog W .any base t v := hval0
  have hW' := hW
  obtain ⟨p, q, hA0, hV, rfl, hfz, hnd⟩ := hW
  have hA : DataW.TrodAll enc Tryz.prog W 0 (fun _ => true) true Tryz.f6.params.toList args.toList ds p := hA0
  rw [Tryz.params6] at hA hval
  obtain ⟨v0, v1, d0, d1, p0, p1, rfl, rfl, rfl, h0, h1⟩ := trodAll_two hA
  obtain ⟨rfl, rfl⟩ := trodVars_none hV
  have k0 := h0
  obtain ⟨i0, rfl, rfl, rfl, w0⟩ := open_int Tryz.underlying3 (hval 0 3 v0 rfl rfl) h0
  have b0 := bounds_i64 w0
  have k1 := h1
  obtain ⟨i1, rfl, rfl, rfl, w1⟩ := open_int Tryz.underlying3 (hval 1 3 v1 rfl rfl) h1
  have b1 := bounds_i64 w1
  have hT := tab_of_laid hL
  clear hA0 hval0
  refine (lexErrors_any i0 i1 W hT).mono fun e W' ⟨he, hb⟩ => ?_
  subst he
  exact ⟨_, rfl, _, _, _, [], _, [], hW', trodAll_mk1 (shut_bool Tryz.underlying4 _), trodAll_mk2 (shut_int Tryz.underlying3 w0) (shut_int Tryz.underlying3 w1), rfl, hb.frame _, fun h => by cases h⟩

theorem lexErrors_said : Rows.LexErrorsSaid :=
  OpenClaim.holds_of_wide 6 Tryz.f6 rfl rfl rfl rfl rfl rfl rfl ⟨rfl, rfl, rfl, rfl, rfl⟩ rfl rfl rfl rfl rfl (by kernel_rfl) Tryz.func6 (by kernel_rfl)
    (of_decide_eq_true (by kernel_rfl)) (by unfold Func.isWrapper; first | (rw [if_pos (by decide +kernel)]; kernel_rfl) | (rw [if_neg (by decide +kernel)]; exact ⟨rfl, rfl⟩))
    (fun os started H enc _ => lexErrors_lifted os started H enc)

theorem lexErrors_card : Rows.LexErrorsCardSaid :=
  Claim7.holds_tied_plain_at .later [] [.data] true Rows.lexErrorsCard.stood.harness false
    lexErrors_said (fun _ h => by cases h) (by kernel_rfl) (fun _ h => by cases h) lexErrors_row_tie rfl ⟨rfl, rfl⟩ (by kernel_rfl) rfl
    (fun f fn hf hfn => by
      obtain rfl : f = 6 := Option.some.inj ((show Tryz.prog.funcNamed "periscope/periscopelaw11.LexErrors" = some 6 by kernel_rfl).symm.trans hf) |>.symm
      obtain rfl : fn = Tryz.f6 := (Option.some.inj (Tryz.func6.symm.trans hfn)).symm
      exact ⟨by kernel_rfl, fun j t ht => by
        rw [Tryz.params6] at ht
        have hm : t ∈ [3, 3] := by simpa using Array.mem_of_getElem? ht
        have hall : ([3, 3].all fun u => !Tryz.prog.wantsStandIn u) = true := by kernel_rfl
        exact (show Tryz.prog.wantsStandIn t = false by simpa using List.all_eq_true.1 hall t hm)⟩)
    (by kernel_rfl)
#print axioms lexErrors_card
end Go.Proofs.YtjlgepahgmkamaaGreatDoor
