/- Texts of this claim put together: LxP5. -/
import Derived.Test.YtjlgepahgmkamaaGreatDoorJoinLxP4
import Derived.Test.YtjlgepahgmkamaaGreatDoorJoinRunT
/- LexParts: a part's write; Same of what is, or is not there; how long the text is. -/
namespace Go.Proofs.YtjlgepahgmkamaaGreatDoor
set_option maxRecDepth 100000
set_option linter.unusedSimpArgs false
set_option linter.unusedVariables false
open Go.RowKit Go.Shelf

theorem key_nilP (w : World) : Calls Tryz.prog 19 #[.pointer none] w fun e w' => e = .returned (.string ⟨#[]⟩) ∧ Below w.heap.size w w' := by
  have hk : Calls Tryz.prog 43 #[.pointer none, .slice none 0 0] w fun e w' => e = .returned (.slice none 0 0) ∧ w' = w := by
    go_enter Tryz.func43, Tryz.ntmps43
    go_wp2
    go_ret
    exact ⟨rfl, rfl⟩
  have HK := hide hk
  clear hk
  go_enter Tryz.func19, Tryz.ntmps19
  go_wp2_with fail
  refine HK.out.mono ?_
  rintro e w1 ⟨rfl, rfl⟩
  have hcv := run_convert_bytes_nil (P := Tryz.prog) w1 71 5 Tryz.underlying71 Tryz.underlying5 0 0 9 Tryz.underlying9
  go_wp2
  go_ret
  exact ⟨rfl, Below.refl _ _⟩
theorem same_nilP (w : World) : Calls Tryz.prog 11 #[.pointer none, .pointer none] w fun e w' => e = .returned (.bool true) ∧ Below w.heap.size w w' := by
  go_enter Tryz.func11, Tryz.ntmps11
  go_wp2_with fail
  refine (key_nilP _).mono ?_
  rintro e w1 ⟨rfl, hb1⟩
  have HB1 := hide hb1
  clear hb1
  go_wp2_with fail
  refine (key_nilP _).mono ?_
  rintro e w2 ⟨rfl, hb2⟩
  have HB2 := hide hb2
  clear hb2
  go_wp2
  go_ret
  exact ⟨rfl, HB1.out.trans (HB2.out.mono HB1.out.size)⟩
/-- Same of two pointers to one expression, or to none. -/
theorem same_opt {r : Option RE} {u v : Value} {w : World} (hu : PtrOf w r u) (hv : PtrOf w r v) (hr : ∀ x, r = some x → WfK x) (hT : TabAt w) :
    Calls Tryz.prog 11 #[u, v] w fun e w' => e = .returned (.bool true) ∧ Below w.heap.size w w' := by
  cases r with
  | none =>
    obtain rfl : u = .pointer none := hu
    obtain rfl : v = .pointer none := hv
    exact same_nilP w
  | some x =>
    obtain ⟨a, rfl, ha⟩ := hu
    obtain ⟨b, rfl, hb⟩ := hv
    refine (same_re x x a b w (hr x rfl) (hr x rfl) ha hb hT).mono fun e w' ⟨h1, h2⟩ => ⟨?_, h2.below⟩
    rw [h1, lexN_self]; rfl
theorem and7P (n : Int) : bits .and .i64 n 7 = n % 8 := by
  have h15 : (BitVec.ofInt 64 7).toNat = 2 ^ 3 - 1 := by decide
  have key : (BitVec.ofInt 64 n &&& BitVec.ofInt 64 7).toNat = (n % ((2 ^ 64 : Nat) : Int)).toNat % 2 ^ 3 := by
    rw [BitVec.toNat_and, BitVec.toNat_ofInt, h15, Nat.and_two_pow_sub_one_eq_mod]
  show IntKind.i64.wrap ((BitVec.ofInt 64 n &&& BitVec.ofInt 64 7).toNat : Nat) = n % 8
  rw [key, IntKind.wrap_i64]
  omega
theorem and3P (n : Int) : bits .and .i64 n 3 = n % 4 := by
  have h15 : (BitVec.ofInt 64 3).toNat = 2 ^ 2 - 1 := by decide
  have key : (BitVec.ofInt 64 n &&& BitVec.ofInt 64 3).toNat = (n % ((2 ^ 64 : Nat) : Int)).toNat % 2 ^ 2 := by
    rw [BitVec.toNat_and, BitVec.toNat_ofInt, h15, Nat.and_two_pow_sub_one_eq_mod]
  show IntKind.i64.wrap ((BitVec.ofInt 64 n &&& BitVec.ofInt 64 3).toNat : Nat) = n % 4
  rw [key, IntKind.wrap_i64]
  omega
theorem kx_eq (p : PRT) : wrap64 ((IntKind.u64.wrap p.k).tmod 4) = (p.kx : Int) := by
  have h0 : 0 ≤ IntKind.u64.wrap p.k := by simp [IntKind.wrap, IntKind.signed, IntKind.bits]; omega
  unfold PRT.kx
  rw [Int.tmod_eq_emod_of_nonneg h0]; unfold wrap64; omega
theorem wx_eq (p : PRT) : wrap64 ((IntKind.u64.wrap p.n).tmod 6) = (p.wx : Int) := by
  have h0 : 0 ≤ IntKind.u64.wrap p.n := by simp [IntKind.wrap, IntKind.signed, IntKind.bits]; omega
  unfold PRT.wx
  rw [Int.tmod_eq_emod_of_nonneg h0]; unfold wrap64; omega
theorem sx_eq (p : PRT) : bits .and .i64 p.n 7 = (p.sx : Int) := by rw [and7P]; unfold PRT.sx; omega
theorem gx_eq (p : PRT) : bits .and .i64 p.gap 3 = (p.gx : Int) := by rw [and3P]; unfold PRT.gx; omega
/-- A part's write. -/
theorem write_any {p : PRT} {cs : List Value} {w : World} (hC : PrtC w cs p) (hp : p.Ok) (hT : TabAt w) :
    Calls Tryz.prog 9 #[.agg cs.toArray] w fun e w' => ∃ o, e = .returned (.tuple #[.string (strB p.wr), .agg #[.int .i64 (p.tok 0).kind, .string (p.tok 0).txt, .pointer o, .int .i64 0]]) ∧ PtrOf w' (p.tok 0).re (.pointer o) ∧ Below w.heap.size w w' := by
  obtain ⟨sc, rfl, hs⟩ := hC.cells
  obtain ⟨v, rfl, hrow, -⟩ := hs.open
  obtain ⟨-, a, cap, rfl, -⟩ := hrow.at
  have hk := kx_lt p
  have hke := kx_eq p
  by_cases k0 : p.kx = 0
  · rw [k0] at hke
    have h := write_word p.k p.n p.gap p.sh.op p.sh.lo p.sh.hi p.sh.kids.length cap p.s p.sh.text a w hT hke p.wx (wx_lt p) (wx_eq p) _ rfl
    refine h.mono fun e w' ⟨h1, h2⟩ => ⟨none, ?_, ?_, h2⟩
    · rw [h1]; unfold PRT.wr PRT.tok; rw [if_pos k0, if_pos k0]; rfl
    · unfold PRT.tok; rw [if_pos k0]; rfl
  · by_cases k1 : p.kx = 1
    · rw [k1] at hke
      have h := write_sign p.k p.n p.gap p.sh.op p.sh.lo p.sh.hi p.sh.kids.length cap p.s p.sh.text a w hT hke p.sx (sx_lt p) (sx_eq p) _ (sgS_at _ (sx_lt p))
      refine h.mono fun e w' ⟨h1, h2⟩ => ⟨none, ?_, ?_, h2⟩
      · rw [h1]; unfold PRT.wr PRT.tok; rw [if_neg k0, if_pos k1, if_neg k0, if_pos k1]; rfl
      · unfold PRT.tok; rw [if_neg k0, if_pos k1]; rfl
    · by_cases k2 : p.kx = 2
      · rw [k2] at hke
        have h := write_text p.k p.n p.gap p.sh.op p.sh.lo p.sh.hi p.sh.kids.length cap p.s p.sh.text a w hT hke hp.size _ rfl
        refine h.mono fun e w' ⟨h1, h2⟩ => ⟨none, ?_, ?_, h2⟩
        · rw [h1]; unfold PRT.wr PRT.tok; rw [if_neg k0, if_neg k1, if_pos k2, if_neg k0, if_neg k1, if_pos k2]; rfl
        · unfold PRT.tok; rw [if_neg k0, if_neg k1, if_pos k2]; rfl
      · have k3 : p.kx = 3 := by omega
        rw [k3] at hke
        have h := write_re p.k p.n p.gap p.sh.op p.sh.lo p.sh.hi p.sh.kids.length cap p.s p.sh.text a w hT hke p.sh hs hp.tx hp.nodes
        refine h.mono fun e w' ⟨q, h1, h2, h3⟩ => ⟨some ⟨q, 0, none⟩, ?_, ?_, h3⟩
        · rw [h1]; unfold PRT.wr PRT.tok; rw [if_neg k0, if_neg k1, if_neg k2, if_neg k0, if_neg k1, if_neg k2]; rfl
        · unfold PRT.tok; rw [if_neg k0, if_neg k1, if_neg k2]; exact ⟨q, rfl, h2⟩
theorem tok_at (p : PRT) (a : Nat) : p.tok a = ⟨(p.tok 0).kind, (p.tok 0).txt, (p.tok 0).re, a⟩ := by
  unfold PRT.tok
  repeat' split
  all_goals rfl
theorem tok_wf {p : PRT} {a : Nat} {r : RE} (h : (p.tok a).re = some r) : WfK r := by
  unfold PRT.tok at h
  split at h
  · cases h
  · split at h
    · cases h
    · split at h
      · cases h
      · injection h with h
        rw [← h]; exact p.sh.wf.k
theorem prtT_wf (l : List PRT) : ∀ (a : Nat) (t : LTok), t ∈ prtT l a → ∀ r, t.re = some r → WfK r := by
  induction l with
  | nil => intro a t ht; exact absurd ht (by simp [prtT])
  | cons p l ih =>
    intro a t ht r hr
    rcases List.mem_cons.1 ht with rfl | ht
    · exact tok_wf hr
    · exact ih _ t ht r hr
/-- How long a part's text can be. -/
theorem gapL_len (p : PRT) : 1 ≤ p.gapL.length ∧ p.gapL.length ≤ 14 ∧ ∀ x ∈ p.gapL, x < 256 := by
  have h : ∀ j, j < 4 → 1 ≤ (lxGaps.getD j []).length ∧ (lxGaps.getD j []).length ≤ 14 ∧ ∀ x ∈ lxGaps.getD j [], x < 256 := by decide
  exact h _ (gx_lt p)
theorem byteW_sum (l : List Nat) : (l.flatMap byteW).length ≤ 4 * l.length := by
  induction l with
  | nil => exact Nat.zero_le _
  | cons x l ih => rw [List.flatMap_cons, List.length_append, List.length_cons]; have := (byteW_len x).2; omega
theorem wr_len {p : PRT} (hp : p.Ok) : p.wr.length ≤ 3502 := by
  have hw : ∀ j, j < 6 → (lxWords.getD j []).length ≤ 4 := by decide
  unfold PRT.wr
  split
  · have := hw _ (wx_lt p); omega
  · split
    · show 1 ≤ 3502; omega
    · split
      · have h1 := byteW_sum (bytesN p.s)
        rw [bN_len] at h1
        have := hp.size
        unfold quoteT
        simp only [List.length_cons, List.length_append, List.length_nil]
        omega
      · have := txt_15 hp.tx hp.nodes
        simp only [List.length_cons, List.length_append, List.length_nil]
        omega
theorem prtW_len : ∀ (l : List PRT), (∀ p ∈ l, p.Ok) → (prtW l).length ≤ 3516 * l.length
  | [], _ => Nat.zero_le _
  | p :: l, h => by
    have h1 := prtW_len l fun q hq => h q (by simp [hq])
    have h2 := gapL_len p
    have h3 := wr_len (h p (by simp))
    simp only [prtW, List.length_append, List.length_cons]
    omega
theorem wr_lt {p : PRT} (hp : p.Ok) : ∀ x ∈ p.wr, x < 256 := by
  unfold PRT.wr
  split
  · exact (words_ok _ (wx_lt p)).2.2.2
  · split
    · intro x hx
      rcases List.mem_singleton.1 hx with rfl
      exact (signs_ok _ (sx_lt p)).2.2.2.2
    · split
      · exact quoteT_lt p.s
      · intro x hx
        rcases List.mem_cons.1 hx with rfl | hx
        · decide
        · rcases List.mem_append.1 hx with hx | hx
          · exact txt_lt p.sh.re x hx
          · rcases List.mem_singleton.1 hx with rfl; decide
theorem prtW_lt : ∀ (l : List PRT), (∀ p ∈ l, p.Ok) → ∀ x ∈ prtW l, x < 256
  | [], _, x, hx => absurd hx (by simp [prtW])
  | p :: l, h, x, hx => by
    rcases List.mem_append.1 hx with hx | hx
    · exact (gapL_len p).2.2 x hx
    · rcases List.mem_append.1 hx with hx | hx
      · exact wr_lt (h p (by simp)) x hx
      · exact prtW_lt l (fun q hq => h q (by simp [hq])) x hx
def lxGapsC : Array Value := #[.string ⟨#[32]⟩, .string ⟨#[10, 9]⟩, .string ⟨#[32, 35, 32, 114, 101, 109, 97, 114, 107, 32, 47, 32, 34, 10]⟩, .string ⟨#[32, 32, 13]⟩]
theorem lxGapsC_at (p : PRT) : lxGapsC[p.gx]? = some (.string (strB p.gapL)) := by
  have h := gx_lt p
  unfold PRT.gapL
  match p.gx, h with
  | 0, _ => rfl
  | 1, _ => rfl
  | 2, _ => rfl
  | 3, _ => rfl
  | j + 4, h => omega
end Go.Proofs.YtjlgepahgmkamaaGreatDoor
