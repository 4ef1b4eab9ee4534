/- DerivWords answers true for every text, number and byte: behind a word's first bytes stands the rest of the word, and just the word is a text of it. Conditions: the table of math/bits holds what its initialiser lays (the card ties that to the program's text). -/
/- Texts of this claim put together: MathWords, OpenStr, LawDerivWords, ProofDerivWords. -/
import Derived.Test.YthemadegffhmfaaDoorJoinLawHead5
import Derived.Test.YthemadegffhmfaaDoorJoinShC
import Derived.Laws.BytesArg
import Derived.Test.YthemadegffhmfaaDoorCards
import Derived.Test.YthemadegffhmfaaDoorTie
/- What stands behind the bytes of a word, and of a word many times. -/
namespace Go.Proofs.YthemadegffhmfaaDoor
set_option maxRecDepth 100000
set_option linter.unusedSimpArgs false
set_option linter.unusedVariables false
open Go.RowKit

def letL (u : List Nat) : List RE := u.map rLetter
theorem set_ne {c : Nat} (hc : c < 256) : setOf [c] ≠ 0#256 := fun e => by
  have h := setOf_has [c] c hc
  rw [e] at h
  simp at h
theorem letter_is {c : Nat} (hc : c < 256) : rLetter c = .mk 2 (setOf [c]) [] := letter_mk c (set_ne hc)
theorem letter_op {c : Nat} (hc : c < 256) : (rLetter c).op = 2 := by rw [letter_is hc]; rfl
theorem letter_null {c : Nat} (hc : c < 256) : (rLetter c).null = false := by rw [letter_is hc, RE.null_mk]; simp
theorem letter_beh (b : Nat) {c : Nat} (hc : c < 256) : (rLetter c).beh b = ([], (setOf [c]).getLsbD b) := by rw [letter_is hc, beh2]
theorem letL_wf (u : List Nat) : ∀ r ∈ letL u, Wf r := fun r hr => by
  obtain ⟨c, -, rfl⟩ := List.mem_map.1 hr
  exact wf_one _
theorem letter_cnt {c : Nat} (hc : c < 256) : (rLetter c).cnt = 1 := by rw [letter_is hc, RE.cnt_mk]; simp [cntL]
theorem letL_cnt : ∀ u : List Nat, By u → cntL (letL u) = u.length
  | [], _ => rfl
  | c :: u, h => by
    have ih := letL_cnt u (fun x hx => h x (by simp [hx]))
    rw [letL, List.map_cons, cntL_cons, letter_cnt (h c (by simp))]
    unfold letL at ih
    rw [ih, List.length_cons]; omega
/-- A letter ahead of a row. -/
theorem row_letter (b : Nat) {c : Nat} (hc : c < 256) (l : List RE) : behRow b (rLetter c :: l) = if (setOf [c]).getLsbD b then (l, true) else ([], false) := by
  unfold behRow
  rw [List.map_cons, letter_beh b hc, wayL, letter_null hc]
  by_cases h : (setOf [c]).getLsbD b = true
  · simp only [h, if_true]
    simp [pack]
  · simp only [h]
    simp [pack]
theorem word_beh (b : Nat) {c : Nat} {t : List Nat} (hw : By (c :: t)) : (rWord (c :: t)).beh b = if (setOf [c]).getLsbD b then (letL t, true) else ([], false) := by
  have hc : c < 256 := hw c (by simp)
  cases t with
  | nil =>
    have e : rWord [c] = rLetter c := by
      unfold rWord
      rw [List.map_cons, List.map_nil]
      exact thenW (wf_one _)
    rw [e, letter_beh b hc]
    by_cases h : (setOf [c]).getLsbD b = true
    · rw [if_pos h, h]; rfl
    · rw [if_neg h]; simp at h; rw [h]
  | cons d t =>
    have e : rWord (c :: d :: t) = .mk 3 0#256 (letL (c :: d :: t)) := by
      unfold rWord
      exact then_same (fun k hk => by
        obtain ⟨x, hx, rfl⟩ := List.mem_map.1 hk
        have := letter_op (hw x hx)
        omega) (by simp)
    rw [e, beh3]
    exact row_letter b hc (letL (d :: t))
theorem word_nil : rWord [] = rEmpty := rfl
theorem word_op (t : List Nat) (hw : By t) : (rWord t).op = 1 ∨ (rWord t).op = 2 ∨ (rWord t).op = 3 := by
  match t with
  | [] => exact .inl rfl
  | [c] =>
    have e : rWord [c] = rLetter c := by
      unfold rWord
      rw [List.map_cons, List.map_nil]
      exact thenW (wf_one _)
    rw [e]
    exact .inr (.inl (letter_op (hw c (by simp))))
  | c :: d :: t =>
    have e : rWord (c :: d :: t) = .mk 3 0#256 (letL (c :: d :: t)) := by
      unfold rWord
      exact then_same (fun k hk => by
        obtain ⟨x, hx, rfl⟩ := List.mem_map.1 hk
        have := letter_op (hw x hx)
        omega) (by simp)
    rw [e]; exact .inr (.inr rfl)
/-- By of a word and its first byte. -/
theorem by_word {c : Nat} {t : List Nat} (hw : By (c :: t)) : rBy c (rWord (c :: t)) = rWord t := by
  have hc : c < 256 := hw c (by simp)
  unfold rBy
  rw [word_beh c hw, if_pos (by rw [setOf_has _ _ hc]; simp)]
  rfl
theorem mf_letters : ∀ (s u : List Nat), u.length ≤ 1000 → By u → MFits s (letL u)
  | [], _, _, _ => trivial
  | b :: s, [], _, _ => ⟨fitsRow_cnt b _ (by simp [letL]) (by simp [letL, cntL]), fun h => by
      rw [show behRow b (letL []) = ([], false) from rfl] at h; cases h⟩
  | b :: s, c :: u, hl, hu => by
    refine ⟨fitsRow_cnt b _ (letL_wf _) (by rw [letL_cnt _ hu]; omega), fun h => ?_⟩
    have e := row_letter b (hu c (by simp)) (letL u)
    rw [show letL (c :: u) = rLetter c :: letL u from rfl] at h ⊢
    rw [e] at h ⊢
    by_cases hb : (setOf [c]).getLsbD b = true
    · rw [if_pos hb]
      exact mf_letters s u (by simp at hl; omega) (fun x hx => hu x (by simp [hx]))
    · rw [if_neg hb] at h; cases h
theorem mf_word (s t : List Nat) (hl : t.length ≤ 1000) (hw : By t) : MFits s [rWord t] := by
  have hwf : ∀ r ∈ [rWord t], Wf r := fun r hr => by simp at hr; subst hr; exact word_wf t
  match s with
  | [] => trivial
  | b :: s =>
    refine ⟨fitsRow_cnt b _ hwf (by rw [cntL_one]; have := cnt_word t; omega), fun h => ?_⟩
    match t with
    | [] =>
      rw [show behRow b [rWord []] = ([], false) from by
        unfold behRow
        rw [List.map_cons, List.map_nil, word_nil, show rEmpty.beh b = ([], false) from beh01 b 1 0#256 [] (.inr rfl)]
        simp [wayL, pack]] at h
      cases h
    | c :: t =>
      have e : behRow b [rWord (c :: t)] = if (setOf [c]).getLsbD b then (letL t, true) else ([], false) := by
        unfold behRow
        rw [List.map_cons, List.map_nil, word_beh b hw]
        by_cases hb : (setOf [c]).getLsbD b = true
        · rw [if_pos hb]; simp [wayL, pack]
        · rw [if_neg hb]; simp [wayL, pack]
      rw [e] at h ⊢
      by_cases hb : (setOf [c]).getLsbD b = true
      · rw [if_pos hb]
        exact mf_letters s t (by simp at hl; omega) (fun x hx => hw x (by simp [hx]))
      · rw [if_neg hb] at h; cases h
/-- A word many times. -/
def starW (t : List Nat) : RE := .mk 5 0#256 [rWord t]
theorem many_word {t : List Nat} (hw : By t) (h0 : t ≠ []) : rMany (rWord t) = starW t := by
  have h1 := word_op t hw
  have h2 : (rWord t).op ≠ 1 := by
    match t with
    | [] => exact absurd rfl h0
    | [c] =>
      have e : rWord [c] = rLetter c := by
        unfold rWord
        rw [List.map_cons, List.map_nil]
        exact thenW (wf_one _)
      rw [e, letter_op (hw c (by simp))]; omega
    | c :: d :: t =>
      have e : rWord (c :: d :: t) = .mk 3 0#256 (letL (c :: d :: t)) := by
        unfold rWord
        exact then_same (fun k hk => by
          obtain ⟨x, hx, rfl⟩ := List.mem_map.1 hk
          have := letter_op (hw x hx)
          omega) (by simp)
      rw [e]; simp [RE.op]
  unfold rMany
  rw [if_neg (by omega), if_neg (by omega)]; rfl
theorem starW_null (t : List Nat) : (starW t).null = true := by unfold starW; rw [RE.null_mk]; simp
theorem starW_cnt (t : List Nat) : (starW t).cnt ≤ 2 + t.length := by
  unfold starW
  rw [RE.cnt_mk, cntL_one]
  have := cnt_word t
  omega
theorem mf_star (c0 : Nat) (t0 : List Nat) (h0 : By (c0 :: t0)) (hl0 : (c0 :: t0).length ≤ 1000) (hwf : Wf (starW (c0 :: t0))) : ∀ (s u : List Nat), u.length ≤ 1000 → By u → MFits s (letL u ++ [starW (c0 :: t0)])
  | [], _, _, _ => trivial
  | b :: s, [], _, _ => by
    have hwr : ∀ r ∈ [starW (c0 :: t0)], Wf r := fun r hr => by simp at hr; subst hr; exact hwf
    have e : behRow b [starW (c0 :: t0)] = if (setOf [c0]).getLsbD b then (letL t0 ++ [starW (c0 :: t0)], true) else ([], false) := by
      unfold behRow
      rw [List.map_cons, List.map_nil, show (starW (c0 :: t0)).beh b = (((rWord (c0 :: t0)).beh b).1 ++ [starW (c0 :: t0)], ((rWord (c0 :: t0)).beh b).2) from beh5 b 0#256 _, word_beh b h0, wayL, starW_null]
      by_cases hb : (setOf [c0]).getLsbD b = true
      · rw [if_pos hb, if_pos hb]; simp [wayL, pack]
      · rw [if_neg hb, if_neg hb]; simp [wayL, pack]
    refine ⟨fitsRow_cnt b _ hwr (by rw [show letL [] ++ [starW (c0 :: t0)] = [starW (c0 :: t0)] from rfl, cntL_one]; have := starW_cnt (c0 :: t0); omega), fun h => ?_⟩
    rw [show letL [] ++ [starW (c0 :: t0)] = [starW (c0 :: t0)] from rfl] at h ⊢
    rw [e] at h ⊢
    by_cases hb : (setOf [c0]).getLsbD b = true
    · rw [if_pos hb]
      exact mf_star c0 t0 h0 hl0 hwf s t0 (by simp at hl0; omega) (fun x hx => h0 x (by simp [hx]))
    · rw [if_neg hb] at h; cases h
  | b :: s, c :: u, hl, hu => by
    have hwr : ∀ r ∈ letL (c :: u) ++ [starW (c0 :: t0)], Wf r := fun r hr => by
      rcases List.mem_append.1 hr with hr | hr
      · exact letL_wf _ r hr
      · simp at hr; subst hr; exact hwf
    refine ⟨fitsRow_cnt b _ hwr (by rw [cntL_append, letL_cnt _ hu, cntL_one]; have := starW_cnt (c0 :: t0); omega), fun h => ?_⟩
    have e := row_letter b (hu c (by simp)) (letL u ++ [starW (c0 :: t0)])
    rw [show letL (c :: u) ++ [starW (c0 :: t0)] = rLetter c :: (letL u ++ [starW (c0 :: t0)]) from rfl] at h ⊢
    rw [e] at h ⊢
    by_cases hb : (setOf [c]).getLsbD b = true
    · rw [if_pos hb]
      exact mf_star c0 t0 h0 hl0 hwf s u (by simp at hl; omega) (fun x hx => hu x (by simp [hx]))
    · rw [if_neg hb] at h; cases h
theorem mf_many (s t : List Nat) (hl : t.length ≤ 1000) (hw : By t) : MFits s [rMany (rWord t)] := by
  match t with
  | [] =>
    rw [word_nil, show rMany rEmpty = rWord [] from rfl]
    exact mf_word s [] (by simp) hw
  | c :: t =>
    have h1 := wf_many (word_wf (c :: t))
    rw [many_word hw (by simp)] at h1 ⊢
    exact mf_star c t hw hl h1 s [] (by simp) (fun x hx => by simp at hx)
theorem match_word (t x : List Nat) (hw : By t) (hx : By x) : matchB x (rWord t) = decide (x = t) := by
  rw [Bool.eq_iff_iff, match_lang _ _ (word_wf t) hx, lang_word t x hw]; simp
theorem match_twice (t : List Nat) (hw : By t) : matchB (t ++ t) (rMany (rWord t)) = true := by
  rw [match_lang _ _ (wf_many (word_wf t)) (fun x hx => by
    rcases List.mem_append.1 hx with h | h
    · exact hw x h
    · exact hw x h), lang_many]
  have h1 : (rWord t).lang t := (lang_word t t hw).2 rfl
  cases t with
  | nil => exact .nil
  | cons c t => exact .cons _ _ (by simp) h1 (by have := starG.cons (l := (rWord (c :: t)).lang) (c :: t) [] (by simp) h1 .nil; simpa using this)
end Go.Proofs.YthemadegffhmfaaDoor
/- A string that came in. -/
namespace Go.Proofs.YthemadegffhmfaaDoor
set_option maxRecDepth 100000
set_option linter.unusedSimpArgs false
set_option linter.unusedVariables false
open Go.RowKit

section
open Go.ChangeShapes Go.WideShapes Go.ChangeAt Go.WideMaps Go.WideElems
theorem open_str {H : Type} {enc : TypeId × Value → H} {w : World} {r : Reach} {b0 base : Nat} {sp : Nat → Bool} {held : Bool} {v : Value} {d : DataW H} {p : List MemPlace}
    (hv : Value.okWide Tryd.prog w r b0 9 v) (h : DataW.Trod enc Tryd.prog w base sp held 9 v d p) : ∃ s : ByteArray, v = .string s ∧ s.size ≤ 9223372036854775807 := by
  obtain ⟨s, rfl⟩ := okWide_string Tryd.underlying9 hv
  obtain ⟨fuel, hf⟩ := h
  refine ⟨s, rfl, ?_⟩
  cases fuel with
  | zero => simp [DataW.trod] at hf
  | succ m =>
    unfold DataW.trod at hf
    rw [Tryd.underlying9] at hf
    simp [Value.cells] at hf
    have := hf.1
    unfold maxLen at this
    omega
end
end Go.Proofs.YthemadegffhmfaaDoor
/- DerivWords, walked. -/
namespace Go.Proofs.YthemadegffhmfaaDoor
set_option maxRecDepth 100000
set_option linter.unusedSimpArgs false
set_option linter.unusedVariables false
open Go.RowKit

theorem i64_and16 (n : Int) : bits .and .i64 n 65535 = n % 65536 := by
  have h3 : (BitVec.ofInt 64 65535).toNat = 2 ^ 16 - 1 := by decide
  have key : (BitVec.ofInt 64 n &&& BitVec.ofInt 64 65535).toNat = (n % ((2 ^ 64 : Nat) : Int)).toNat % 2 ^ 16 := by
    rw [BitVec.toNat_and, BitVec.toNat_ofInt, h3, Nat.and_two_pow_sub_one_eq_mod]
  show IntKind.i64.wrap ((BitVec.ofInt 64 n &&& BitVec.ofInt 64 65535).toNat : Nat) = n % 65536
  rw [key, IntKind.wrap_i64]
  omega
theorem one_byteW (W : World) (a : Nat) : (convert 33 9 (.slice (some ⟨W.heap.size, 0, none⟩) 1 1)).run Tryd.prog (W.alloc (.cells #[.int .u8 (a : Int)] 5)) = .ok (.string (strOfNums [(a : Int)])) (W.alloc (.cells #[.int .u8 (a : Int)] 5)) := by
  refine run_convert_bytes_arg _ 33 5 Tryd.underlying33 Tryd.underlying5 _ 0 1 1 [(a : Int)] rfl ?_ 9 Tryd.underlying9
  intro i hi
  rw [(Blk.new W _ _).cell]
  match i, hi with
  | 0, _ => rfl
theorem bytesW_len (t : ByteArray) : (bytesN t).length = t.size := by unfold bytesN; rw [List.length_map]; rfl
theorem bytesW_drop (t : ByteArray) (i : Nat) : bytesN (t.extract i t.size) = (bytesN t).drop i := by
  unfold bytesN
  rw [ByteArray.data_extract, Array.toList_extract]
  simp [List.extract, List.map_drop]
  rw [List.take_of_length_le]
  simp
theorem bytesW_app (x y : ByteArray) : bytesN (x ++ y) = bytesN x ++ bytesN y := by simp [bytesN]
theorem bytesW_by (t : ByteArray) : By (bytesN t) := fun x hx => by
  obtain ⟨u, -, rfl⟩ := List.mem_map.1 hx
  exact u.toNat_lt

set_option maxHeartbeats 2000000 in
theorem derivWords_any (s : ByteArray) (cut : Int) (m : Nat) (hs : s.size ≤ 9223372036854775807) (hm : m < 256) (w : World) (hT : TabAt w) :
    Calls Tryd.prog 5 #[.string s, .int .i64 cut, .int .u8 m] w fun e w' => e = .returned (.bool true) ∧ Below w.heap.size w w' := by
  have HT := hide hT
  clear hT
  go_enter Tryd.func5, Tryd.ntmps5
  go_wp2_with fail
  refine (head5_any _ HT.out).mono ?_
  rintro e w1 ⟨rfl, hb1⟩
  have HB1 := hide hb1
  clear hb1
  by_cases h200 : 200 < s.size
  · have d1 : decide ((200 : Int) < s.size) = true := decide_eq_true (by omega)
    have d2 : decide (200 < s.size) = true := decide_eq_true h200
    go_wp2
    go_ret
    exact ⟨rfl, HB1.out⟩
  have d1 : decide ((200 : Int) < s.size) = false := decide_eq_false (by omega)
  have d2 : decide (200 < s.size) = false := decide_eq_false h200
  have hbl := bytesW_len s
  have hby := bytesW_by s
  obtain ⟨t, ht⟩ : ∃ t, t = bytesN s := ⟨_, rfl⟩
  have HTB := hide ht
  rw [← ht] at hbl hby
  have HBL := hide hbl
  have HBY := hide hby
  clear ht hbl hby hs
  have hs200 : s.size ≤ 200 := by omega
  clear h200
  go_wp2_with fail
  refine (word_any s w1 (by omega)).mono ?_
  rintro e w2 ⟨rb, rfl, hr2, hb2⟩
  rw [← HTB.out] at hr2
  have HR2 := hide hr2
  have HB2 := hide (HB1.out.trans (hb2.mono HB1.out.size))
  clear hr2 hb2
  have hband := i64_and16 cut
  obtain ⟨x, hx, hx2⟩ : ∃ x : Nat, cut % 65536 = (x : Int) ∧ x < 65536 := ⟨(cut % 65536).toNat, by omega, by omega⟩
  rw [hx] at hband
  obtain ⟨c, hc⟩ : ∃ c, c = x % (s.size + 1) := ⟨_, rfl⟩
  have hrem : Int.tmod (x : Int) ((s.size : Int) + 1) = (c : Int) := by
    rw [hc, show ((s.size : Int) + 1) = ((s.size + 1 : Nat) : Int) from by omega]
    exact (Int.ofNat_tmod _ _).symm
  have hcs : c ≤ s.size := by have := Nat.mod_lt x (show 0 < s.size + 1 by omega); omega
  clear hx hc
  have HT2 := hide (HT.out.agree (Agree.of_all (K := fun _ => True) HB2.out) trivial)
  have HIX : Hid (∀ k, ∀ hk : k < s.size, t.drop k = (s[k]'hk).toNat :: t.drop (k + 1)) := by
    show ∀ k, _
    intro k hk
    rw [List.drop_eq_getElem_cons (by rw [HBL.out]; exact hk)]
    congr 1
    simp only [HTB.out, bytesN]
    simp; rfl
  have hD0 : ReAt w2 rb (rWord (t.drop 0)) := HR2.out
  unfold PT
  go_wp2
  go_loopw [8, 9] (fun d i wr => ∃ k db : Nat, k ≤ c ∧ d = .pointer (some ⟨db, 0, none⟩) ∧ i = .int .i64 k ∧ Hid (ReAt wr db (rWord (t.drop k))) ∧ Hid (Below w2.heap.size w2 wr)) (fun _ i _ => c - (intOf i).toNat)
  case atStart => exact ⟨0, rb, by omega, rfl, rfl, hD0, Below.refl _ _⟩
  case round =>
    clear hD0
    obtain ⟨k, db, hk, rfl, rfl, HD, HBW⟩ := hrel
    have hTW : TabAt wr := HT2.out.agree (Agree.of_all (K := fun _ => True) HBW.out) trivial
    by_cases hlt : k < c
    · have hkd : decide (k < c) = true := by simp [hlt]
      have hks : k < s.size := by omega
      obtain ⟨b, hbd⟩ : ∃ b : Nat, b = (s[k]'hks).toNat := ⟨_, rfl⟩
      have hix := HIX.out k hks
      have hidx := fun w => run_index_string (P := Tryd.prog) w 9 s .i64 (k : Int) Tryd.underlying9
      have hkk : (0 : Int) ≤ k ∧ (k : Int) < s.size := ⟨by omega, by omega⟩
      simp only [dif_pos hkk, Int.toNat_natCast] at hidx
      rw [← hbd] at hidx hix
      have hb256 : b < 256 := by rw [hbd]; exact UInt8.toNat_lt _
      have hdl := HD.out
      rw [hix] at hdl
      have hbyt : By (b :: t.drop (k + 1)) := by rw [← hix]; exact fun x hx => HBY.out x (List.mem_of_mem_drop hx)
      have hcnt : (rWord (b :: t.drop (k + 1))).cnt ≤ 1000000 := by
        have h1 := cnt_word (b :: t.drop (k + 1))
        have h2 : (b :: t.drop (k + 1)).length ≤ 200 := by rw [← hix, List.length_drop, HBL.out]; omega
        omega
      have hcall := By_any b hb256 _ db wr (word_wf _) (fits_cnt b _ (word_wf _) hcnt) hdl hTW
      rw [by_word hbyt] at hcall
      have HC := hide hcall
      clear hbd hix hdl hbyt hcnt hcall hTW
      unfold PT at HC
      go_wp2_with fail
      refine HC.out.mono ?_
      rintro e w3 ⟨db2, rfl, h3, hb3⟩
      have H3 := hide h3
      have HB3 := hide (HBW.out.trans (hb3.mono HBW.out.size))
      clear h3 hb3 HC
      go_wp2
      exact ⟨⟨k + 1, db2, by omega, rfl, by go_num, H3.out, HB3.out⟩, by simp [intOf]; omega⟩
    · obtain rfl : k = c := by omega
      have hcv := one_byteW wr m
      obtain ⟨tt, htt⟩ : ∃ tt, tt = strOfNums [(m : Int)] := ⟨_, rfl⟩
      rw [← htt] at hcv
      have hbt : bytesN tt = [m] := by
        rw [htt]
        simp [bytesN, strOfNums]; omega
      have hst : tt.size = 1 := by rw [← bytesW_len, hbt]; rfl
      have HBT := hide hbt
      have HST := hide hst
      have htt1 : tt.size ≤ 1 := by omega
      have hkn : (0 : Int) ≤ k := by omega
      have hwx := word_any (s.extract k s.size) (wr.alloc (.cells #[.int .u8 (m : Int)] 5)) (by rw [ByteArray.size_extract]; omega)
      rw [bytesW_drop, ← HTB.out] at hwx
      have HWX := hide hwx
      have hb3 := (Below.refl wr.heap.size wr).alloc (Nat.le_refl _) (.cells #[.int .u8 (m : Int)] 5)
      have HB3 := hide (HBW.out.trans (hb3.mono HBW.out.size))
      have HD3 := hide (HD.out.keep hb3)
      clear htt hbt hst hwx hb3 hTW
      go_wp2_with fail
      refine HWX.out.mono ?_
      rintro e w4 ⟨wb, rfl, h4, hb4⟩
      have HB4 := hide (HB3.out.trans (hb4.mono HB3.out.size))
      have HT4 := hide (HT2.out.agree (Agree.of_all (K := fun _ => True) HB4.out) trivial)
      have hsm := same_re (rWord (t.drop k)) (rWord (t.drop k)) db wb w4 (word_wf _).k (word_wf _).k (HD3.out.keep hb4) h4 HT4.out
      rw [lexN_self] at hsm
      have HSM := hide hsm
      have hss : s.size ≤ 1099511627776 := by omega
      clear h4 hb4 hsm HWX
      unfold PT at HSM ⊢
      go_wp2_with fail
      refine HSM.out.mono ?_
      rintro e w5 ⟨rfl, hm5⟩
      have HB5 := hide (HB4.out.trans (hm5.below.mono HB4.out.size))
      have HT5 := hide (HT4.out.more hm5)
      have HR5 := hide (HR2.out.keep HB5.out)
      have hl1000 : t.length ≤ 1000 := by rw [HBL.out]; omega
      have hma := match_any rb (rWord t) s w5 hss (word_wf _) (mf_word _ t hl1000 HBY.out) HR5.out HT5.out
      rw [← HTB.out, match_word t t HBY.out HBY.out, decide_eq_true rfl] at hma
      have HMA := hide hma
      clear hm5 hma HSM
      unfold PT at HMA
      go_wp2_with fail
      refine HMA.out.mono ?_
      rintro e w6 ⟨rfl, hb6⟩
      have HB6 := hide (HB5.out.trans (hb6.mono HB5.out.size))
      have HT6 := hide (HT5.out.agree (Agree.of_all (K := fun _ => True) hb6) trivial)
      have HR6 := hide (HR5.out.keep hb6)
      have hma := match_any rb (rWord t) (s ++ tt) w6 (by rw [ByteArray.size_append]; omega) (word_wf _) (mf_word _ t hl1000 HBY.out) HR6.out HT6.out
      rw [bytesW_app, ← HTB.out, HBT.out, match_word t (t ++ [m]) HBY.out (fun y hy => by
        rcases List.mem_append.1 hy with h | h
        · exact HBY.out y h
        · simp at h; omega), decide_eq_false (by intro e; have := congrArg List.length e; simp at this)] at hma
      have HMB := hide hma
      clear hb6 hma HMA
      unfold PT at HMB
      go_wp2_with fail
      refine HMB.out.mono ?_
      rintro e w7 ⟨rfl, hb7⟩
      have HB7 := hide (HB6.out.trans (hb7.mono HB6.out.size))
      have HT7 := hide (HT6.out.agree (Agree.of_all (K := fun _ => True) hb7) trivial)
      have HR7 := hide (HR6.out.keep hb7)
      have HMN := hide (many_any rb (rWord t) w7 HR7.out)
      clear hb7 HMB
      unfold PT at HMN
      go_wp2_with fail
      refine HMN.out.mono ?_
      rintro e w8 ⟨mb, rfl, h8, hb8⟩
      have HB8 := hide (HB7.out.trans (hb8.mono HB7.out.size))
      have HT8 := hide (HT7.out.agree (Agree.of_all (K := fun _ => True) hb8) trivial)
      have HR8 := hide (HR7.out.keep hb8)
      have hma := match_any mb (rMany (rWord t)) (s ++ s) w8 (by rw [ByteArray.size_append]; omega) (wf_many (word_wf _)) (mf_many _ t hl1000 HBY.out) h8 HT8.out
      rw [bytesW_app, ← HTB.out, match_twice t HBY.out] at hma
      have HMC := hide hma
      clear h8 hb8 hma HMN
      unfold PT at HMC
      go_wp2_with fail
      refine HMC.out.mono ?_
      rintro e w9 ⟨rfl, hb9⟩
      have HB9 := hide (HB8.out.trans (hb9.mono HB8.out.size))
      have HT9 := hide (HT8.out.agree (Agree.of_all (K := fun _ => True) hb9) trivial)
      have HR9 := hide (HR8.out.keep hb9)
      clear hb9 HMC
      by_cases h0 : s.size = 0
      · have hd0 : ((s.size : Int) == 0) = true := by simp [h0]
        clear h0
        go_wp2
        go_ret
        exact ⟨rfl, HB2.out.trans (HB9.out.mono HB2.out.size)⟩
      · have hd0 : ((s.size : Int) == 0) = false := beq_eq_false_iff_ne.2 (by omega)
        have hma := match_any rb (rWord t) (s.extract 1 s.size) w9 (by rw [ByteArray.size_extract]; omega) (word_wf _) (mf_word _ t hl1000 HBY.out) HR9.out HT9.out
        rw [bytesW_drop, ← HTB.out, match_word t (t.drop 1) HBY.out (fun y hy => HBY.out y (List.mem_of_mem_drop hy)), decide_eq_false (by intro e; have := congrArg List.length e; rw [List.length_drop, HBL.out] at this; omega)] at hma
        have HMD := hide hma
        have h1s : 1 ≤ s.size := by omega
        have hd1 : decide ((1 : Int) ≤ s.size) = true := decide_eq_true (by omega)
        clear hma h0
        unfold PT at HMD
        go_wp2_with fail
        refine HMD.out.mono ?_
        rintro e w10 ⟨rfl, hb10⟩
        have HB10 := hide (HB9.out.trans (hb10.mono HB9.out.size))
        clear hb10 HMD
        go_wp2
        go_ret
        exact ⟨rfl, HB2.out.trans (HB10.out.mono HB2.out.size)⟩
theorem derivWords_all (v : Value) (s : ByteArray) (w : World) (hv : v = .string s ∧ s.size ≤ 9223372036854775807) (cut : Int) (m : Nat) (hm : m < 256) (hT : TabAt w) :
    Calls Tryd.prog 5 #[v, .int .i64 cut, .int .u8 m] w fun e w' => e = .returned (.bool true) ∧ Below w.heap.size w w' := by
  obtain ⟨rfl, hs⟩ := hv
  exact derivWords_any s cut m hs hm w hT
end Go.Proofs.YthemadegffhmfaaDoor
/- DerivWords answers true for every text, number and byte: behind a word's first bytes stands the rest of the word, and just the word is a text of it. Conditions: the table of math/bits holds what its initialiser lays (the card ties that to the program's text). -/
namespace Go.Proofs.YthemadegffhmfaaDoor
set_option maxRecDepth 100000
open Go.ChangeShapes Go.WideShapes Go.ChangeAt Go.WideMaps Go.WideElems Go.RowKit

set_option maxRecDepth 100000 in
theorem derivWords_lifted (os : Os) (started : os.Started) (H : Type) (enc : TypeId × Value → H) :
    ReturnsInHanded {} Tryd.checked os 5 .any (fun w args => (Rows.derivWordsSpec.pre enc Tryd.prog Tryd.f5 [] false w args ∧ laidMetH Tryd.prog [("math/bits.deBruijn64tab", Rows.laid_math_bits_deBruijn64tab)] w) ∧ sizedMet enc Tryd.prog Tryd.f5 (OpenSpec.ofChange Rows.derivWordsSpec) false w args)
      (Rows.derivWordsSpec.post enc Tryd.prog Tryd.f5 false true false false) := by
  refine returnsInHanded_of_change_and (C := Tryd.checked) (X := fun w _ => laidMetH Tryd.prog [("math/bits.deBruijn64tab", Rows.laid_math_bits_deBruijn64tab)] w) (fun _ _ _ hh h => h.of_heap hh) own started (by kernel_rfl) Tryd.func5
    (ChangeSpec.witness_shaped (enc := enc) (C := Tryd.checked) (os := os) (X := fun w _ => laidMetH Tryd.prog [("math/bits.deBruijn64tab", Rows.laid_math_bits_deBruijn64tab)] w) false (World.doorLaid Tryd.prog 400 os)
      #[.string ⟨#[]⟩, .int .i64 0, .int .u8 0] 8 rfl (World.shaped_of_RefB (by kernel_rfl) (by kernel_rfl)) (by kernel_rfl) (by kernel_rfl) (by kernel_rfl) (door_met os _)) ?_
  intro W base args ds gs before hval0 hW _ _ hL _
  have hval : ∀ (j : Nat) t v, Tryd.f5.params[j]? = some t → args[j]? = some v → Value.okWide Tryd.prog W .any base t v := hval0
  have hW' := hW
  obtain ⟨p, q, hA0, hV, rfl, hfz, hnd⟩ := hW
  have hA : DataW.TrodAll enc Tryd.prog W 0 (fun _ => true) true Tryd.f5.params.toList args.toList ds p := hA0
  rw [Tryd.params5] at hA hval
  obtain ⟨v0, v1, v2, d0, d1, d2, p0, p1, p2, rfl, rfl, rfl, h0, h1, h2⟩ := trodAll_three hA
  obtain ⟨rfl, rfl⟩ := trodVars_none hV
  have k0 := h0
  have lt0 : ∀ x ∈ p0, x.block < W.heap.size := by obtain ⟨m, hm⟩ := k0; exact DataW.trod_lt m _ _ _ hm
  obtain ⟨z0, hz0⟩ := open_str (hval 0 9 v0 rfl rfl) h0
  have k1 := h1
  obtain ⟨i1, rfl, rfl, rfl, w1⟩ := open_int Tryd.underlying3 (hval 1 3 v1 rfl rfl) h1
  have b1 := bounds_i64 w1
  have k2 := h2
  obtain ⟨i2, rfl, rfl, rfl, w2⟩ := open_int Tryd.underlying5 (hval 2 5 v2 rfl rfl) h2
  have b2 := bounds_u8 w2
  obtain ⟨n2, rfl⟩ := Int.eq_ofNat_of_zero_le b2.1
  have g2 : n2 < 256 := by omega
  have hT := tab_of_laid hL
  clear hA0 hval0
  refine (derivWords_all v0 z0 W hz0 i1 n2 g2 hT).mono fun e W' ⟨he, hb⟩ => ?_
  subst he
  exact ⟨_, rfl, _, _, _, [], _, [], hW', trodAll_mk1 (shut_bool Tryd.underlying4 _), trodAll_mk3 (Below.trod laidOut (by kernel_rfl) (of_decide_eq_true (by kernel_rfl)) k0 hb lt0) (shut_int Tryd.underlying3 w1) (shut_int Tryd.underlying5 w2), rfl, hb.frame _, fun h => by cases h⟩

theorem derivWords_said : Rows.DerivWordsSaid :=
  OpenClaim.holds_of_wide 5 Tryd.f5 rfl rfl rfl rfl rfl rfl rfl ⟨rfl, rfl, rfl, rfl, rfl⟩ rfl rfl rfl rfl rfl (by kernel_rfl) Tryd.func5 (by kernel_rfl)
    (of_decide_eq_true (by kernel_rfl)) (by unfold Func.isWrapper; first | (rw [if_pos (by decide +kernel)]; kernel_rfl) | (rw [if_neg (by decide +kernel)]; exact ⟨rfl, rfl⟩))
    (fun os started H enc _ => derivWords_lifted os started H enc)

theorem derivWords_card : Rows.DerivWordsCardSaid :=
  Claim7.holds_tied_plain_at .later [] [.data] true Rows.derivWordsCard.stood.harness false
    derivWords_said (fun _ h => by cases h) (by kernel_rfl) (fun _ h => by cases h) derivWords_row_tie rfl ⟨rfl, rfl⟩ (by kernel_rfl) rfl
    (fun f fn hf hfn => by
      obtain rfl : f = 5 := Option.some.inj ((show Tryd.prog.funcNamed "periscope/periscopelaw05.DerivWords" = some 5 by kernel_rfl).symm.trans hf) |>.symm
      obtain rfl : fn = Tryd.f5 := (Option.some.inj (Tryd.func5.symm.trans hfn)).symm
      exact ⟨by kernel_rfl, fun j t ht => by
        rw [Tryd.params5] at ht
        have hm : t ∈ [9, 3, 5] := by simpa using Array.mem_of_getElem? ht
        have hall : ([9, 3, 5].all fun u => !Tryd.prog.wantsStandIn u) = true := by kernel_rfl
        exact (show Tryd.prog.wantsStandIn t = false by simpa using List.all_eq_true.1 hall t hm)⟩)
    (by kernel_rfl)
#print axioms derivWords_card
end Go.Proofs.YthemadegffhmfaaDoor
