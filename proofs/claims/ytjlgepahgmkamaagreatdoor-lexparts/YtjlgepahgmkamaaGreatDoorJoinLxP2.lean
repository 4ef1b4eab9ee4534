/- Texts of this claim put together: LxP2. -/
import Derived.Test.YtjlgepahgmkamaaGreatDoorJoinLxP1
import Derived.Test.YtjlgepahgmkamaaGreatDoorJoinRunG
/- Parts of a program, as they are written, and the tokens that are read of them. -/
namespace Go.Proofs.YtjlgepahgmkamaaGreatDoor
set_option maxRecDepth 100000
set_option linter.unusedSimpArgs false
set_option linter.unusedVariables false
open Go.RowKit Go.Shelf St

/-- A part: kind, number, gap, text, shape. -/
structure PRT where
  k : Int
  n : Int
  gap : Int
  s : ByteArray
  sh : SHP
def PRT.kx (p : PRT) : Nat := ((IntKind.u64.wrap p.k).tmod 4).toNat
def PRT.wx (p : PRT) : Nat := ((IntKind.u64.wrap p.n).tmod 6).toNat
def PRT.sx (p : PRT) : Nat := (p.n % 8).toNat
def PRT.gx (p : PRT) : Nat := (p.gap % 4).toNat
def lxWords : List (List Nat) := [[97], [99, 111, 112, 121], [120, 95, 49], [108, 101, 116], [122, 122, 57], [95]]
def lxGaps : List (List Nat) := [[32], [10, 9], [32, 35, 32, 114, 101, 109, 97, 114, 107, 32, 47, 32, 34, 10], [32, 32, 13]]
/-- What is written ahead of a part; the part as it is written. -/
def PRT.gapL (p : PRT) : List Nat := lxGaps.getD p.gx []
def PRT.wr (p : PRT) : List Nat := if p.kx = 0 then lxWords.getD p.wx [] else if p.kx = 1 then [sgL.getD p.sx 0] else if p.kx = 2 then quoteT p.s else 47 :: (p.sh.re.txt ++ [47])
/-- The token that it is, at a place. -/
def PRT.tok (p : PRT) (a : Nat) : LTok := if p.kx = 0 then ⟨1, strB (lxWords.getD p.wx []), none, a⟩ else if p.kx = 1 then ⟨2, strB [sgL.getD p.sx 0], none, a⟩ else if p.kx = 2 then ⟨3, p.s, none, a⟩ else ⟨4, ⟨#[]⟩, some p.sh.re, a⟩
/-- What the statement lets in. -/
structure PRT.Ok (p : PRT) : Prop where
  size : p.s.size ≤ 40
  tx : Tx p.sh
  nodes : p.sh.nodes ≤ 15
theorem wx_lt (p : PRT) : p.wx < 6 := by
  unfold PRT.wx
  have h0 : 0 ≤ IntKind.u64.wrap p.n := by simp [IntKind.wrap, IntKind.signed, IntKind.bits]; omega
  rw [Int.tmod_eq_emod_of_nonneg h0]; omega
theorem kx_lt (p : PRT) : p.kx < 4 := by
  unfold PRT.kx
  have h0 : 0 ≤ IntKind.u64.wrap p.k := by simp [IntKind.wrap, IntKind.signed, IntKind.bits]; omega
  rw [Int.tmod_eq_emod_of_nonneg h0]; omega
theorem sx_lt (p : PRT) : p.sx < 8 := by unfold PRT.sx; omega
theorem gx_lt (p : PRT) : p.gx < 4 := by unfold PRT.gx; omega
theorem again15 {s : SHP} (ht : Tx s) (hn : s.nodes ≤ 15) : s.re.txt.length ≤ 65000 ∧ (readQ s.re.txt).1 = s.re ∧ (rdEnd s.re.txt).err = 0 := by
  have h1 := txt_len s.re
  have h2 := s.wt ht
  have h3 := s.ht.pd
  have h4 := s.cnt ht
  have hl : s.re.txt.length ≤ 65000 := by omega
  have h5 := read_txt s.wf (by omega) (by omega) (by omega)
  exact ⟨hl, by rw [h5.1], h5.2⟩
/-- What comes behind a part: nothing, or a blank. -/
def Beh (l : List Nat) : Prop := l = [] ∨ ∃ r, l = 32 :: r ∨ l = 10 :: r
theorem gap_beh (p : PRT) (r : List Nat) : Beh (p.gapL ++ r) := by
  have h := gx_lt p
  unfold PRT.gapL
  match p.gx, h with
  | 0, _ => exact .inr ⟨_, .inl rfl⟩
  | 1, _ => exact .inr ⟨_, .inr rfl⟩
  | 2, _ => exact .inr ⟨_, .inl rfl⟩
  | 3, _ => exact .inr ⟨_, .inl rfl⟩
  | j + 4, h => omega
theorem gap_0 {l : List Nat} (h : skN false l = 0) : skN false ([32] ++ l) = 1 := by
  show skN false (32 :: l) = _
  rw [skN_bl (by decide), h]
theorem gap_1 {l : List Nat} (h : skN false l = 0) : skN false ([10, 9] ++ l) = 2 := by
  show skN false (10 :: 9 :: l) = _
  rw [skN_bl (by decide), skN_bl (by decide), h]
theorem gap_3 {l : List Nat} (h : skN false l = 0) : skN false ([32, 32, 13] ++ l) = 3 := by
  show skN false (32 :: 32 :: 13 :: l) = _
  rw [skN_bl (by decide), skN_bl (by decide), skN_bl (by decide), h]
theorem skN_in {c : Nat} (h : c ≠ 10) (l : List Nat) : skN true (c :: l) = skN true l + 1 := by rw [skN, if_neg h]
theorem gap_2 {l : List Nat} (h : skN false l = 0) : skN false ([32, 35, 32, 114, 101, 109, 97, 114, 107, 32, 47, 32, 34, 10] ++ l) = 14 := by
  show skN false (32 :: 35 :: 32 :: 114 :: 101 :: 109 :: 97 :: 114 :: 107 :: 32 :: 47 :: 32 :: 34 :: 10 :: l) = _
  have e : skN true (10 :: l) = 1 := by rw [skN, if_pos rfl, h]
  rw [skN_bl (by decide), skN, if_neg (by decide), if_pos rfl]
  rw [skN_in (by decide), skN_in (by decide), skN_in (by decide), skN_in (by decide), skN_in (by decide), skN_in (by decide), skN_in (by decide), skN_in (by decide), skN_in (by decide), skN_in (by decide), skN_in (by decide), e]
theorem gap_skip (p : PRT) {c : Nat} (hb : isBl c = false) (h35 : c ≠ 35) (r : List Nat) : skN false (p.gapL ++ c :: r) = p.gapL.length := by
  have h := gx_lt p
  have h0 := skN_no hb h35 r
  unfold PRT.gapL
  match p.gx, h with
  | 0, _ => exact gap_0 h0
  | 1, _ => exact gap_1 h0
  | 2, _ => exact gap_2 h0
  | 3, _ => exact gap_3 h0
  | j + 4, h => omega
theorem word_lett {w rest : List Nat} (hw : ∀ c ∈ w, letB c false = true) (hr : Beh rest) : lettN (w ++ rest) = w.length := by
  induction w with
  | nil =>
    rcases hr with rfl | ⟨r, rfl | rfl⟩
    · rfl
    · show lettN (32 :: r) = 0; rw [lettN, if_neg (by decide)]
    · show lettN (10 :: r) = 0; rw [lettN, if_neg (by decide)]
  | cons c w ih =>
    show lettN (c :: (w ++ rest)) = _
    rw [lettN, if_pos (hw c (by simp)), ih fun x hx => hw x (by simp [hx])]
    rfl
theorem words_ok : ∀ j, j < 6 → (∃ c r, lxWords.getD j [] = c :: r ∧ letB c true = true ∧ isBl c = false ∧ c ≠ 35) ∧ (∀ c ∈ lxWords.getD j [], letB c false = true) ∧ (lxWords.getD j []).length ≤ 4 ∧ ∀ c ∈ lxWords.getD j [], c < 256 := by
  intro j hj
  refine ⟨?_, ?_⟩
  · match j, hj with
    | 0, _ => exact ⟨_, _, rfl, by decide, by decide, by decide⟩
    | 1, _ => exact ⟨_, _, rfl, by decide, by decide, by decide⟩
    | 2, _ => exact ⟨_, _, rfl, by decide, by decide, by decide⟩
    | 3, _ => exact ⟨_, _, rfl, by decide, by decide, by decide⟩
    | 4, _ => exact ⟨_, _, rfl, by decide, by decide, by decide⟩
    | 5, _ => exact ⟨_, _, rfl, by decide, by decide, by decide⟩
    | j + 6, h => omega
  · revert j; decide +kernel
theorem signs_ok : ∀ j, j < 8 → letB (sgL.getD j 0) true = false ∧ isBl (sgL.getD j 0) = false ∧ sgL.getD j 0 ≠ 35 ∧ sgL.contains (sgL.getD j 0) = true ∧ sgL.getD j 0 < 256 := by decide +kernel
section
variable {s : ByteArray}
theorem tokF_gap {a c : Nat} {g l : List Nat} (h : (bytesN s).drop a = g ++ c :: l) (hg : skN false (g ++ c :: l) = g.length) : tokF s a = tokB s (a + g.length) c ∧ (bytesN s).drop (a + g.length) = c :: l := by
  have hd : (bytesN s).drop (a + g.length) = c :: l := by rw [← List.drop_drop, h, List.drop_left]
  have hc : (bytesN s)[a + g.length]? = some c := by
    have := congrArg (fun l => l[0]?) hd
    simpa using this
  refine ⟨?_, hd⟩
  unfold tokF
  rw [h, hg, hc]
theorem extract_of {b n : Nat} {w r : List Nat} (h : (bytesN s).drop b = w ++ r) (hn : n = w.length) (hw : ∀ x ∈ w, x < 256) : s.extract b (b + n) = strB w := by
  apply bytesN_inj
  rw [bytesN_strB hw, bN_extract, h, hn, Nat.add_sub_cancel_left, List.take_left]
/-- A part and what is ahead of it is read as its token. -/
theorem tok_part {p : PRT} (hp : p.Ok) {a : Nat} {rest : List Nat} (h : (bytesN s).drop a = p.gapL ++ (p.wr ++ rest)) (hr : Beh rest) (hbig : s.size ≤ 1000000) :
    tokF s a = .inr (p.tok (a + p.gapL.length), a + p.gapL.length + p.wr.length) := by
  have hk := kx_lt p
  by_cases k0 : p.kx = 0
  · have hw : p.wr = lxWords.getD p.wx [] := by unfold PRT.wr; rw [if_pos k0]
    have ht : ∀ b, p.tok b = ⟨1, strB (lxWords.getD p.wx []), none, b⟩ := fun b => by unfold PRT.tok; rw [if_pos k0]
    obtain ⟨⟨c, r, e, h1, h2, h3⟩, h4, h5, h6⟩ := words_ok p.wx (wx_lt p)
    rw [hw] at h ⊢
    rw [ht]
    obtain ⟨g1, g2⟩ := tokF_gap (c := c) (l := r ++ rest) (by rw [h, e]; rfl) (gap_skip p h2 h3 _)
    have g3 : (bytesN s).drop (a + p.gapL.length) = lxWords.getD p.wx [] ++ rest := by rw [g2, e]; rfl
    have hl := word_lett h4 hr
    rw [g1]
    unfold tokB
    rw [if_pos h1, g3, hl, if_neg (by omega), extract_of g3 rfl h6]
  · by_cases k1 : p.kx = 1
    · have hw : p.wr = [sgL.getD p.sx 0] := by unfold PRT.wr; rw [if_neg k0, if_pos k1]
      have ht : ∀ b, p.tok b = ⟨2, strB [sgL.getD p.sx 0], none, b⟩ := fun b => by unfold PRT.tok; rw [if_neg k0, if_pos k1]
      obtain ⟨h1, h2, h3, h4, h5⟩ := signs_ok p.sx (sx_lt p)
      rw [hw] at h ⊢
      rw [ht]
      obtain ⟨g1, g2⟩ := tokF_gap (c := sgL.getD p.sx 0) (l := rest) h (gap_skip p h2 h3 _)
      rw [g1]
      unfold tokB
      have hx : s.extract (a + p.gapL.length) (a + p.gapL.length + 1) = strB [sgL.getD p.sx 0] := extract_of (w := [sgL.getD p.sx 0]) (r := rest) g2 rfl (fun x hx => by
        rcases List.mem_singleton.1 hx with rfl
        exact h5)
      rw [if_neg (by rw [h1]; decide), if_pos h4, hx]
      rfl
    · by_cases k2 : p.kx = 2
      · have hw : p.wr = quoteT p.s := by unfold PRT.wr; rw [if_neg k0, if_neg k1, if_pos k2]
        have ht : ∀ b, p.tok b = ⟨3, p.s, none, b⟩ := fun b => by unfold PRT.tok; rw [if_neg k0, if_neg k1, if_pos k2]
        have hq : quoteT p.s ++ rest = 34 :: ((bytesN p.s).flatMap byteW ++ 34 :: rest) := by unfold quoteT; simp
        have hql : (quoteT p.s).length = ((bytesN p.s).flatMap byteW).length + 2 := by unfold quoteT; simp
        rw [hw] at h ⊢
        rw [ht, hql]
        rw [hq] at h
        obtain ⟨g1, g2⟩ := tokF_gap h (gap_skip p (by decide) (by decide) _)
        have g3 := drop_next g2
        have hs := size_of g2 (Nat.le_of_lt (lt_of g2))
        simp only [List.length_cons, List.length_append] at hs
        have htx := txN_quote rest (bytesN p.s) (s.size + 1) (bN_lt p.s) (by rw [List.length_append, List.length_cons]; omega)
        rw [g1]
        unfold tokB
        rw [if_neg (by decide), if_neg (by decide), if_pos rfl, g3, htx, if_neg (by simp only [Bool.false_eq_true, false_or]; omega)]
        have e : strB (bytesN p.s) = p.s := bytesN_inj (bytesN_strB (bN_lt p.s))
        simp only [e]
        congr 2
        omega
      · have hw : p.wr = 47 :: (p.sh.re.txt ++ [47]) := by unfold PRT.wr; rw [if_neg k0, if_neg k1, if_neg k2]
        have ht : ∀ b, p.tok b = ⟨4, ⟨#[]⟩, some p.sh.re, b⟩ := fun b => by unfold PRT.tok; rw [if_neg k0, if_neg k1, if_neg k2]
        have hq : (47 :: (p.sh.re.txt ++ [47])) ++ rest = 47 :: (p.sh.re.txt ++ 47 :: rest) := by simp
        have hql : (47 :: (p.sh.re.txt ++ [47])).length = p.sh.re.txt.length + 2 := by simp
        rw [hw] at h ⊢
        rw [ht, hql]
        rw [hq] at h
        obtain ⟨g1, g2⟩ := tokF_gap h (gap_skip p (by decide) (by decide) _)
        have g3 := drop_next g2
        have hs := size_of g2 (Nat.le_of_lt (lt_of g2))
        simp only [List.length_cons, List.length_append] at hs
        have hn : reN (p.sh.re.txt ++ 47 :: rest) = p.sh.re.txt.length := by rw [Sl.txt p.sh.re (47 :: rest), reN_47]; rfl
        obtain ⟨-, a2, a3⟩ := again15 hp.tx hp.nodes
        have hx : bytesN (s.extract (a + p.gapL.length + 1) (a + p.gapL.length + 1 + p.sh.re.txt.length)) = p.sh.re.txt := by
          rw [bN_extract, g3, Nat.add_sub_cancel_left, List.take_left]
        rw [g1]
        unfold tokB
        rw [if_neg (by decide), if_neg (by decide), if_neg (by decide), if_pos rfl, g3, hn, if_neg (by omega), hx, if_pos a3, a2]
        congr 2
        omega
/-- All that is written; the tokens from a place on. -/
def prtW : List PRT → List Nat
  | [] => []
  | p :: r => p.gapL ++ (p.wr ++ prtW r)
def prtT : List PRT → Nat → List LTok
  | [], _ => []
  | p :: r, a => p.tok (a + p.gapL.length) :: prtT r (a + p.gapL.length + p.wr.length)
theorem prtW_beh (l : List PRT) : Beh (prtW l) := by
  cases l with
  | nil => exact .inl rfl
  | cons p r => exact gap_beh p _
theorem prtT_len (l : List PRT) : ∀ a, (prtT l a).length = l.length := by
  induction l with
  | nil => intro a; rfl
  | cons p r ih => intro a; simp [prtT, ih]
theorem prtW_snoc (l : List PRT) (p : PRT) : prtW (l ++ [p]) = prtW l ++ p.gapL ++ p.wr := by
  induction l with
  | nil => simp [prtW]
  | cons q l ih => simp [prtW, ih]
theorem prtT_snoc (l : List PRT) (p : PRT) : ∀ a, prtT (l ++ [p]) a = prtT l a ++ [p.tok (a + (prtW l).length + p.gapL.length)] := by
  induction l with
  | nil => intro a; simp [prtT, prtW]
  | cons q l ih =>
    intro a
    simp only [List.cons_append, prtT, ih, prtW, List.length_append]
    congr 3
    congr 1
    omega
theorem tok_kind (p : PRT) (a : Nat) : (p.tok a).kind ≠ 0 := by
  unfold PRT.tok
  repeat' split
  all_goals (intro h; cases h)
theorem lex_prts (hbig : s.size ≤ 1000000) : ∀ (l : List PRT) (f a : Nat), (∀ p ∈ l, p.Ok) → (bytesN s).drop a = prtW l → a ≤ s.size → l.length < f → lexF s f a = .inr (prtT l a ++ [⟨0, ⟨#[]⟩, none, s.size⟩])
  | [], f, a, _, h, ha, hf => by
    obtain ⟨f, rfl⟩ : ∃ g, f = g + 1 := ⟨f - 1, by simp at hf; omega⟩
    have hs := size_of h ha
    have hs : s.size = a := hs
    have ht : tokF s a = .inr (⟨0, ⟨#[]⟩, none, a⟩, a) := by
      have h : (bytesN s).drop a = [] := h
      unfold tokF
      have e : skN false [] = 0 := rfl
      rw [h, e, Nat.add_zero, List.getElem?_eq_none (by rw [bN_len]; omega)]
    rw [lexF_end ht rfl, hs]
    rfl
  | p :: r, f, a, hok, h, ha, hf => by
    obtain ⟨f, rfl⟩ : ∃ g, f = g + 1 := ⟨f - 1, by simp at hf; omega⟩
    have ht := tok_part (hok p (by simp)) h (prtW_beh r) hbig
    have hd : (bytesN s).drop (a + p.gapL.length + p.wr.length) = prtW r := by
      rw [← List.drop_drop, ← List.drop_drop, h, prtW, List.drop_left, List.drop_left]
    have hs := size_of h ha
    simp only [prtW, List.length_append] at hs
    rw [lexF_tok ht (tok_kind p _), lex_prts hbig r f _ (fun q hq => hok q (by simp [hq])) hd (by omega) (by simp at hf; omega)]
    rfl
/-- The whole text's tokens. -/
theorem lexT_prts (hbig : s.size ≤ 1000000) {l : List PRT} (hok : ∀ p ∈ l, p.Ok) (h : bytesN s = prtW l) : lexT s = .inr (prtT l 0 ++ [⟨0, ⟨#[]⟩, none, s.size⟩]) := by
  unfold lexT
  refine lex_prts hbig l (s.size + 1) 0 hok (by rw [List.drop_zero]; exact h) (Nat.zero_le _) ?_
  have hl : ∀ l : List PRT, l.length ≤ (prtW l).length := by
    intro l
    induction l with
    | nil => exact Nat.le_refl _
    | cons p r ih =>
      have : 0 < p.gapL.length := by
        rcases gap_beh p [] with h | ⟨r, h | h⟩
        · have hg := gx_lt p
          unfold PRT.gapL at h ⊢
          revert h
          match p.gx, hg with
          | 0, _ => intro h; cases h
          | 1, _ => intro h; cases h
          | 2, _ => intro h; cases h
          | 3, _ => intro h; cases h
          | j + 4, h => omega
        · rw [List.append_nil] at h; rw [h]; simp
        · rw [List.append_nil] at h; rw [h]; simp
      simp only [prtW, List.length_cons, List.length_append]
      omega
  have := hl l
  rw [← h, bN_len] at this
  omega
end
end Go.Proofs.YtjlgepahgmkamaaGreatDoor
