/- Texts of this claim put together: RdH, RdI, RdJ, RdK, RdL. -/
import Derived.Test.YtjlgepahgmkamaaGreatDoorJoinMathRd4
import Derived.Test.YtjlgepahgmkamaaGreatDoorJoinStrL
import Derived.Test.YtjlgepahgmkamaaGreatDoorJoinLxF
/- The reader's steps, one by one; its run at the document's example. -/
namespace Go.Proofs.YtjlgepahgmkamaaGreatDoor
set_option maxRecDepth 100000
set_option linter.unusedSimpArgs false
set_option linter.unusedVariables false
open Go.RowKit Go.Shelf St

section
variable {n f : Nat} {st s1 s2 : St} {a : RE} {l : List RE} {z : RE × St}
theorem P_or (h1 : P n f .minus st = some (a, s1)) (h2 : P n f (.orL [a]) s1 = some z) : P n (f + 1) .or st = some z := by rw [P, h1]; exact h2
theorem P_minus (h1 : P n f .and st = some (a, s1)) (h2 : P n f (.minusL a) s1 = some z) : P n (f + 1) .minus st = some z := by rw [P, h1]; exact h2
theorem P_and (h1 : P n f .cat st = some (a, s1)) (h2 : P n f (.andL [a]) s1 = some z) : P n (f + 1) .and st = some z := by rw [P, h1]; exact h2
theorem P_cat (h1 : P n f .post st = some (a, s1)) (h2 : P n f (.catL [a]) s1 = some z) : P n (f + 1) .cat st = some z := by rw [P, h1]; exact h2
theorem P_post (h1 : P n f .atom st = some (a, s1)) (h2 : P n f (.postL a) s1 = some z) : P n (f + 1) .post st = some z := by rw [P, h1]; exact h2
theorem P_orL (hb : st.signB 124 = true) (h1 : P n f .minus (st.sign 124) = some (a, s1)) (h2 : P n f (.orL (l ++ [a])) s1 = some z) : P n (f + 1) (.orL l) st = some z := by rw [P, if_pos hb, h1]; exact h2
theorem P_orLE (hb : st.signB 124 = false) : P n (f + 1) (.orL l) st = some (rAny l, st.sign 124) := by rw [P, if_neg (by simp [hb])]
theorem P_andL (hb : st.signB 38 = true) (h1 : P n f .cat (st.sign 38) = some (a, s1)) (h2 : P n f (.andL (l ++ [a])) s1 = some z) : P n (f + 1) (.andL l) st = some z := by rw [P, if_pos hb, h1]; exact h2
theorem P_andLE (hb : st.signB 38 = false) : P n (f + 1) (.andL l) st = some (rBoth l, st.sign 38) := by rw [P, if_neg (by simp [hb])]
theorem P_minusL {r : RE} (hb : st.signB 45 = true) (h1 : P n f .and (st.sign 45) = some (a, s1)) (h2 : P n f (.minusL (rBut r a)) s1 = some z) : P n (f + 1) (.minusL r) st = some z := by rw [P, if_pos hb, h1]; exact h2
theorem P_minusLE {r : RE} (hb : st.signB 45 = false) : P n (f + 1) (.minusL r) st = some (r, st.sign 45) := by rw [P, if_neg (by simp [hb])]
theorem P_catL {b : Nat} {t : List Nat} (hs : st.skip.rest = b :: t) (hb : [124, 45, 38, 41].contains b = false) (h1 : P n f .post st.skip = some (a, s1)) (h2 : P n f (.catL (l ++ [a])) s1 = some z) : P n (f + 1) (.catL l) st = some z := by
  rw [P, hs]
  simp only [hb]
  rw [if_neg (by simp), h1]; exact h2
theorem P_paren (hb : st.signB 40 = true) (h1 : P n f .group (st.sign 40) = some (a, s1)) (hc : s1.counted n = s2) : P n (f + 1) .atom st = some (a, s2) := by
  rw [P, if_pos hb, h1, ← hc]; rfl
theorem P_group (hb : (st.deeper n).signB 41 = false) (h1 : P n f .or ((st.deeper n).sign 41) = some (a, s1)) (hc : (if s1.signB 41 then s1.sign 41 else (s1.sign 41).fail 2 ((s1.sign 41).pos n)).upper = s2) : P n (f + 1) .group st = some (a, s2) := by
  rw [P, if_neg (by simp [hb]), h1, ← hc]; rfl
end

/-- The document's example: (a|b)*c-abc. -/
def exL : List Nat := [40, 97, 124, 98, 41, 42, 99, 45, 97, 98, 99]
end Go.Proofs.YtjlgepahgmkamaaGreatDoor
/- What is made of one; the document's example as it is read and written. -/
namespace Go.Proofs.YtjlgepahgmkamaaGreatDoor
set_option maxRecDepth 100000
set_option linter.unusedSimpArgs false
set_option linter.unusedVariables false
open Go.RowKit Go.Shelf St

theorem then_1 {x : RE} (h0 : x.op ≠ 0) (h1 : x.op ≠ 1) (h3 : x.op ≠ 3) : rThen [x] = x := by
  have hc : catL [x] = [x] := by simp [catL, catK, h1, h3]
  unfold rThen
  rw [hc, if_neg (by simp [h0]), if_neg (by simp)]
  rfl
theorem ord_1 (x : RE) : ordL [x] = [x] := rfl
theorem any_1 {x : RE} (h0 : x.op ≠ 0) (h4 : x.op ≠ 4) (h2 : x.op ≠ 2) : rAny [x] = x := by
  have hf : flatL 4 [x] = [x] := by simp [flatL, h4]
  have hk : orKeep [x] = [x] := by simp [orKeep, h0, h2]
  have hs : orSet [x] = 0#256 := by simp [orSet, h2]
  unfold rAny
  simp only [hf, hk, hs, if_true, List.append_nil]
  rw [if_neg (by simp), ord_1]
  rfl
theorem both_1 {x : RE} (h0 : x.op ≠ 0) (h6 : x.op ≠ 6) (h2 : x.op ≠ 2) : rBoth [x] = x := by
  have hf : flatL 6 [x] = [x] := by simp [flatL, h6]
  have hk : orKeep [x] = [x] := by simp [orKeep, h0, h2]
  have hs : andSet [x] = allB := by simp [andSet, h2]
  have hm : met [x] = false := by simp [met, h2]
  have hz : ¬ allB = 0#256 := by decide +kernel
  unfold rBoth
  simp only [hf, hk, hs, hm, hz, if_false, List.append_nil]
  rw [if_neg (by simp [h0])]
  simp only [Bool.false_eq_true, if_false, List.append_nil]
  rw [if_neg (by simp), ord_1]
  rfl
theorem one_mk {s : BitVec 256} (h : s ≠ 0#256) : rOne s = .mk 2 s [] := by unfold rOne; rw [if_neg h]
theorem any_one1 {s : BitVec 256} (h : s ≠ 0#256) : rAny [rOne s] = rOne s := by
  have ho : (rOne s).op = 2 := one_op _ h
  have he : (rOne s).set = s := by rw [one_mk h]; rfl
  have hf : flatL 4 [rOne s] = [rOne s] := by simp [flatL, ho]
  have hk : orKeep [rOne s] = [] := by simp [orKeep, ho]
  have hs : orSet [rOne s] = s := by simp [orSet, ho, he]
  unfold rAny
  simp only [hf, hk, hs, h, if_false, List.nil_append]
  rw [if_neg (by simp), ord_1]
  rfl
theorem both_one1 {s : BitVec 256} (h : s ≠ 0#256) : rBoth [rOne s] = rOne s := by
  have ho : (rOne s).op = 2 := one_op _ h
  have he : (rOne s).set = s := by rw [one_mk h]; rfl
  have hf : flatL 6 [rOne s] = [rOne s] := by simp [flatL, ho]
  have hk : orKeep [rOne s] = [] := by simp [orKeep, ho]
  have hs : andSet [rOne s] = s := by
    simp only [andSet, List.foldl_cons, List.foldl_nil, ho, if_true, he]
    have ha : allB = BitVec.allOnes 256 := by decide +kernel
    rw [ha]; exact BitVec.allOnes_and
  have hm : met [rOne s] = true := by simp [met, ho]
  unfold rBoth
  simp only [hf, hk, hs, hm, h, if_false, List.nil_append]
  rw [if_neg (by simp [ho])]
  simp only [if_true]
  rw [if_neg (by simp), ord_1]
  rfl
theorem then_one1 {s : BitVec 256} (h : s ≠ 0#256) : rThen [rOne s] = rOne s := by
  have ho : (rOne s).op = 2 := one_op _ h
  exact then_1 (by omega) (by omega) (by omega)

def sa : BitVec 256 := setOf [97]
def sb : BitVec 256 := setOf [98]
def sc : BitVec 256 := setOf [99]
def sab : BitVec 256 := sa ||| sb
/-- The star of the example. -/
def exM : RE := .mk 5 0#256 [.mk 2 sab []]
def exA : RE := .mk 3 0#256 [exM, .mk 2 sc []]
def exB : RE := .mk 3 0#256 [.mk 2 sa [], .mk 2 sb [], .mk 2 sc []]
def exR : RE := .mk 7 0#256 [exA, exB]
def exS : ByteArray := ⟨#[40, 97, 124, 98, 41, 42, 99, 45, 97, 98, 99]⟩
def exT : ByteArray := ⟨#[91, 97, 45, 98, 93, 42, 99, 45, 97, 98, 99]⟩
end Go.Proofs.YtjlgepahgmkamaaGreatDoor
/- A byte as it is written, read again; a byte alone, in a set. -/
namespace Go.Proofs.YtjlgepahgmkamaaGreatDoor
set_option maxRecDepth 100000
set_option linter.unusedSimpArgs false
set_option linter.unusedVariables false
open Go.RowKit Go.Shelf St

theorem bw_hex : ∀ c < 256, plainB c = false → (digitsL.contains (digitsL.getD (c / 16) 0) && digitsL.contains (digitsL.getD (c % 16) 0)) = true ∧ 16 * digitsL.idxOf (digitsL.getD (c / 16) 0) + digitsL.idxOf (digitsL.getD (c % 16) 0) = c := by decide +kernel
theorem bw_sign : ∀ c < 256, plainB c = true → (signsL ++ othersL).contains c = true → c ≠ 110 ∧ c ≠ 116 ∧ c ≠ 120 ∧ (!plainB c || letterB c) = false := by decide +kernel
theorem bw_self : ∀ c < 256, plainB c = true → (signsL ++ othersL).contains c = false → c ≠ 92 ∧ (!plainB c || signsL.contains c) = false := by decide +kernel
theorem scan_byteW (c : Nat) (hc : c < 256) (r : List Nat) : scanN (byteW c ++ r) = (c, (byteW c).length) := by
  unfold byteW
  split
  · rename_i h; subst h; rfl
  split
  · rename_i h; subst h; rfl
  split
  · rename_i h
    obtain ⟨h1, h2⟩ := bw_hex c hc h
    simp only [List.cons_append, List.nil_append, scanN, if_true, List.length_cons, List.length_nil]
    rw [if_neg (by decide), if_neg (by decide), if_pos h1, h2]
  split
  · rename_i h h'
    have hp : plainB c = true := by simpa using h
    obtain ⟨h1, h2, h3, h4⟩ := bw_sign c hc hp h'
    simp only [List.cons_append, List.nil_append, scanN, if_true, h1, h2, h3, h4, if_false, List.length_cons, List.length_nil]
    rfl
  · rename_i h h'
    have hp : plainB c = true := by simpa using h
    obtain ⟨h1, h2⟩ := bw_self c hc hp (by simpa using h')
    simp only [List.cons_append, List.nil_append, scanN, h1, h2, if_false, List.length_cons, List.length_nil]
    rfl
/-- How a byte's text begins. -/
theorem byteW_head (c : Nat) (hc : c < 256) : ∃ b t, byteW c = b :: t ∧ (b = 92 ∨ signsL.contains b = false) ∧ isWs b = false ∧ b ≠ 94 := by
  have h : ∀ c < 256, ((byteW c).headD 0 = 92 ∨ signsL.contains ((byteW c).headD 0) = false) ∧ isWs ((byteW c).headD 0) = false ∧ (byteW c).headD 0 ≠ 94 := by decide +kernel
  have h1 := h c hc
  cases e : byteW c with
  | nil => exact absurd e (byteW_ne c)
  | cons b t => rw [e] at h1; exact ⟨b, t, rfl, h1⟩

theorem skip_no {b : Nat} {t : List Nat} {d c e w : Nat} (h : isWs b = false) : St.skip ⟨b :: t, d, c, e, w⟩ = ⟨b :: t, d, c, e, w⟩ := by simp [St.skip, St.to, List.dropWhile, h]
theorem signB_no {b k : Nat} {t : List Nat} {d c e w : Nat} (h : isWs b = false) (hk : b ≠ k) : St.signB k ⟨b :: t, d, c, e, w⟩ = false := by
  unfold St.signB; rw [skip_no h]; simp [St.isAt, hk]
theorem sign_no {b k : Nat} {t : List Nat} {d c e w : Nat} (h : isWs b = false) (hk : b ≠ k) : St.sign k ⟨b :: t, d, c, e, w⟩ = ⟨b :: t, d, c, e, w⟩ := by
  unfold St.sign; rw [skip_no h]; simp [St.here, St.isAt, hk]
theorem signB_yes {k : Nat} {t : List Nat} {d c e w : Nat} (h : isWs k = false) : St.signB k ⟨k :: t, d, c, e, w⟩ = true := by
  unfold St.signB; rw [skip_no h]; simp [St.isAt]
theorem sign_yes {k : Nat} {t : List Nat} {d c e w : Nat} (h : isWs k = false) : St.sign k ⟨k :: t, d, c, e, w⟩ = ⟨t, d, c, e, w⟩ := by
  unfold St.sign; rw [skip_no h]; simp [St.here, St.isAt, St.to]
theorem counted_ok {n d c : Nat} {t : List Nat} (h : c < 1000) : St.counted n ⟨t, d, c, 0, 0⟩ = ⟨t, d, c + 1, 0, 0⟩ := by
  unfold St.counted; rw [if_neg (by show ¬ 1000 < c + 1; omega)]
theorem byteV_w {a d c e w : Nat} {r : List Nat} (ha : a < 256) : St.byteV ⟨byteW a ++ r, d, c, e, w⟩ = a := by
  unfold St.byteV; rw [show (⟨byteW a ++ r, d, c, e, w⟩ : St).rest = byteW a ++ r from rfl, scan_byteW a ha]
theorem byte_w {n a d c e w : Nat} {r : List Nat} (ha : a < 256) : St.byte n ⟨byteW a ++ r, d, c, e, w⟩ = ⟨r, d, c, e, w⟩ := by
  unfold St.byte
  rw [show (⟨byteW a ++ r, d, c, e, w⟩ : St).rest = byteW a ++ r from rfl, scan_byteW a ha]
  rw [if_neg (by intro h; exact byteW_ne a (List.length_eq_zero_iff.1 h))]
  simp [St.to]
theorem byteW_no {a k : Nat} (ha : a < 256) (hk : signsL.contains k = true) (h92 : k ≠ 92) : ∃ b t, byteW a = b :: t ∧ isWs b = false ∧ b ≠ k := by
  obtain ⟨b, t, h, h1, h2, -⟩ := byteW_head a ha
  refine ⟨b, t, h, h2, ?_⟩
  rintro rfl
  rcases h1 with h1 | h1
  · exact h92 h1
  · rw [hk] at h1; cases h1
theorem w_signB {a k d c e w : Nat} {r : List Nat} (ha : a < 256) (hk : signsL.contains k = true) (h92 : k ≠ 92) : St.signB k ⟨byteW a ++ r, d, c, e, w⟩ = false := by
  obtain ⟨b, t, h, h1, h2⟩ := byteW_no ha hk h92
  rw [h]; exact signB_no h1 h2
theorem w_sign {a k d c e w : Nat} {r : List Nat} (ha : a < 256) (hk : signsL.contains k = true) (h92 : k ≠ 92) : St.sign k ⟨byteW a ++ r, d, c, e, w⟩ = ⟨byteW a ++ r, d, c, e, w⟩ := by
  obtain ⟨b, t, h, h1, h2⟩ := byteW_no ha hk h92
  rw [h]; exact sign_no h1 h2
/-- A byte as an atom. -/
theorem P_byte {n f a d c : Nat} {r : List Nat} (ha : a < 256) (hc : c < 1000) : P n (f + 1) .atom ⟨byteW a ++ r, d, c, 0, 0⟩ = some (rOne (setOf [a]), ⟨r, d, c + 1, 0, 0⟩) := by
  have e1 : St.sign 40 ⟨byteW a ++ r, d, c, 0, 0⟩ = ⟨byteW a ++ r, d, c, 0, 0⟩ := w_sign ha (by decide) (by decide)
  have e2 : St.sign 91 ⟨byteW a ++ r, d, c, 0, 0⟩ = ⟨byteW a ++ r, d, c, 0, 0⟩ := w_sign ha (by decide) (by decide)
  have e3 : St.sign 46 ⟨byteW a ++ r, d, c, 0, 0⟩ = ⟨byteW a ++ r, d, c, 0, 0⟩ := w_sign ha (by decide) (by decide)
  have b1 : St.signB 40 ⟨byteW a ++ r, d, c, 0, 0⟩ = false := w_signB ha (by decide) (by decide)
  have b2 : St.signB 91 ⟨byteW a ++ r, d, c, 0, 0⟩ = false := w_signB ha (by decide) (by decide)
  have b3 : St.signB 46 ⟨byteW a ++ r, d, c, 0, 0⟩ = false := w_signB ha (by decide) (by decide)
  rw [P, e1, e2, e3, b1, b2, b3, byteV_w ha, byte_w ha]
  simp only [Bool.false_eq_true, if_false, counted_ok hc]
/-- A set in brackets as an atom. -/
theorem P_set {n f d c : Nat} {t r : List Nat} {s : BitVec 256} (h : clas n f ⟨t, d, c, 0, 0⟩ = some (s, ⟨r, d, c, 0, 0⟩)) (hc : c < 1000) : P n (f + 1) .atom ⟨91 :: t, d, c, 0, 0⟩ = some (rOne s, ⟨r, d, c + 1, 0, 0⟩) := by
  have e1 : St.sign 40 ⟨91 :: t, d, c, 0, 0⟩ = ⟨91 :: t, d, c, 0, 0⟩ := sign_no (by decide) (by decide)
  have b1 : St.signB 40 ⟨91 :: t, d, c, 0, 0⟩ = false := signB_no (by decide) (by decide)
  have e2 : St.sign 91 ⟨91 :: t, d, c, 0, 0⟩ = ⟨t, d, c, 0, 0⟩ := sign_yes (by decide)
  have b2 : St.signB 91 ⟨91 :: t, d, c, 0, 0⟩ = true := signB_yes (by decide)
  rw [P, e1, b1, e2, b2, h]
  simp only [Bool.false_eq_true, if_false, if_true, Option.map_some, counted_ok hc]
theorem w_isAt {a k d c e w : Nat} {r : List Nat} (ha : a < 256) (hk : signsL.contains k = true) (h92 : k ≠ 92) : St.isAt k ⟨byteW a ++ r, d, c, e, w⟩ = false := by
  obtain ⟨b, t, h, h1, h2⟩ := byteW_no ha hk h92
  rw [h]; simp [St.isAt, h2]
/-- A byte within brackets. -/
theorem class_byte {n f a d c x : Nat} {s : BitVec 256} {r : List Nat} (ha : a < 256) (hx : x ≠ 45) : classL n (f + 1) s ⟨byteW a ++ x :: r, d, c, 0, 0⟩ = classL n f (s ||| span a (a + 1)) ⟨x :: r, d, c, 0, 0⟩ := by
  have h1 : St.isAt 93 ⟨byteW a ++ x :: r, d, c, 0, 0⟩ = false := w_isAt ha (by decide) (by decide)
  have h2 : St.isAt 45 ⟨x :: r, d, c, 0, 0⟩ = false := by simp [St.isAt, hx]
  rw [classL, h1, byteV_w ha, byte_w ha]
  simp only [Bool.false_eq_true, if_false, if_true, h2, Nat.lt_irrefl]
/-- A range within brackets. -/
theorem class_range {n f a b d c : Nat} {s : BitVec 256} {r : List Nat} (ha : a < 256) (hb : b < 256) (h : a ≤ b) : classL n (f + 1) s ⟨byteW a ++ 45 :: (byteW b ++ r), d, c, 0, 0⟩ = classL n f (s ||| span a (b + 1)) ⟨r, d, c, 0, 0⟩ := by
  have h1 : St.isAt 93 ⟨byteW a ++ 45 :: (byteW b ++ r), d, c, 0, 0⟩ = false := w_isAt ha (by decide) (by decide)
  have h2 : St.isAt 45 ⟨45 :: (byteW b ++ r), d, c, 0, 0⟩ = true := by simp [St.isAt]
  have h3 : St.here 45 ⟨45 :: (byteW b ++ r), d, c, 0, 0⟩ = ⟨byteW b ++ r, d, c, 0, 0⟩ := by simp [St.here, St.isAt, St.to]
  rw [classL, h1, byteV_w ha, byte_w ha]
  simp only [Bool.false_eq_true, if_false, if_true, h2, h3, byteV_w hb, byte_w hb]
  rw [if_neg (by omega)]
theorem class_end {n f d c : Nat} {s : BitVec 256} {r : List Nat} : classL n (f + 1) s ⟨93 :: r, d, c, 0, 0⟩ = some (s, ⟨r, d, c, 0, 0⟩) := by
  rw [classL]; rfl
theorem span_1 (a : Nat) : 0#256 ||| span a (a + 1) = setOf [a] := by
  unfold span
  rw [show a + 1 - a = 1 from by omega]
  simp
end Go.Proofs.YtjlgepahgmkamaaGreatDoor
/- Read at the texts of TextBytes: a byte, a set of one, a range, all but one. -/
namespace Go.Proofs.YtjlgepahgmkamaaGreatDoor
set_option maxRecDepth 100000
set_option linter.unusedSimpArgs false
set_option linter.unusedVariables false
open Go.RowKit Go.Shelf St

theorem P_wholeE {n f d c e w : Nat} {st : St} {a : RE} (h : P n (f + 1) .atom st = some (a, ⟨[], d, c, e, w⟩)) : P n (f + 6) .or st = some (rAny [rBoth [rThen [a]]], ⟨[], d, c, e, w⟩) :=
  P_or (P_minus (P_and (P_cat (P_post h rfl) rfl) rfl) rfl) rfl
theorem read_atom {l : List Nat} {s : BitVec 256} (hs : s ≠ 0#256) (h : P l.length (20 * l.length + 3) .atom (St.init l) = some (rOne s, ⟨[], 0, 1, 0, 0⟩)) : readQ l = (rOne s, ⟨[], 0, 1, 0, 0⟩) ∧ (rdEnd l).err = 0 := by
  have h1 : P l.length (20 * l.length + 8) .or (St.init l) = _ := P_wholeE (f := 20 * l.length + 2) h
  rw [then_one1 hs, both_one1 hs, any_one1 hs] at h1
  have h2 : readQ l = (rOne s, ⟨[], 0, 1, 0, 0⟩) := by unfold readQ; rw [h1]; rfl
  refine ⟨h2, ?_⟩
  unfold rdEnd
  rw [h2]
  have hz : (rOne s).size = 1 := by rw [one_mk hs, RE.size_mk]; rfl
  show (if _ ∧ 1000 < (rOne s).size then _ else _ : St).err = 0
  rw [if_neg (fun h => by rw [hz] at h; omega)]
  rfl
theorem set1_ne : ∀ a < 256, setOf [a] ≠ 0#256 ∧ ~~~setOf [a] ≠ 0#256 := by decide +kernel
theorem rd_byte {a : Nat} (ha : a < 256) : readQ (byteW a) = (rOne (setOf [a]), ⟨[], 0, 1, 0, 0⟩) ∧ (rdEnd (byteW a)).err = 0 := by
  refine read_atom (set1_ne a ha).1 ?_
  have := P_byte (n := (byteW a).length) (f := 20 * (byteW a).length + 2) (r := []) (d := 0) (c := 0) ha (by omega)
  rw [List.append_nil] at this
  exact this
end Go.Proofs.YtjlgepahgmkamaaGreatDoor
/- Read where it reads, where it does not; texts put together. -/
namespace Go.Proofs.YtjlgepahgmkamaaGreatDoor
set_option maxRecDepth 100000
set_option linter.unusedSimpArgs false
set_option linter.unusedVariables false
open Go.RowKit Go.Shelf

theorem bytesN_strB {l : List Nat} (h : ∀ x ∈ l, x < 256) : bytesN (strB l) = l := by
  simp only [bytesN, strB, strOfNums, List.map_map, Function.comp_def, Int.toNat_natCast]
  have : l.map (fun x => (UInt8.ofNat x).toNat) = l.map id := List.map_congr_left fun x hx => by
    have := h x hx
    simp; omega
  simpa using this
theorem strB_size (l : List Nat) : (strB l).size = l.length := by simp [strB, strOfNums, ByteArray.size]
theorem strB_append (a b : List Nat) : strB (a ++ b) = strB a ++ strB b := by
  apply ByteArray.ext
  simp [strB, strOfNums]
end Go.Proofs.YtjlgepahgmkamaaGreatDoor
