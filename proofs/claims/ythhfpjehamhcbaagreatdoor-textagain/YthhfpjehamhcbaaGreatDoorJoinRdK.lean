/- Texts of this claim put together: RdJ, RdK. -/
import Derived.Test.YthhfpjehamhcbaaGreatDoorJoinRdI
/- A byte as it is written, read again; a byte alone, in a set. -/
namespace Go.Proofs.YthhfpjehamhcbaaGreatDoor
set_option maxRecDepth 100000
set_option linter.unusedSimpArgs false
set_option linter.unusedVariables false
open Go.RowKit Go.Shelf St

theorem bw_hex : ∀ c < 256, plainB c = false → (digitsL.contains (digitsL.getD (c / 16) 0) && digitsL.contains (digitsL.getD (c % 16) 0)) = true ∧ 16 * digitsL.idxOf (digitsL.getD (c / 16) 0) + digitsL.idxOf (digitsL.getD (c % 16) 0) = c := by decide +kernel
theorem bw_sign : ∀ c < 256, plainB c = true → (signsL ++ othersL).contains c = true → c ≠ 110 ∧ c ≠ 116 ∧ c ≠ 120 ∧ (!plainB c || letterB c) = false := by decide +kernel
theorem bw_self : ∀ c < 256, plainB c = true → (signsL ++ othersL).contains c = false → c ≠ 92 ∧ (!plainB c || signsL.contains c) = false := by decide +kernel
theorem scan_byteW (c : Nat) (hc : c < 256) (r : List Nat) : scanN (byteW c ++ r) = (c, (byteW c).length) := by
  unfold byteW
  split
  · rename_i h; subst h; rfl
  split
  · rename_i h; subst h; rfl
  split
  · rename_i h
    obtain ⟨h1, h2⟩ := bw_hex c hc h
    simp only [List.cons_append, List.nil_append, scanN, if_true, List.length_cons, List.length_nil]
    rw [if_neg (by decide), if_neg (by decide), if_pos h1, h2]
  split
  · rename_i h h'
    have hp : plainB c = true := by simpa using h
    obtain ⟨h1, h2, h3, h4⟩ := bw_sign c hc hp h'
    simp only [List.cons_append, List.nil_append, scanN, if_true, h1, h2, h3, h4, if_false, List.length_cons, List.length_nil]
    rfl
  · rename_i h h'
    have hp : plainB c = true := by simpa using h
    obtain ⟨h1, h2⟩ := bw_self c hc hp (by simpa using h')
    simp only [List.cons_append, List.nil_append, scanN, h1, h2, if_false, List.length_cons, List.length_nil]
    rfl
/-- How a byte's text begins. -/
theorem byteW_head (c : Nat) (hc : c < 256) : ∃ b t, byteW c = b :: t ∧ (b = 92 ∨ signsL.contains b = false) ∧ isWs b = false ∧ b ≠ 94 := by
  have h : ∀ c < 256, ((byteW c).headD 0 = 92 ∨ signsL.contains ((byteW c).headD 0) = false) ∧ isWs ((byteW c).headD 0) = false ∧ (byteW c).headD 0 ≠ 94 := by decide +kernel
  have h1 := h c hc
  cases e : byteW c with
  | nil => exact absurd e (byteW_ne c)
  | cons b t => rw [e] at h1; exact ⟨b, t, rfl, h1⟩

theorem skip_no {b : Nat} {t : List Nat} {d c e w : Nat} (h : isWs b = false) : St.skip ⟨b :: t, d, c, e, w⟩ = ⟨b :: t, d, c, e, w⟩ := by simp [St.skip, St.to, List.dropWhile, h]
theorem signB_no {b k : Nat} {t : List Nat} {d c e w : Nat} (h : isWs b = false) (hk : b ≠ k) : St.signB k ⟨b :: t, d, c, e, w⟩ = false := by
  unfold St.signB; rw [skip_no h]; simp [St.isAt, hk]
theorem sign_no {b k : Nat} {t : List Nat} {d c e w : Nat} (h : isWs b = false) (hk : b ≠ k) : St.sign k ⟨b :: t, d, c, e, w⟩ = ⟨b :: t, d, c, e, w⟩ := by
  unfold St.sign; rw [skip_no h]; simp [St.here, St.isAt, hk]
theorem signB_yes {k : Nat} {t : List Nat} {d c e w : Nat} (h : isWs k = false) : St.signB k ⟨k :: t, d, c, e, w⟩ = true := by
  unfold St.signB; rw [skip_no h]; simp [St.isAt]
theorem sign_yes {k : Nat} {t : List Nat} {d c e w : Nat} (h : isWs k = false) : St.sign k ⟨k :: t, d, c, e, w⟩ = ⟨t, d, c, e, w⟩ := by
  unfold St.sign; rw [skip_no h]; simp [St.here, St.isAt, St.to]
theorem counted_ok {n d c : Nat} {t : List Nat} (h : c < 1000) : St.counted n ⟨t, d, c, 0, 0⟩ = ⟨t, d, c + 1, 0, 0⟩ := by
  unfold St.counted; rw [if_neg (by show ¬ 1000 < c + 1; omega)]
theorem byteV_w {a d c e w : Nat} {r : List Nat} (ha : a < 256) : St.byteV ⟨byteW a ++ r, d, c, e, w⟩ = a := by
  unfold St.byteV; rw [show (⟨byteW a ++ r, d, c, e, w⟩ : St).rest = byteW a ++ r from rfl, scan_byteW a ha]
theorem byte_w {n a d c e w : Nat} {r : List Nat} (ha : a < 256) : St.byte n ⟨byteW a ++ r, d, c, e, w⟩ = ⟨r, d, c, e, w⟩ := by
  unfold St.byte
  rw [show (⟨byteW a ++ r, d, c, e, w⟩ : St).rest = byteW a ++ r from rfl, scan_byteW a ha]
  rw [if_neg (by intro h; exact byteW_ne a (List.length_eq_zero_iff.1 h))]
  simp [St.to]
theorem byteW_no {a k : Nat} (ha : a < 256) (hk : signsL.contains k = true) (h92 : k ≠ 92) : ∃ b t, byteW a = b :: t ∧ isWs b = false ∧ b ≠ k := by
  obtain ⟨b, t, h, h1, h2, -⟩ := byteW_head a ha
  refine ⟨b, t, h, h2, ?_⟩
  rintro rfl
  rcases h1 with h1 | h1
  · exact h92 h1
  · rw [hk] at h1; cases h1
theorem w_signB {a k d c e w : Nat} {r : List Nat} (ha : a < 256) (hk : signsL.contains k = true) (h92 : k ≠ 92) : St.signB k ⟨byteW a ++ r, d, c, e, w⟩ = false := by
  obtain ⟨b, t, h, h1, h2⟩ := byteW_no ha hk h92
  rw [h]; exact signB_no h1 h2
theorem w_sign {a k d c e w : Nat} {r : List Nat} (ha : a < 256) (hk : signsL.contains k = true) (h92 : k ≠ 92) : St.sign k ⟨byteW a ++ r, d, c, e, w⟩ = ⟨byteW a ++ r, d, c, e, w⟩ := by
  obtain ⟨b, t, h, h1, h2⟩ := byteW_no ha hk h92
  rw [h]; exact sign_no h1 h2
/-- A byte as an atom. -/
theorem P_byte {n f a d c : Nat} {r : List Nat} (ha : a < 256) (hc : c < 1000) : P n (f + 1) .atom ⟨byteW a ++ r, d, c, 0, 0⟩ = some (rOne (setOf [a]), ⟨r, d, c + 1, 0, 0⟩) := by
  have e1 : St.sign 40 ⟨byteW a ++ r, d, c, 0, 0⟩ = ⟨byteW a ++ r, d, c, 0, 0⟩ := w_sign ha (by decide) (by decide)
  have e2 : St.sign 91 ⟨byteW a ++ r, d, c, 0, 0⟩ = ⟨byteW a ++ r, d, c, 0, 0⟩ := w_sign ha (by decide) (by decide)
  have e3 : St.sign 46 ⟨byteW a ++ r, d, c, 0, 0⟩ = ⟨byteW a ++ r, d, c, 0, 0⟩ := w_sign ha (by decide) (by decide)
  have b1 : St.signB 40 ⟨byteW a ++ r, d, c, 0, 0⟩ = false := w_signB ha (by decide) (by decide)
  have b2 : St.signB 91 ⟨byteW a ++ r, d, c, 0, 0⟩ = false := w_signB ha (by decide) (by decide)
  have b3 : St.signB 46 ⟨byteW a ++ r, d, c, 0, 0⟩ = false := w_signB ha (by decide) (by decide)
  rw [P, e1, e2, e3, b1, b2, b3, byteV_w ha, byte_w ha]
  simp only [Bool.false_eq_true, if_false, counted_ok hc]
/-- A set in brackets as an atom. -/
theorem P_set {n f d c : Nat} {t r : List Nat} {s : BitVec 256} (h : clas n f ⟨t, d, c, 0, 0⟩ = some (s, ⟨r, d, c, 0, 0⟩)) (hc : c < 1000) : P n (f + 1) .atom ⟨91 :: t, d, c, 0, 0⟩ = some (rOne s, ⟨r, d, c + 1, 0, 0⟩) := by
  have e1 : St.sign 40 ⟨91 :: t, d, c, 0, 0⟩ = ⟨91 :: t, d, c, 0, 0⟩ := sign_no (by decide) (by decide)
  have b1 : St.signB 40 ⟨91 :: t, d, c, 0, 0⟩ = false := signB_no (by decide) (by decide)
  have e2 : St.sign 91 ⟨91 :: t, d, c, 0, 0⟩ = ⟨t, d, c, 0, 0⟩ := sign_yes (by decide)
  have b2 : St.signB 91 ⟨91 :: t, d, c, 0, 0⟩ = true := signB_yes (by decide)
  rw [P, e1, b1, e2, b2, h]
  simp only [Bool.false_eq_true, if_false, if_true, Option.map_some, counted_ok hc]
/-- An atom that is the whole text. -/
theorem P_whole {n f d c : Nat} {st : St} {a : RE} (h : P n (f + 1) .atom st = some (a, ⟨[], d, c, 0, 0⟩)) : P n (f + 6) .or st = some (rAny [rBoth [rThen [a]]], ⟨[], d, c, 0, 0⟩) :=
  P_or (P_minus (P_and (P_cat (P_post h rfl) rfl) rfl) rfl) rfl

theorem w_isAt {a k d c e w : Nat} {r : List Nat} (ha : a < 256) (hk : signsL.contains k = true) (h92 : k ≠ 92) : St.isAt k ⟨byteW a ++ r, d, c, e, w⟩ = false := by
  obtain ⟨b, t, h, h1, h2⟩ := byteW_no ha hk h92
  rw [h]; simp [St.isAt, h2]
theorem w_isAt94 {a d c e w : Nat} {r : List Nat} (ha : a < 256) : St.isAt 94 ⟨byteW a ++ r, d, c, e, w⟩ = false := by
  obtain ⟨b, t, h, -, -, h2⟩ := byteW_head a ha
  rw [h]; simp [St.isAt, h2]
/-- A byte within brackets. -/
theorem class_byte {n f a d c x : Nat} {s : BitVec 256} {r : List Nat} (ha : a < 256) (hx : x ≠ 45) : classL n (f + 1) s ⟨byteW a ++ x :: r, d, c, 0, 0⟩ = classL n f (s ||| span a (a + 1)) ⟨x :: r, d, c, 0, 0⟩ := by
  have h1 : St.isAt 93 ⟨byteW a ++ x :: r, d, c, 0, 0⟩ = false := w_isAt ha (by decide) (by decide)
  have h2 : St.isAt 45 ⟨x :: r, d, c, 0, 0⟩ = false := by simp [St.isAt, hx]
  rw [classL, h1, byteV_w ha, byte_w ha]
  simp only [Bool.false_eq_true, if_false, if_true, h2, Nat.lt_irrefl]
/-- A range within brackets. -/
theorem class_range {n f a b d c : Nat} {s : BitVec 256} {r : List Nat} (ha : a < 256) (hb : b < 256) (h : a ≤ b) : classL n (f + 1) s ⟨byteW a ++ 45 :: (byteW b ++ r), d, c, 0, 0⟩ = classL n f (s ||| span a (b + 1)) ⟨r, d, c, 0, 0⟩ := by
  have h1 : St.isAt 93 ⟨byteW a ++ 45 :: (byteW b ++ r), d, c, 0, 0⟩ = false := w_isAt ha (by decide) (by decide)
  have h2 : St.isAt 45 ⟨45 :: (byteW b ++ r), d, c, 0, 0⟩ = true := by simp [St.isAt]
  have h3 : St.here 45 ⟨45 :: (byteW b ++ r), d, c, 0, 0⟩ = ⟨byteW b ++ r, d, c, 0, 0⟩ := by simp [St.here, St.isAt, St.to]
  rw [classL, h1, byteV_w ha, byte_w ha]
  simp only [Bool.false_eq_true, if_false, if_true, h2, h3, byteV_w hb, byte_w hb]
  rw [if_neg (by omega)]
/-- A range whose end is below its beginning. -/
theorem class_wrong {n f a b d c : Nat} {s : BitVec 256} {r : List Nat} (ha : a < 256) (hb : b < 256) (h : b < a) : ∃ s2, classL n (f + 2) s ⟨byteW a ++ 45 :: (byteW b ++ r), d, c, 0, 0⟩ = some (s2, ⟨[], d, c, 2, n - r.length⟩) := by
  have h1 : St.isAt 93 ⟨byteW a ++ 45 :: (byteW b ++ r), d, c, 0, 0⟩ = false := w_isAt ha (by decide) (by decide)
  have h2 : St.isAt 45 ⟨45 :: (byteW b ++ r), d, c, 0, 0⟩ = true := by simp [St.isAt]
  have h3 : St.here 45 ⟨45 :: (byteW b ++ r), d, c, 0, 0⟩ = ⟨byteW b ++ r, d, c, 0, 0⟩ := by simp [St.here, St.isAt, St.to]
  refine ⟨s ||| span a (b + 1), ?_⟩
  rw [classL, h1, byteV_w ha, byte_w ha]
  simp only [Bool.false_eq_true, if_false, if_true, h2, h3, byteV_w hb, byte_w hb]
  rw [if_pos h]
  rfl
theorem class_end {n f d c : Nat} {s : BitVec 256} {r : List Nat} : classL n (f + 1) s ⟨93 :: r, d, c, 0, 0⟩ = some (s, ⟨r, d, c, 0, 0⟩) := by
  rw [classL]; rfl
theorem span_1 (a : Nat) : 0#256 ||| span a (a + 1) = setOf [a] := by
  unfold span
  rw [show a + 1 - a = 1 from by omega]
  simp
theorem clas_byte {n f a d c : Nat} (ha : a < 256) : clas n (f + 2) ⟨byteW a ++ [93], d, c, 0, 0⟩ = some (setOf [a], ⟨[], d, c, 0, 0⟩) := by
  unfold clas
  rw [w_isAt94 ha]
  simp only [Bool.false_eq_true, if_false]
  rw [class_byte ha (by decide), class_end, span_1]
theorem clas_not {n f a d c : Nat} (ha : a < 256) : clas n (f + 2) ⟨94 :: (byteW a ++ [93]), d, c, 0, 0⟩ = some (~~~setOf [a], ⟨[], d, c, 0, 0⟩) := by
  have h1 : St.isAt 94 ⟨94 :: (byteW a ++ [93]), d, c, 0, 0⟩ = true := by simp [St.isAt]
  have h2 : St.here 94 ⟨94 :: (byteW a ++ [93]), d, c, 0, 0⟩ = ⟨byteW a ++ [93], d, c, 0, 0⟩ := by simp [St.here, St.isAt, St.to]
  unfold clas
  rw [h1, h2]
  simp only [if_true]
  rw [class_byte ha (by decide), class_end, span_1]
  rfl
theorem clas_range {n f a b d c : Nat} (ha : a < 256) (hb : b < 256) (h : a ≤ b) : clas n (f + 2) ⟨byteW a ++ 45 :: (byteW b ++ [93]), d, c, 0, 0⟩ = some (span a (b + 1), ⟨[], d, c, 0, 0⟩) := by
  unfold clas
  rw [w_isAt94 ha]
  simp only [Bool.false_eq_true, if_false]
  rw [class_range ha hb h, class_end]
  simp
end Go.Proofs.YthhfpjehamhcbaaGreatDoor
/- Read at the texts of TextBytes: a byte, a set of one, a range, all but one. -/
namespace Go.Proofs.YthhfpjehamhcbaaGreatDoor
set_option maxRecDepth 100000
set_option linter.unusedSimpArgs false
set_option linter.unusedVariables false
open Go.RowKit Go.Shelf St

theorem P_wholeE {n f d c e w : Nat} {st : St} {a : RE} (h : P n (f + 1) .atom st = some (a, ⟨[], d, c, e, w⟩)) : P n (f + 6) .or st = some (rAny [rBoth [rThen [a]]], ⟨[], d, c, e, w⟩) :=
  P_or (P_minus (P_and (P_cat (P_post h rfl) rfl) rfl) rfl) rfl
theorem read_atom {l : List Nat} {s : BitVec 256} (hs : s ≠ 0#256) (h : P l.length (20 * l.length + 3) .atom (St.init l) = some (rOne s, ⟨[], 0, 1, 0, 0⟩)) : readQ l = (rOne s, ⟨[], 0, 1, 0, 0⟩) ∧ (rdEnd l).err = 0 := by
  have h1 : P l.length (20 * l.length + 8) .or (St.init l) = _ := P_wholeE (f := 20 * l.length + 2) h
  rw [then_one1 hs, both_one1 hs, any_one1 hs] at h1
  have h2 : readQ l = (rOne s, ⟨[], 0, 1, 0, 0⟩) := by unfold readQ; rw [h1]; rfl
  refine ⟨h2, ?_⟩
  unfold rdEnd
  rw [h2]
  have hz : (rOne s).size = 1 := by rw [one_mk hs, RE.size_mk]; rfl
  show (if _ ∧ 1000 < (rOne s).size then _ else _ : St).err = 0
  rw [if_neg (fun h => by rw [hz] at h; omega)]
  rfl
theorem set1_ne : ∀ a < 256, setOf [a] ≠ 0#256 ∧ ~~~setOf [a] ≠ 0#256 := by decide +kernel
theorem rd_byte {a : Nat} (ha : a < 256) : readQ (byteW a) = (rOne (setOf [a]), ⟨[], 0, 1, 0, 0⟩) ∧ (rdEnd (byteW a)).err = 0 := by
  refine read_atom (set1_ne a ha).1 ?_
  have := P_byte (n := (byteW a).length) (f := 20 * (byteW a).length + 2) (r := []) (d := 0) (c := 0) ha (by omega)
  rw [List.append_nil] at this
  exact this
theorem rd_set {a : Nat} (ha : a < 256) : readQ (91 :: (byteW a ++ [93])) = (rOne (setOf [a]), ⟨[], 0, 1, 0, 0⟩) ∧ (rdEnd (91 :: (byteW a ++ [93]))).err = 0 :=
  read_atom (set1_ne a ha).1 (P_set (f := 20 * (91 :: (byteW a ++ [93])).length + 2) (clas_byte ha) (by omega))
theorem rd_not {a : Nat} (ha : a < 256) : readQ (91 :: 94 :: (byteW a ++ [93])) = (rOne (~~~setOf [a]), ⟨[], 0, 1, 0, 0⟩) ∧ (rdEnd (91 :: 94 :: (byteW a ++ [93]))).err = 0 :=
  read_atom (set1_ne a ha).2 (P_set (f := 20 * (91 :: 94 :: (byteW a ++ [93])).length + 2) (clas_not ha) (by omega))
theorem span_ne {a b : Nat} (hb : b < 256) (h : a ≤ b) : span a (b + 1) ≠ 0#256 := by
  intro e
  rw [span_succ a b h] at e
  have h1 := congrArg (fun s : BitVec 256 => s.getLsbD b) e
  simp only [BitVec.getLsbD_or, getLsbD_one_shl b b hb] at h1
  simp at h1
theorem rd_range {a b : Nat} (ha : a < 256) (hb : b < 256) (h : a ≤ b) : readQ (91 :: (byteW a ++ 45 :: (byteW b ++ [93]))) = (rOne (span a (b + 1)), ⟨[], 0, 1, 0, 0⟩) ∧ (rdEnd (91 :: (byteW a ++ 45 :: (byteW b ++ [93])))).err = 0 :=
  read_atom (span_ne hb h) (P_set (f := 20 * (91 :: (byteW a ++ 45 :: (byteW b ++ [93]))).length + 2) (clas_range ha hb h) (by omega))
theorem rd_wrong {a b : Nat} (ha : a < 256) (hb : b < 256) (h : b < a) : (rdEnd (91 :: (byteW a ++ 45 :: (byteW b ++ [93])))).err = 2 := by
  obtain ⟨l, hl⟩ : ∃ l, l = 91 :: (byteW a ++ 45 :: (byteW b ++ [93])) := ⟨_, rfl⟩
  obtain ⟨s2, h2⟩ := class_wrong (n := l.length) (f := 20 * l.length) (d := 0) (c := 0) (s := 0#256) (r := [93]) ha hb h
  have hc : clas l.length (20 * l.length + 2) ⟨byteW a ++ 45 :: (byteW b ++ [93]), 0, 0, 0, 0⟩ = some (s2, ⟨[], 0, 0, 2, l.length - [93].length⟩) := by
    unfold clas
    rw [w_isAt94 ha]
    simp only [Bool.false_eq_true, if_false]
    exact h2
  have ha1 : P l.length (20 * l.length + 3) .atom ⟨91 :: (byteW a ++ 45 :: (byteW b ++ [93])), 0, 0, 0, 0⟩ = some (rOne s2, ⟨[], 0, 1, 2, l.length - [93].length⟩) := by
    rw [P, sign_no (by decide) (by decide), signB_no (by decide) (by decide), sign_yes (by decide), signB_yes (by decide), hc]
    rfl
  have h1 := P_wholeE (f := 20 * l.length + 2) ha1
  rw [← hl] at h1
  have h1 : P l.length (20 * l.length + 8) .or (St.init l) = some (rAny [rBoth [rThen [rOne s2]]], ⟨[], 0, 1, 2, l.length - [93].length⟩) := h1
  rw [← hl]
  unfold rdEnd
  have h2 : readQ l = (rAny [rBoth [rThen [rOne s2]]], ⟨[], 0, 1, 2, l.length - [93].length⟩) := by unfold readQ; rw [h1]; rfl
  rw [h2]
  exact (congrArg St.err (if_neg (fun hh => absurd (show (2 : Nat) = 0 from hh.1) (by decide)))).trans rfl
end Go.Proofs.YthhfpjehamhcbaaGreatDoor
