/- Texts of this claim put together: LxP1. -/
import Derived.Test.YtjlgepahgmkamaaGreatDoorJoinLxE1
import Derived.Test.YtjlgepahgmkamaaGreatDoorJoinQuQ
/- What is written of a token is read as that token. -/
namespace Go.Proofs.YtjlgepahgmkamaaGreatDoor
set_option maxRecDepth 100000
set_option linter.unusedSimpArgs false
set_option linter.unusedVariables false
open Go.RowKit Go.Shelf St

theorem byteW_kinds : ∀ c < 256, (byteW c = [c] ∧ c ≠ 92 ∧ plainB c = true ∧ c ≠ 34 ∧ c ≠ 47) ∨ ((byteW c).head? = some 92 ∧ (((byteW c)[1]? = some 120 ∧ (byteW c).length = 4 ∧ ((byteW c)[2]?.getD 0 ≠ 47 ∧ (byteW c)[2]?.getD 0 ≠ 92 ∧ (byteW c)[3]?.getD 0 ≠ 47 ∧ (byteW c)[3]?.getD 0 ≠ 92)) ∨ ((byteW c)[1]? ≠ some 120 ∧ (byteW c).length = 2))) := by decide +kernel
theorem byteW_shape {c : Nat} (hc : c < 256) : (byteW c = [c] ∧ c ≠ 92 ∧ plainB c = true ∧ c ≠ 34 ∧ c ≠ 47) ∨ (∃ x, byteW c = [92, x] ∧ x ≠ 120) ∨ (∃ x y, byteW c = [92, 120, x, y] ∧ x ≠ 47 ∧ x ≠ 92 ∧ y ≠ 47 ∧ y ≠ 92) := by
  rcases byteW_kinds c hc with h | ⟨h1, h2⟩
  · exact .inl h
  · right
    rcases h2 with ⟨h2, h3, h4⟩ | ⟨h2, h3⟩
    · right
      match hb : byteW c, h1, h2, h3, h4 with
      | [a, b, x, y], h1, h2, h3, h4 =>
        obtain rfl : a = 92 := by simpa using h1
        obtain rfl : b = 120 := by simpa using h2
        exact ⟨x, y, rfl, by simpa using h4⟩
    · left
      match hb : byteW c, h1, h2, h3 with
      | [a, b], h1, h2, h3 =>
        obtain rfl : a = 92 := by simpa using h1
        exact ⟨b, rfl, by simpa using h2⟩
theorem least_one : ∀ b < 256, (bytesOf (setOf [b])).headD 0 = b := by decide +kernel
theorem leastN_one {b : Nat} (hb : b < 256) : leastN (rOne (setOf [b])) = b := by
  unfold leastN
  rw [one_mk (set1_ne b hb).1]
  exact least_one b hb
/-- A byte as it is written, between quotes. -/
theorem scanL_byteW {b : Nat} (hb : b < 256) (r : List Nat) : scanL (byteW b ++ r) = (b, (byteW b).length) := by
  have hr := rd_byte hb
  have hl := leastN_one hb
  rcases byteW_shape hb with ⟨h, h1, h2, -⟩ | ⟨x, h, hx⟩ | ⟨x, y, h, -⟩
  · rw [h]
    exact scanL_pl h1 h2
  · rw [h] at hr ⊢
    have e : ((92 :: x :: r).take (if (x :: r).head? = some 120 then 4 else 2)) = [92, x] := by
      rw [if_neg (by simpa using hx)]; rfl
    show scanL (92 :: x :: r) = (b, 2)
    rw [scanL, if_pos rfl, e, if_pos hr.2, hr.1]
    show (leastN (rOne (setOf [b])), 2) = _
    rw [hl]
  · rw [h] at hr ⊢
    show scanL (92 :: 120 :: x :: y :: r) = (b, 4)
    have e : ((92 :: 120 :: x :: y :: r).take (if (120 :: x :: y :: r).head? = some 120 then 4 else 2)) = [92, 120, x, y] := by
      rw [if_pos (show (120 :: x :: y :: r).head? = some 120 from rfl)]; rfl
    rw [scanL, if_pos rfl, e, if_pos hr.2, hr.1]
    show (leastN (rOne (setOf [b])), 4) = _
    rw [hl]
theorem byteW_no34 {b : Nat} (hb : b < 256) : ∃ c r, byteW b = c :: r ∧ c ≠ 34 := by
  rcases byteW_shape hb with ⟨h, h1, h2, h3, -⟩ | ⟨x, h, hx⟩ | ⟨x, y, h, -⟩
  · exact ⟨b, [], h, h3⟩
  · exact ⟨92, [x], h, by decide⟩
  · exact ⟨92, [120, x, y], h, by decide⟩
/-- What is quoted is read as it was. -/
theorem txN_quote (rest : List Nat) : ∀ (l : List Nat) (f : Nat), (∀ x ∈ l, x < 256) → (l.flatMap byteW ++ 34 :: rest).length < f → txN f (l.flatMap byteW ++ 34 :: rest) = (l, (l.flatMap byteW).length, false)
  | [], f, _, hf => by
    obtain ⟨f, rfl⟩ : ∃ g, f = g + 1 := ⟨f - 1, by omega⟩
    show txN (f + 1) (34 :: rest) = _
    rw [txN, if_pos rfl]
    rfl
  | b :: l, f, hl, hf => by
    obtain ⟨f, rfl⟩ : ∃ g, f = g + 1 := ⟨f - 1, by omega⟩
    have hb := hl b (by simp)
    obtain ⟨c, r, hw, h34⟩ := byteW_no34 hb
    have hs := scanL_byteW hb (l.flatMap byteW ++ 34 :: rest)
    have e : (b :: l).flatMap byteW ++ 34 :: rest = byteW b ++ (l.flatMap byteW ++ 34 :: rest) := by simp
    have hne : (byteW b).length ≠ 0 := by rw [hw]; simp
    rw [e] at hf ⊢
    rw [hw] at hs ⊢
    have e2 : (c :: r) ++ (l.flatMap byteW ++ 34 :: rest) = c :: (r ++ (l.flatMap byteW ++ 34 :: rest)) := rfl
    rw [e2] at hs ⊢
    rw [txN, if_neg h34, hs]
    simp only
    rw [← hw, if_neg hne]
    have e3 : (c :: (r ++ (l.flatMap byteW ++ 34 :: rest))).drop (byteW b).length = l.flatMap byteW ++ 34 :: rest := by
      rw [← e2, ← hw]; exact List.drop_left' rfl
    rw [e3, txN_quote rest l f (fun x hx => hl x (by simp [hx])) (by rw [List.length_append] at hf; omega)]
    simp [Nat.add_comm]
/-- No slash stands there but behind a backslash. -/
def Sl (l : List Nat) : Prop := ∀ rest, reN (l ++ rest) = l.length + reN rest
theorem Sl.nil : Sl [] := fun rest => by simp
theorem Sl.app {a b : List Nat} (ha : Sl a) (hb : Sl b) : Sl (a ++ b) := fun rest => by
  rw [List.append_assoc, ha, hb, List.length_append]; omega
theorem Sl.one {c : Nat} (h1 : c ≠ 47) (h2 : c ≠ 92) : Sl [c] := fun rest => by
  show reN (c :: rest) = 1 + reN rest
  rw [reN_x _ h1 h2]; omega
theorem Sl.byte {c : Nat} (hc : c < 256) : Sl (byteW c) := by
  rcases byteW_shape hc with ⟨h, h1, h2, h3, h4⟩ | ⟨x, h, hx⟩ | ⟨x, y, h, h1, h2, h3, h4⟩
  · rw [h]; exact Sl.one h4 h1
  · rw [h]
    intro rest
    show reN (92 :: x :: rest) = 2 + reN rest
    rw [reN_92]; omega
  · rw [h]
    intro rest
    show reN (92 :: 120 :: x :: y :: rest) = 4 + reN rest
    rw [reN_92, reN_x _ h1 h2, reN_x _ h3 h4]; omega
theorem Sl.flat {α : Type} {f : α → List Nat} : ∀ (l : List α), (∀ x ∈ l, Sl (f x)) → Sl (l.flatMap f)
  | [], _ => Sl.nil
  | x :: l, h => by
    rw [List.flatMap_cons]
    exact (h x (by simp)).app (Sl.flat l fun y hy => h y (by simp [hy]))
theorem Sl.runs (l : List (Nat × Nat)) (h : ∀ x ∈ l, x.1 < 256 ∧ x.2 < 256) : Sl (runsW l) := by
  unfold runsW
  refine Sl.flat l fun x hx => ?_
  unfold runW
  refine (Sl.byte (h x hx).1).app ?_
  split
  · exact (Sl.one (c := 45) (by decide) (by decide)).app (Sl.byte (h x hx).2)
  · exact Sl.nil
theorem Sl.cls (s : BitVec 256) : Sl (classW s) := by
  have h1 := Sl.runs (runsOf s) (runs_lt256 s)
  have h2 := Sl.runs (runsOf (~~~s)) (runs_lt256 (~~~s))
  have a : Sl [91] := Sl.one (by decide) (by decide)
  have z : Sl [93] := Sl.one (by decide) (by decide)
  have n : Sl [94] := Sl.one (by decide) (by decide)
  unfold classW
  split
  · exact h1
  · split
    · exact Sl.one (by decide) (by decide)
    · split
      · exact ((a.app n).app h2).app z
      · exact (a.app h1).app z
theorem Sl.kids (o : Nat) : ∀ (l : List (Nat × List Nat)) (i : Nat), (∀ x ∈ l, Sl x.2) → Sl (kidsT o i l)
  | [], _, _ => Sl.nil
  | x :: l, i, h => by
    have hx := h x (by simp)
    have h1 : Sl (sepB o) := by
      unfold sepB
      split
      · exact Sl.one (by decide) (by decide)
      · split
        · exact Sl.one (by decide) (by decide)
        · split
          · exact Sl.one (by decide) (by decide)
          · exact Sl.nil
    have h2 : Sl (kidT o i x.1 x.2) := by
      unfold kidT
      refine Sl.app ?_ ?_
      · split
        · exact h1
        · exact Sl.nil
      · split
        · exact ((Sl.one (c := 40) (by decide) (by decide)).app hx).app (Sl.one (by decide) (by decide))
        · exact hx
    rw [kidsT]
    exact h2.app (Sl.kids o l (i + 1) fun y hy => h y (by simp [hy]))
/-- In what is written of an expression no slash stands alone. -/
theorem Sl.txt (r : RE) : Sl r.txt := by
  refine RE.ind (P := fun r => Sl r.txt) ?_ r
  intro o s ks ih
  have hk : ∀ i, Sl (kidsT o i (kidL ks)) := fun i => Sl.kids o _ i fun x hx => by
    obtain ⟨k, hk, rfl⟩ := List.mem_map.1 hx
    exact ih k hk
  rw [RE.txt_mk]
  unfold opT
  split
  · exact (Sl.one (c := 40) (by decide) (by decide)).app (Sl.one (by decide) (by decide))
  split
  · exact Sl.cls s
  split
  · exact hk 0
  split
  · exact (hk 0).app (Sl.one (by decide) (by decide))
  · exact (Sl.one (c := 91) (by decide) (by decide)).app (Sl.one (by decide) (by decide))
end Go.Proofs.YtjlgepahgmkamaaGreatDoor
