/- Texts of this claim put together: MathMet, MathMet2, AuB, AuC. -/
import Derived.Test.YtjcfnmjjkadaeaaGreatDoorJoinMathDfa
import Derived.Test.YtjcfnmjjkadaeaaGreatDoorJoinAuA
import Derived.Test.YtjcfnmjjkadaeaaGreatDoorJoinDfaB
import Derived.Test.YtjcfnmjjkadaeaaGreatDoorJoinMathDfa4
/- Build's states are numbered as they are met. Mathematics alone. -/
namespace Go.Proofs.YtjcfnmjjkadaeaaGreatDoor
set_option maxRecDepth 100000
set_option linter.unusedSimpArgs false
set_option linter.unusedVariables false

/-- The steps of a row, of all rows from one on. -/
def rowT (q : Nat) : List Nat → List Nat → List (Nat × Nat × Nat)
  | h :: hs, e :: row => (q, h, e) :: rowT q hs row
  | _, _ => []
def rowsT (hs : List Nat) : Nat → List (List Nat) → List (Nat × Nat × Nat)
  | _, [] => []
  | q, row :: rows => rowT q hs row ++ rowsT hs (q + 1) rows
/-- How many were met in the end; each step is from one that was met, to one that was met or to the next. -/
def cntT (T : List (Nat × Nat × Nat)) (m : Nat) : Nat := T.foldl (fun m t => if t.2.2 = m then m + 1 else m) m
def okC : List (Nat × Nat × Nat) → Nat → Prop
  | [], _ => True
  | t :: T, m => t.1 < m ∧ t.2.2 ≤ m ∧ okC T (if t.2.2 = m then m + 1 else m)
theorem cntT_append (A B : List (Nat × Nat × Nat)) (m : Nat) : cntT (A ++ B) m = cntT B (cntT A m) := by unfold cntT; rw [List.foldl_append]
theorem okC_append : ∀ (A B : List (Nat × Nat × Nat)) (m : Nat), okC A m → okC B (cntT A m) → okC (A ++ B) m
  | [], B, m, _, h => h
  | t :: A, B, m, ⟨h1, h2, h3⟩, h => ⟨h1, h2, okC_append A B _ h3 h⟩
theorem wyT_len : ∀ (T : List (Nat × Nat × Nat)) (ws : List (Nat × Nat)), (wyT T ws).length = cntT T ws.length
  | [], ws => rfl
  | t :: T, ws => by
    have h := wyT_len T (if t.2.2 = ws.length then ws ++ [(t.1, t.2.1)] else ws)
    unfold wyT cntT at h ⊢
    rw [List.foldl_cons, List.foldl_cons, h]
    congr 1
    split <;> simp
theorem okT_of : ∀ (T : List (Nat × Nat × Nat)) (m : Nat), okC T m → T.Pairwise (fun a b => ltP (a.1, a.2.1) (b.1, b.2.1)) → okT T m
  | [], _, _, _ => trivial
  | t :: T, m, ⟨h1, h2, h3⟩, hp => ⟨h1, h2, fun u hu => (List.pairwise_cons.1 hp).1 u hu, okT_of T _ h3 (List.pairwise_cons.1 hp).2⟩
theorem mem_rowT (q : Nat) : ∀ (hs row : List Nat) (t : Nat × Nat × Nat), t ∈ rowT q hs row ↔ ∃ i : Nat, t.1 = q ∧ hs[i]? = some t.2.1 ∧ row[i]? = some t.2.2
  | [], row, t => by simp [rowT]
  | h :: hs, [], t => by simp [rowT]
  | h :: hs, e :: row, t => by
    rw [rowT, List.mem_cons, mem_rowT q hs row t]
    constructor
    · rintro (rfl | ⟨i, h1, h2, h3⟩)
      · exact ⟨0, rfl, rfl, rfl⟩
      · exact ⟨i + 1, h1, h2, h3⟩
    · rintro ⟨i, h1, h2, h3⟩
      cases i with
      | zero =>
        left
        obtain ⟨a, b, c⟩ := t
        simp only [List.getElem?_cons_zero, Option.some.injEq] at h1 h2 h3
        rw [h1, h2, h3]
      | succ i => exact .inr ⟨i, h1, h2, h3⟩
theorem mem_rowsT (hs : List Nat) : ∀ (rows : List (List Nat)) (q : Nat) (t : Nat × Nat × Nat), t ∈ rowsT hs q rows ↔ ∃ (k i : Nat) (row : List Nat), t.1 = q + k ∧ rows[k]? = some row ∧ hs[i]? = some t.2.1 ∧ row[i]? = some t.2.2
  | [], q, t => by simp [rowsT]
  | row :: rows, q, t => by
    rw [rowsT, List.mem_append, mem_rowT, mem_rowsT hs rows (q + 1) t]
    constructor
    · rintro (⟨i, h1, h2, h3⟩ | ⟨k, i, r, h1, h2, h3, h4⟩)
      · exact ⟨0, i, row, h1, rfl, h2, h3⟩
      · exact ⟨k + 1, i, r, by omega, h2, h3, h4⟩
    · rintro ⟨k, i, r, h1, h2, h3, h4⟩
      cases k with
      | zero =>
        obtain rfl : row = r := by simpa using h2
        exact .inl ⟨i, h1, h3, h4⟩
      | succ k => exact .inr ⟨k, i, r, by omega, h2, h3, h4⟩
theorem rowT_sorted (q : Nat) : ∀ (hs row : List Nat), hs.Pairwise (· < ·) → (rowT q hs row).Pairwise (fun a b => ltP (a.1, a.2.1) (b.1, b.2.1))
  | [], _, _ => by simp [rowT]
  | _ :: _, [], _ => by simp [rowT]
  | h :: hs, e :: row, hp => by
    rw [rowT, List.pairwise_cons]
    refine ⟨fun t ht => ?_, rowT_sorted q hs row (List.pairwise_cons.1 hp).2⟩
    obtain ⟨i, h1, h2, -⟩ := (mem_rowT q hs row t).1 ht
    exact .inr ⟨h1.symm, (List.pairwise_cons.1 hp).1 _ (List.mem_of_getElem? h2)⟩
theorem rowsT_sorted {hs : List Nat} (hp : hs.Pairwise (· < ·)) : ∀ (rows : List (List Nat)) (q : Nat), (rowsT hs q rows).Pairwise (fun a b => ltP (a.1, a.2.1) (b.1, b.2.1))
  | [], _ => by simp [rowsT]
  | row :: rows, q => by
    rw [rowsT, List.pairwise_append]
    refine ⟨rowT_sorted q hs row hp, rowsT_sorted hp rows (q + 1), fun a ha b hb => ?_⟩
    obtain ⟨i, h1, -⟩ := (mem_rowT q hs row a).1 ha
    obtain ⟨k, i', r, h2, -⟩ := (mem_rowsT hs rows (q + 1) b).1 hb
    left
    simp only
    omega
theorem rowsT_append (hs : List Nat) : ∀ (a b : List (List Nat)) (q : Nat), rowsT hs q (a ++ b) = rowsT hs q a ++ rowsT hs (q + a.length) b
  | [], b, q => by simp [rowsT]
  | x :: a, b, q => by
    rw [List.cons_append, rowsT, rowsT, rowsT_append hs a b (q + 1), List.append_assoc, List.length_cons, show q + 1 + a.length = q + (a.length + 1) by omega]
theorem fnd_met {g : Int} {s s1 : Bs} {x : RE} {q : Nat} (hf : fnd g s x = (s1, some q)) : q ≤ s.S.length ∧ s1.S.length = if q = s.S.length then s.S.length + 1 else s.S.length := by
  unfold fnd at hf
  split at hf
  · cases hf
  · cases hp : posL x s.S with
    | some k =>
      rw [hp] at hf
      cases hf
      have := (posL_some hp).1
      exact ⟨by omega, by rw [if_neg (by omega)]⟩
    | none =>
      rw [hp] at hf
      simp only [Prod.mk.injEq] at hf
      obtain ⟨rfl, hf⟩ := hf
      split at hf
      · cases hf; exact ⟨Nat.le_refl _, by simp⟩
      · cases hf
theorem rowA_met {g : Int} {x : RE} (q : Nat) : ∀ (hs : List Nat) (s s1 : Bs) (acc row : List Nat), q < s.S.length → rowA g x hs s acc = (s1, some row) →
    ∃ tl, row = acc ++ tl ∧ tl.length = hs.length ∧ okC (rowT q hs tl) s.S.length ∧ cntT (rowT q hs tl) s.S.length = s1.S.length
  | [], s, s1, acc, row, _, he => by
    cases he
    exact ⟨[], by simp, rfl, trivial, rfl⟩
  | h :: hs, s, s1, acc, row, hq, he => by
    rw [rowA] at he
    split at he
    · cases he
    · rename_i s2 e hf
      obtain ⟨h1, h2⟩ := fnd_met hf
      have hq2 : q < s2.S.length := by rw [h2]; split <;> omega
      obtain ⟨tl, i1, i2, i3, i4⟩ := rowA_met q hs s2 s1 (acc ++ [e]) row hq2 he
      rw [h2] at i3 i4
      exact ⟨e :: tl, by rw [i1]; simp, by simp [i2], ⟨hq, h1, i3⟩, i4⟩
theorem bldA_met {g : Int} {hs : List Nat} : ∀ (n : Nat) (s s1 : Bs) (rows rows1 : List (List Nat)), bldA g hs n s rows = (s1, some rows1) →
    ∃ tl, rows1 = rows ++ tl ∧ (∀ r ∈ tl, r.length = hs.length) ∧ okC (rowsT hs rows.length tl) s.S.length ∧ cntT (rowsT hs rows.length tl) s.S.length = s1.S.length
  | 0, s, s1, rows, rows1, he => by cases he
  | n + 1, s, s1, rows, rows1, he => by
    rw [bldA] at he
    split at he
    · rename_i hlt
      split at he
      · cases he
      · rename_i s2 row hrow
        obtain ⟨t, a1, a2, a3, a4⟩ := rowA_met rows.length hs s s2 [] row hlt hrow
        obtain rfl : row = t := by simpa using a1
        obtain ⟨tl, i1, i2, i3, i4⟩ := bldA_met n s2 s1 (rows ++ [row]) rows1 he
        rw [← a4] at i3 i4
        rw [List.length_append] at i3 i4
        refine ⟨row :: tl, by rw [i1]; simp, fun r hr => ?_, okC_append _ _ _ a3 i3, ?_⟩
        · rcases List.mem_cons.1 hr with rfl | hr
          · exact a2
          · exact i2 r hr
        · rw [rowsT, cntT_append]; exact i4
    · cases he
      exact ⟨[], by simp, fun r hr => absurd hr (by simp), trivial, rfl⟩
/-- Build's rows: as many states as are met. -/
theorem bldF_met {g : Int} {hs : List Nat} {r : RE} {s : Bs} {rows : List (List Nat)} (h : bldF g hs r 0 = (s, some rows)) :
    okC (rowsT hs 0 rows) 1 ∧ cntT (rowsT hs 0 rows) 1 = s.S.length := by
  unfold bldF at h
  split at h
  · cases h
  · rename_i s0 q hf
    obtain ⟨-, h2⟩ := fnd_met hf
    obtain ⟨h1, -⟩ := fnd_met hf
    have hq : q = 0 := by simpa using h1
    subst hq
    obtain ⟨tl, i1, -, i3, i4⟩ := bldA_met _ s0 s [] rows h
    obtain rfl : rows = tl := by simpa using i1
    rw [h2] at i3 i4
    exact ⟨i3, i4⟩
/-- The ways by which Build's states were met. -/
theorem bldF_metT {g : Int} {hs : List Nat} {r : RE} {s : Bs} {rows : List (List Nat)} (h : bldF g hs r 0 = (s, some rows)) (hp : hs.Pairwise (· < ·)) (hb : ∀ x ∈ hs, x < 256) :
    MetT (rowsT hs 0 rows) (wyT (rowsT hs 0 rows) [(0, 0)]) ∧ (wyT (rowsT hs 0 rows) [(0, 0)]).length = s.S.length := by
  obtain ⟨h1, h2⟩ := bldF_met h
  refine ⟨⟨rfl, okT_of _ _ h1 (rowsT_sorted hp _ _), fun t ht => ?_⟩, by rw [wyT_len]; exact h2⟩
  obtain ⟨k, i, row, -, -, h3, -⟩ := (mem_rowsT hs rows 0 t).1 ht
  exact hb _ (List.mem_of_getElem? h3)
/-- The rows' steps, where a byte's head is looked up. -/
theorem rowsT_st {hs : List Nat} {rows : List (List Nat)} {f : Nat → Nat} (hr : ∀ q, q < rows.length → (rows.getD q []).length = hs.length) (hf : ∀ i, i < hs.length → f (hs.getD i 0) = i) :
    StT (rowsT hs 0 rows) (fun q b => (rows.getD q []).getD (f b) 0) hs rows.length := by
  refine ⟨fun t ht => ?_, fun q hq x hx => ?_⟩
  · obtain ⟨k, i, row, h1, h2, h3, h4⟩ := (mem_rowsT hs rows 0 t).1 ht
    have hi := (List.getElem?_eq_some_iff.1 h3).1
    have e := hf i hi
    rw [show hs.getD i 0 = t.2.1 from by rw [List.getD_eq_getElem?_getD, h3]; rfl] at e
    refine ⟨?_, List.mem_of_getElem? h3⟩
    rw [e, h1, Nat.zero_add, show rows.getD k [] = row from by rw [List.getD_eq_getElem?_getD, h2]; rfl, List.getD_eq_getElem?_getD, h4]
    rfl
  · obtain ⟨i, hi⟩ := List.mem_iff_getElem?.1 hx
    have hil := (List.getElem?_eq_some_iff.1 hi).1
    have e := hf i hil
    rw [show hs.getD i 0 = x from by rw [List.getD_eq_getElem?_getD, hi]; rfl] at e
    refine (mem_rowsT hs rows 0 _).2 ⟨q, i, rows.getD q [], by simp, by rw [List.getD_eq_getElem?_getD, List.getElem?_eq_getElem hq]; rfl, hi, ?_⟩
    simp only
    have hlt : i < (rows.getD q []).length := by rw [hr q hq]; exact hil
    generalize rows.getD q [] = R at hlt ⊢
    rw [e, List.getD_eq_getElem?_getD, List.getElem?_eq_getElem hlt]
    rfl
end Go.Proofs.YtjcfnmjjkadaeaaGreatDoor
/- The ways so far, step by step, as Shortest lays them. Mathematics alone. -/
namespace Go.Proofs.YtjcfnmjjkadaeaaGreatDoor
set_option maxRecDepth 100000
set_option linter.unusedSimpArgs false
set_option linter.unusedVariables false

theorem wyT_append (A B : List (Nat × Nat × Nat)) (ws : List (Nat × Nat)) : wyT (A ++ B) ws = wyT B (wyT A ws) := by unfold wyT; rw [List.foldl_append]
theorem wyT_pre : ∀ (T : List (Nat × Nat × Nat)) (ws : List (Nat × Nat)), ∃ r, wyT T ws = ws ++ r
  | [], ws => ⟨[], by simp [wyT]⟩
  | t :: T, ws => by
    obtain ⟨r, hr⟩ := wyT_pre T (if t.2.2 = ws.length then ws ++ [(t.1, t.2.1)] else ws)
    have e : wyT (t :: T) ws = wyT T (if t.2.2 = ws.length then ws ++ [(t.1, t.2.1)] else ws) := by unfold wyT; rw [List.foldl_cons]
    rw [e, hr]
    split
    · exact ⟨_, List.append_assoc _ _ _⟩
    · exact ⟨r, rfl⟩
/-- The steps ahead of step i of state q. -/
def preT (hs : List Nat) (rows : List (List Nat)) (q i : Nat) : List (Nat × Nat × Nat) := rowsT hs 0 (rows.take q) ++ rowT q (hs.take i) ((rows.getD q []).take i)
def wayA (hs : List Nat) (rows : List (List Nat)) (q i : Nat) : List (Nat × Nat) := wyT (preT hs rows q i) [(0, 0)]
theorem rowT_snoc (q : Nat) : ∀ (hs row : List Nat) (h e : Nat), hs.length = row.length → rowT q (hs ++ [h]) (row ++ [e]) = rowT q hs row ++ [(q, h, e)]
  | [], [], h, e, _ => rfl
  | [], _ :: _, _, _, hl => by simp at hl
  | _ :: _, [], _, _, hl => by simp at hl
  | a :: hs, b :: row, h, e, hl => by
    rw [List.cons_append, List.cons_append, rowT, rowT, rowT_snoc q hs row h e (by simpa using hl), List.cons_append]
theorem wayA_step {hs : List Nat} {rows : List (List Nat)} {q i h e : Nat} (hh : hs[i]? = some h) (he : (rows.getD q [])[i]? = some e) :
    wayA hs rows q (i + 1) = if e = (wayA hs rows q i).length then wayA hs rows q i ++ [(q, h)] else wayA hs rows q i := by
  have h1 := (List.getElem?_eq_some_iff.1 hh).1
  have h2 := (List.getElem?_eq_some_iff.1 he).1
  have e1 : preT hs rows q (i + 1) = preT hs rows q i ++ [(q, h, e)] := by
    unfold preT
    rw [List.take_add_one, List.take_add_one, hh, he, List.append_assoc]
    congr 1
    exact rowT_snoc q _ _ h e (by rw [List.length_take, List.length_take]; omega)
  unfold wayA
  rw [e1, wyT_append]
  rfl
theorem wayA_next {hs : List Nat} {rows : List (List Nat)} {q : Nat} (hq : q < rows.length) (hr : (rows.getD q []).length = hs.length) : wayA hs rows (q + 1) 0 = wayA hs rows q hs.length := by
  have e : rows.take (q + 1) = rows.take q ++ [rows.getD q []] := by
    rw [List.take_add_one, List.getElem?_eq_getElem hq, List.getD_eq_getElem?_getD, List.getElem?_eq_getElem hq]
    rfl
  unfold wayA preT
  rw [e, rowsT_append, List.length_take, Nat.zero_add, Nat.min_eq_left (Nat.le_of_lt hq), List.take_length, ← hr, List.take_length]
  simp [rowT, rowsT]
theorem wayA_zero (hs : List Nat) (rows : List (List Nat)) : wayA hs rows 0 0 = [(0, 0)] := by
  unfold wayA preT
  simp [rowT, rowsT, wyT]
/-- All steps: the ways so far are their beginning. -/
theorem wayA_pre {hs : List Nat} {rows : List (List Nat)} {q : Nat} (hq : q ≤ rows.length) : ∃ r, wyT (rowsT hs 0 rows) [(0, 0)] = wayA hs rows q 0 ++ r := by
  have e : rowsT hs 0 rows = preT hs rows q 0 ++ rowsT hs q (rows.drop q) := by
    have h := rowsT_append hs (rows.take q) (rows.drop q) 0
    rw [List.take_append_drop, List.length_take, Nat.zero_add, Nat.min_eq_left hq] at h
    unfold preT
    rw [h]
    simp [rowT]
  rw [e, wyT_append]
  exact wyT_pre _ _
theorem okC_split : ∀ (A B : List (Nat × Nat × Nat)) (m : Nat), okC (A ++ B) m → okC A m ∧ okC B (cntT A m)
  | [], B, m, h => ⟨trivial, h⟩
  | t :: A, B, m, ⟨h1, h2, h3⟩ => by
    obtain ⟨i1, i2⟩ := okC_split A B _ h3
    exact ⟨⟨h1, h2, i1⟩, i2⟩
/-- A state whose row comes next was met. -/
theorem wayA_met {hs : List Nat} {rows : List (List Nat)} {q : Nat} (hq : q < rows.length) (hh : hs ≠ []) (hr : (rows.getD q []).length = hs.length) (hok : okC (rowsT hs 0 rows) 1) : q < (wayA hs rows q 0).length := by
  have h := rowsT_append hs (rows.take q) (rows.drop q) 0
  rw [List.take_append_drop, List.length_take, Nat.zero_add, Nat.min_eq_left (Nat.le_of_lt hq)] at h
  rw [h] at hok
  obtain ⟨-, h2⟩ := okC_split _ _ _ hok
  have hd : rows.drop q = rows.getD q [] :: rows.drop (q + 1) := by
    rw [List.drop_eq_getElem_cons hq, List.getD_eq_getElem?_getD, List.getElem?_eq_getElem hq]
    rfl
  have hlen : (wayA hs rows q 0).length = cntT (rowsT hs 0 (rows.take q)) 1 := by
    unfold wayA preT
    rw [wyT_len]
    simp [rowT]
  rw [hlen]
  rw [hd, rowsT] at h2
  cases hs with
  | nil => exact absurd rfl hh
  | cons x hs =>
    cases hg : rows.getD q [] with
    | nil => rw [hg] at hr; simp at hr
    | cons y row =>
      rw [hg] at h2
      exact h2.1
/-- The way of a state that was met is told by the ways so far. -/
theorem wayW_pre {a r : List (Nat × Nat)} (hp : ∀ j x, 1 ≤ j → (a ++ r)[j]? = some x → x.1 < j) : ∀ j, j < a.length → wayW (a ++ r) j = wayW a j := by
  have hpa : ∀ j x, 1 ≤ j → a[j]? = some x → x.1 < j := fun j x hj hx => hp j x hj (by
    rw [List.getElem?_append_left (List.getElem?_eq_some_iff.1 hx).1]; exact hx)
  intro j
  induction j using Nat.strongRecOn with
  | _ j ih =>
    intro hj
    by_cases e : j = 0
    · subst e; simp [wayW, spW]
    · obtain ⟨⟨p, y⟩, hx⟩ : ∃ x, a[j]? = some x := ⟨_, List.getElem?_eq_getElem hj⟩
      have hx2 : (a ++ r)[j]? = some (p, y) := by rw [List.getElem?_append_left hj]; exact hx
      have := hpa j _ (by omega) hx
      simp only at this
      rw [wayW_step hp (by omega) hx2, wayW_step hpa (by omega) hx, ih p this (by omega)]
theorem wayA_le {hs : List Nat} {rows : List (List Nat)} {q : Nat} (hr : (rows.getD q []).length = hs.length) : ∀ d i, i + d = hs.length → (wayA hs rows q i).length ≤ (wayA hs rows q hs.length).length := by
  intro d
  induction d with
  | zero => intro i h; rw [← h]; exact Nat.le_refl _
  | succ d ih =>
    intro i h
    have h2 := ih (i + 1) (by omega)
    have h3 : (wayA hs rows q i).length ≤ (wayA hs rows q (i + 1)).length := by
      rw [wayA_step (List.getElem?_eq_getElem (show i < hs.length by omega)) (List.getElem?_eq_getElem (show i < (rows.getD q []).length by omega))]
      split
      · simp
      · exact Nat.le_refl _
    omega
theorem wayA_len {hs : List Nat} {rows : List (List Nat)} {q i : Nat} (hq : q < rows.length) (hr : (rows.getD q []).length = hs.length) (hi : i ≤ hs.length) : (wayA hs rows q i).length ≤ (wyT (rowsT hs 0 rows) [(0, 0)]).length := by
  have h1 := wayA_le hr (hs.length - i) i (by omega)
  obtain ⟨r, h2⟩ := wayA_pre (hs := hs) (rows := rows) (q := q + 1) (by omega)
  rw [← wayA_next hq hr] at h1
  rw [h2, List.length_append]
  omega
end Go.Proofs.YtjcfnmjjkadaeaaGreatDoor
/- auto.Shortest: the way of the first state that is Yes. -/
namespace Go.Proofs.YtjcfnmjjkadaeaaGreatDoor
set_option maxRecDepth 100000
set_option linter.unusedSimpArgs false
set_option linter.unusedVariables false
open Go.RowKit Go.Shelf

/-- What Shortest answers. -/
def ShortP (ws : List (Nat × Nat)) (ys : List Bool) (n : Nat) (r : Ending) : Prop :=
  (∃ q, q < n ∧ ys.getD q false = true ∧ (∀ j, j < q → ys.getD j false = false) ∧ r = .returned (.tuple #[.string (strB (wayW ws q)), .bool true])) ∨
  ((∀ j, j < n → ys.getD j false = false) ∧ r = .returned (.tuple #[.string ⟨#[]⟩, .bool false]))
set_option maxHeartbeats 4000000 in
theorem shortest_any (p : Nat) (hs : List Nat) (f : Nat → Nat) (rows : List (List Nat)) (ys : List Bool) (dn : Int) (vl : Value) (w : World) (h : DfaAt w p hs f rows ys dn vl) (hh : hs ≠ []) (hb : ∀ x ∈ hs, x < 256)
    (hr : ∀ q, q < rows.length → (rows.getD q []).length = hs.length) (hf : ∀ i, i < hs.length → f (hs.getD i 0) = i) (hy : ys.length = rows.length) (hn : rows.length ≤ 1000000) (hl : hs.length ≤ 256)
    (ws : List (Nat × Nat)) (hm : MetT (rowsT hs 0 rows) ws) (hok : okC (rowsT hs 0 rows) 1) (hwl : ws.length = rows.length)
    (HH : ∀ W, Below w.heap.size w W → Calls Tryz.prog 15 #[PT p] W fun e w' => ∃ v', e = .returned v' ∧ OwnG w' W.heap.size 5 (.int .u8 0) v' (byteV hs) ∧ Below W.heap.size W w') :
    Calls Tryz.prog 35 #[PT p] w fun e w' => ShortP ws ys rows.length e ∧ Below w.heap.size w w' := by
  obtain ⟨n, hn0⟩ : ∃ n, rows.length = n := ⟨_, rfl⟩
  have HN := hide hn0
  have HDF := hide h
  have HHB := hide hb
  have HR := hide hr
  have HF := hide hf
  have HYL := hide hy
  have HM := hide hm
  have HOK := hide hok
  have HWL := hide hwl
  have HHH := hide (HH w (Below.refl _ _))
  have HNE := hide hh
  have HLN := hide hl
  rw [hn0] at hn ⊢
  clear h hb hr hf hy hm hok hwl HH hh hl hn0
  unfold PT at HHH ⊢
  go_enter Tryz.func35, Tryz.ntmps35
  go_wp2_with fail
  refine HHH.out.mono ?_
  rintro e w1 ⟨hv, rfl, ho1, hb1⟩
  have hbl : (byteV hs).length = hs.length := by simp [byteV]
  have hpos : 0 < hs.length := List.length_pos_iff.2 HNE.out
  obtain ⟨hg, hc, hcur, rfl, hblk, hcu⟩ : ∃ g cap cur, hv = .slice (some ⟨g, 0, none⟩) hs.length cap ∧ Blk w1 g cur 5 ∧ ∀ (j : Nat) x, hs[j]? = some x → cur[j]? = some (.int .u8 x) := by
    rcases ho1 with ⟨-, e⟩ | ⟨g, cap, cur, e, -, h2, -, -, h5⟩
    · rw [e] at hbl; simp at hbl; omega
    · refine ⟨g, cap, cur, by rw [e, hbl], h2, fun j x hx => ?_⟩
      rw [← Array.getElem?_toList, h5, List.getElem?_append_left (by rw [hbl]; exact (List.getElem?_eq_some_iff.1 hx).1)]
      simp [byteV, hx]
  have HCL := hide hcu
  have HB1 := hide hb1
  have hhl := HLN.out
  clear ho1 hb1 HHH hcu hbl hpos
  obtain ⟨w2, hw2⟩ : ∃ w2, w1.alloc (.cells #[.int .i64 0, .int .u8 0] 116) = w2 := ⟨_, rfl⟩
  have hb2 : Below w1.heap.size w1 w2 := by rw [← hw2]; exact (Below.refl _ _).alloc (Nat.le_refl _) _
  have HB2 : Hid (Below w.heap.size w w2) := HB1.out.trans (hb2.mono HB1.out.size)
  have HK2 : Hid (Blk w2 hg hcur 5) := hblk.below hb2 hblk.lt
  clear hblk
  have HW2 : Hid (OwnS wayS w2 w.heap.size (.slice (some ⟨w1.heap.size, 0, none⟩) 1 1) [(0, 0)]) :=
    .inr ⟨w1.heap.size, 1, #[.int .i64 0, .int .u8 0], rfl, HB1.out.size, by rw [← hw2]; exact Blk.newAt rfl _ _, Nat.le_refl _, by unfold maxLen; decide, rfl, rfl, fun j x hj hx => by
      simp [wayS] at hj
      rw [Array.getElem?_eq_none (by simp; omega)] at hx
      cases hx⟩
  have HLE := hide (dlen_any p hs f rows ys dn vl w2 (HDF.out.keep HB2.out))
  rw [HN.out] at HLE
  unfold PT at HLE
  clear hb2
  go_wp2_with fail
  refine HLE.out.mono ?_
  rintro e w3 ⟨rfl, rfl⟩
  clear hw2 HLE
  go_wp2
  go_loopw [5, 15] (fun wv qv wr => ∃ k : Nat, qv = .int .i64 k ∧ k ≤ n ∧ Hid (OwnS wayS wr w.heap.size wv (wayA hs rows k 0)) ∧ Hid (∀ j, j < k → ys.getD j false = false) ∧ Hid (Blk wr hg hcur 5) ∧ Hid (Below w.heap.size w wr)) (fun _ qv _ => n - (intOf qv).toNat)
  case atStart =>
    refine ⟨0, rfl, Nat.zero_le _, ?_, fun j hj => absurd hj (Nat.not_lt_zero _), HK2.out, HB2.out⟩
    show OwnS _ _ _ _ _
    rw [wayA_zero]; exact HW2.out
  case round =>
    obtain ⟨k, rfl, hk, HOW, HNO, HKH, HBW⟩ := hrel
    obtain ⟨wa, wc, rfl, -, -⟩ := HOW.out.slice
    by_cases hkn : k < n
    · have dk : decide ((k : Int) < (n : Int)) = true := by simp; omega
      have hkr : k < rows.length := by rw [HN.out]; exact hkn
      have HYS := hide (dyes_any p hs f rows ys dn vl k wr (HDF.out.keep HBW.out) hkr HYL.out)
      unfold PT at HYS
      obtain ⟨yk, hyk⟩ : ∃ yk, ys.getD k false = yk := ⟨_, rfl⟩
      rw [hyk] at HYS
      have HYK := hide hyk
      clear hyk
      go_wp2_with fail
      refine HYS.out.mono ?_
      rintro e w4 ⟨rfl, rfl⟩
      clear HYS
      cases yk with
      | true =>
        obtain ⟨r, hpre⟩ := wayA_pre (hs := hs) (rows := rows) (q := k) (by omega)
        have hws : ws = wayA hs rows k 0 ++ r := HM.out.ways.trans hpre
        have hmet := wayA_met hkr HNE.out (HR.out k hkr) HOK.out
        have hback : ∀ j x, 1 ≤ j → (wayA hs rows k 0)[j]? = some x → x.1 < j := fun j x hj hx => HM.out.back j x hj (by
          rw [hws, List.getElem?_append_left (List.getElem?_eq_some_iff.1 hx).1]; exact hx)
        have hle : (wayA hs rows k 0).length ≤ 1000000 := by
          have := wayA_len (i := 0) hkr (HR.out k hkr) (Nat.zero_le _)
          rw [← HM.out.ways, HWL.out, HN.out] at this
          omega
        have HSP := hide (spelt_any _ _ _ k w4 HOW.out hmet hback hle)
        have HWE : Hid (wayW (wayA hs rows k 0) k = wayW ws k) := by
          show _ = _
          rw [hws]
          exact (wayW_pre (by rw [← hws]; exact HM.out.back) k hmet).symm
        clear hpre hws hmet hback hle
        go_wp2_with fail
        refine HSP.out.mono ?_
        rintro e w5 ⟨rfl, hb5⟩
        have HB5 : Hid (Below w.heap.size w w5) := HBW.out.trans (hb5.mono HBW.out.size)
        clear HSP hb5
        go_wp2
        refine bodyPost_ret (v := .tuple #[.string (strB (wayW (wayA hs rows k 0) k)), .bool true]) (by simp [results, Tryz.results35, go_sem]) rfl ⟨.inl ⟨k, hkn, HYK.out, HNO.out, by rw [HWE.out]⟩, HB5.out⟩
      | false =>
        go_wp2
        go_loopw [5, 26] (fun wv iv wr => ∃ i : Nat, iv = .int .i64 i ∧ i ≤ hs.length ∧ Hid (OwnS wayS wr w.heap.size wv (wayA hs rows k i)) ∧ Hid (Blk wr hg hcur 5) ∧ Hid (Below w.heap.size w wr)) (fun _ iv _ => hs.length - (intOf iv).toNat)
        case atStart => exact ⟨0, rfl, Nat.zero_le _, HOW.out, HKH.out, HBW.out⟩
        case round =>
          obtain ⟨i, rfl, hi, HOW5, HKH5, HBW5⟩ := hrel
          obtain ⟨wa5, wc5, rfl, -, -⟩ := HOW5.out.slice
          by_cases hin : i < hs.length
          · have di : decide ((i : Int) < (hs.length : Int)) = true := by simp; omega
            obtain ⟨x, hx⟩ : ∃ x, hs[i]? = some x := ⟨_, List.getElem?_eq_getElem hin⟩
            have hx256 := HHB.out x (List.mem_of_getElem? hx)
            obtain ⟨en, hen⟩ : ∃ en, (rows.getD k [])[i]? = some en := ⟨_, List.getElem?_eq_getElem (by rw [HR.out k hkr]; exact hin)⟩
            have hfx : f x = i := by
              have := HF.out i hin
              rwa [show hs.getD i 0 = x from by rw [List.getD_eq_getElem?_getD, hx]; rfl] at this
            have hst := dstep_any p hs f rows ys dn vl k x wr (HDF.out.keep HBW5.out) hkr hx256 (by rw [hfx, HR.out k hkr]; exact hin)
            rw [hfx, show (rows.getD k []).getD i 0 = en from by rw [List.getD_eq_getElem?_getD, hen]; rfl] at hst
            have HST := hide hst
            have hcl : wr.cell? ⟨hg, i, none⟩ = some (.int .u8 x) := (HKH5.out.cell i).trans (HCL.out i x hx)
            have HWS := hide (wayA_step hx hen)
            have hwl2 : (wayA hs rows k i).length ≤ 1000000 := by
              have := wayA_len hkr (HR.out k hkr) hi
              rw [← HM.out.ways, HWL.out, HN.out] at this
              omega
            unfold PT at HST
            clear hst hx hen hfx
            go_wp2_with fail
            refine HST.out.mono ?_
            rintro e w6 ⟨rfl, hb6⟩
            have HB6 := hide hb6
            have HK6 : Hid (Blk w6 hg hcur 5) := HKH5.out.below hb6 HKH5.out.lt
            have HBW6 : Hid (Below w.heap.size w w6) := HBW5.out.trans (hb6.mono HBW5.out.size)
            have HOW6 := hide (HOW5.out.keep hb6)
            clear HST hb6 hcl
            by_cases hee : en = (wayA hs rows k i).length
            · have dee : ((en : Int) == ((wayA hs rows k i).length : Int)) = true := by simp [hee]
              have HEE := hide hee
              clear hee
              obtain ⟨w7, hw7⟩ : ∃ w7, w6.alloc (.cells #[.int .i64 k, .int .u8 x] 116) = w7 := ⟨_, rfl⟩
              have hb7 : Below w6.heap.size w6 w7 := by rw [← hw7]; exact (Below.refl _ _).alloc (Nat.le_refl _) _
              have hk7 : Blk w7 w6.heap.size #[.int .i64 k, .int .u8 x] 116 := by rw [← hw7]; exact Blk.newAt rfl _ _
              obtain ⟨v8, w8, hr8, ho8, ha8⟩ := run_appendRow (S := wayS) (W := w7) (base := w.heap.size) (v := .slice wa5 (wayA hs rows k i).length wc5) (l := wayA hs rows k i) 117 117 (.agg #[.int .i64 0, .int .u8 0]) 16 Tryz.underlying117 (by kernel_rfl) rfl (by decide) (HOW6.out.keep hb7) ⟨w6.heap.size, 0, none⟩ 1 (k, x) (fun j u hu => by
                rw [Go.WideShapes.add_plain, Nat.zero_add, hk7.cell, ← hu]; simp [wayS]) (by omega) (Nat.le_trans HBW6.out.size hb7.size)
              obtain ⟨a8, cp8, rfl, -, -⟩ := ho8.slice
              have HO8 := hide ho8
              have HBW8 : Hid (Below w.heap.size w w8) := (HBW6.out.trans (hb7.mono HBW6.out.size)).trans ha8.below
              have HK8 : Hid (Blk w8 hg hcur 5) := ha8.block _ _ _ (HK6.out.below hb7 HK6.out.lt) (by decide)
              clear hb7 hk7 ho8 ha8
              go_wp2_with (refine wpList_append_run rfl _ _ _ rfl _ _ _ rfl rfl hr8 ?_)
              refine ⟨⟨i + 1, by go_num, hin, ?_, HK8, HBW8⟩, by simp [intOf]; omega⟩
              show OwnS _ _ _ _ _
              rw [HWS.out, if_pos HEE.out]
              have := HO8.out
              rw [List.length_append] at this
              exact this
            · have dee : ((en : Int) == ((wayA hs rows k i).length : Int)) = false := by simp; omega
              have HEE := hide hee
              clear hee
              go_wp2
              refine ⟨⟨i + 1, by go_num, hin, ?_, HK6, HBW6⟩, by simp [intOf]; omega⟩
              show OwnS _ _ _ _ _
              rw [HWS.out, if_neg HEE.out]
              exact HOW6.out
          · have di : decide ((i : Int) < (hs.length : Int)) = false := by simp; omega
            have hie : i = hs.length := by omega
            have HIE := hide hie
            clear hie
            go_wp2
            refine ⟨⟨k + 1, by go_num, hkn, ?_, ?_, HKH5, HBW5⟩, by simp [intOf]; omega⟩
            · show OwnS _ _ _ _ _
              rw [wayA_next hkr (HR.out k hkr), ← HIE.out]
              exact HOW5.out
            · intro j hj
              by_cases e : j = k
              · rw [e]; exact HYK.out
              · exact HNO.out j (by omega)
    · have dk : decide ((k : Int) < (n : Int)) = false := by simp; omega
      have hke : k = n := by omega
      have HKE := hide hke
      clear hke
      go_wp2
      refine bodyPost_ret (v := .tuple #[.string ⟨#[]⟩, .bool false]) (by simp [results, Tryz.results35, go_sem]) rfl ⟨.inr ⟨by rw [← HKE.out]; exact HNO.out, rfl⟩, HBW.out⟩
end Go.Proofs.YtjcfnmjjkadaeaaGreatDoor
/- What Shortest answers of Build's states: the least text of the expression. Mathematics alone. -/
namespace Go.Proofs.YtjcfnmjjkadaeaaGreatDoor
set_option maxRecDepth 100000
set_option linter.unusedSimpArgs false
set_option linter.unusedVariables false

/-- The part of a byte. -/
theorem part_at {l pl : List (BitVec 256)} (h : IsPart l pl) {b : Nat} (hb : b < 256) : ∃ hk : idxF pl pl.length b < pl.length, (pl[idxF pl pl.length b]).getLsbD b = true := by
  obtain ⟨p, hp, hpb⟩ := h.cov b hb
  obtain ⟨i, hi, rfl⟩ := List.mem_iff_getElem.1 hp
  obtain ⟨h1, h2⟩ := idxF_has (pl := pl) (b := b) pl.length (Nat.le_refl _) ⟨i, hi, by rw [List.getD_eq_getElem?_getD, List.getElem?_eq_getElem hi]; exact hpb⟩
  refine ⟨h1, ?_⟩
  rw [List.getD_eq_getElem?_getD, List.getElem?_eq_getElem h1] at h2
  exact h2
theorem head_getD {pl : List (BitVec 256)} {i : Nat} (hi : i < pl.length) : (pl.map least).getD i 0 = least pl[i] := by simp [List.getD_eq_getElem?_getD, hi]
/-- The heads' own numbers. -/
theorem idxF_head {l pl : List (BitVec 256)} (h : IsPart l pl) {i : Nat} (hi : i < pl.length) : idxF pl pl.length (least pl[i]) = i := by
  obtain ⟨hk, h1⟩ := part_at h (least_lt pl[i])
  have hm := least_mem (h.mem _ (List.getElem_mem hi)).1
  have e := h.same (List.getElem_mem hk) (List.getElem_mem hi) (least_lt pl[i]) h1 hm.1
  exact (List.getElem?_inj hk h.nodup).1 (by rw [List.getElem?_eq_getElem hk, List.getElem?_eq_getElem hi, e])
theorem heads_lt {l pl : List (BitVec 256)} (h : IsPart l pl) (hs : pl.Pairwise (fun x y => least x ≤ least y)) : (pl.map least).Pairwise (· < ·) := by
  rw [List.pairwise_map]
  refine (hs.and h.nodup).imp_of_mem fun {p q} hp hq ⟨h1, h2⟩ => ?_
  have : least p ≠ least q := fun e => h2 (h.least_inj hp hq e)
  omega
theorem short_lang {r : RE} {pl : List (BitVec 256)} {g : Int} {s : Bs} {rows : List (List Nat)} (hok : DfaOk r pl s.S rows) (hsort : pl.Pairwise (fun x y => least x ≤ least y)) (hb : bldF g (pl.map least) r 0 = (s, some rows)) {e : Ending}
    (he : ShortP (wyT (rowsT (pl.map least) 0 rows) [(0, 0)]) (s.S.map RE.null) rows.length e) :
    (∃ w, By w ∧ r.lang w ∧ (∀ u, By u → r.lang u → leW w u) ∧ e = .returned (.tuple #[.string (strB w), .bool true])) ∨ ((∀ u, By u → ¬ r.lang u) ∧ e = .returned (.tuple #[.string ⟨#[]⟩, .bool false])) := by
  have hp := hok.part
  have hlen := hok.len
  obtain ⟨hm, hml⟩ := bldF_metT hb (heads_lt hp hsort) (fun x hx => by
    obtain ⟨p, -, rfl⟩ := List.mem_map.1 hx
    exact least_lt p)
  have hr : ∀ q, q < rows.length → (rows.getD q []).length = (pl.map least).length := fun q hq => (hok.rows.2 q hq).len
  have hf : ∀ i, i < (pl.map least).length → idxF pl pl.length ((pl.map least).getD i 0) = i := fun i hi => by
    have hi : i < pl.length := by simpa using hi
    rw [head_getD hi]; exact idxF_head hp hi
  have hst := rowsT_st hr hf
  obtain ⟨st, hst0⟩ : ∃ st : Nat → Nat → Nat, st = fun q b => (rows.getD q []).getD (idxF pl pl.length b) 0 := ⟨_, rfl⟩
  rw [← hst0] at hst
  have hrun : ∀ w, By w → runN rows (idxF pl pl.length) 0 w = (runS st 0 w : Nat) ∧ runS st 0 w < rows.length := by
    refine list_snoc (P := fun w => By w → runN rows (idxF pl pl.length) 0 w = (runS st 0 w : Nat) ∧ runS st 0 w < rows.length) ?_ ?_
    · intro _; exact ⟨rfl, by have := hok.pos; show 0 < rows.length; omega⟩
    · intro w x ih hw
      obtain ⟨i1, i2⟩ := ih fun y hy => hw y (by simp [hy])
      have hx : x < 256 := hw x (by simp)
      obtain ⟨q', e1, e2, -⟩ := hok.step (q := runS st 0 w) (by omega) hx
      have e3 : stepN rows (idxF pl pl.length) (runS st 0 w : Nat) x = (st (runS st 0 w) x : Nat) := by
        unfold stepN
        rw [if_pos (by omega), hst0]
        simp
      have e4 : st (runS st 0 w) x = q' := by rw [e3] at e1; omega
      rw [runN_append, i1, runS_snoc]
      refine ⟨e3, ?_⟩
      rw [e4]; omega
  have hyes : ∀ w, By w → ((s.S.map RE.null).getD (runS st 0 w) false = true ↔ r.lang w) := fun w hw => by
    obtain ⟨e1, e2⟩ := hrun w hw
    rw [← hok.match hw, e1]
    unfold yesN
    rw [decide_eq_true (by omega), Bool.true_and, Int.toNat_natCast]
    have hl : runS st 0 w < s.S.length := by omega
    simp [List.getD_eq_getElem?_getD, hl]
  have hby : ∀ q, q < rows.length → By (wayW (wyT (rowsT (pl.map least) 0 rows) [(0, 0)]) q) := fun q hq x hx => by
    obtain ⟨p, -, rfl⟩ := List.mem_map.1 ((hm.leads hst q (by omega)).2 x hx)
    exact least_lt p
  rcases he with ⟨q, hq, hy, hno, he⟩ | ⟨hno, he⟩
  · left
    obtain ⟨k1, k2⟩ := hm.shortest hst (by omega) (fun b => (pl.map least).getD (idxF pl pl.length b) 0) (fun b hb => by
      obtain ⟨hk, h1⟩ := part_at hp hb
      refine ⟨?_, ?_, fun q hq => ?_⟩
      · rw [head_getD hk]
        exact List.mem_map.2 ⟨_, List.getElem_mem hk, rfl⟩
      · rw [head_getD hk]
        exact (least_mem (hp.mem _ (List.getElem_mem hk)).1).2 b hb h1
      · rw [hst0]
        simp only
        rw [hf _ (by simpa using hk)]) (ys := fun q => (s.S.map RE.null).getD q false) hq hy hno
    exact ⟨_, hby q hq, (hyes _ (hby q hq)).1 k1, fun u hu hl => k2 u hu ((hyes u hu).2 hl), he⟩
  · right
    refine ⟨fun u hu hl => ?_, he⟩
    have h1 := (hyes u hu).2 hl
    rw [hno _ (hrun u hu).2] at h1
    cases h1
end Go.Proofs.YtjcfnmjjkadaeaaGreatDoor
