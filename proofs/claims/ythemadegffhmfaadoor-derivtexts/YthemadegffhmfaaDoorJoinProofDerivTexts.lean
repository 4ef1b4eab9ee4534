/- DerivTexts answers true for every shape, byte and row of numbers: what stands behind a byte has just those texts, and Match tells just the texts. Conditions: the table of math/bits holds what its initialiser lays (the card ties that to the program's text). -/
/- Texts of this claim put together: MathBd, MathBd2, MathBd3, MathBd4, MathBd5, ShF, ReP, TxA, TxB, TxC, TxD, TxE, SomeInts, LawDerivTexts, ProofDerivTexts. -/
import Derived.Test.YthemadegffhmfaaDoorJoinDvE
import Derived.Test.YthemadegffhmfaaDoorJoinDvC
import Derived.Test.YthemadegffhmfaaDoorJoinLawHead5
import Derived.Test.YthemadegffhmfaaDoorJoinOpenS
import Derived.Test.YthemadegffhmfaaDoorJoinReO
import Derived.Test.YthemadegffhmfaaDoorCards
import Derived.Test.YthemadegffhmfaaDoorTie
/- How great what stands behind many bytes can be: the ways of a row multiply by so many at most, byte by byte. -/
namespace Go.Proofs.YthemadegffhmfaaDoor
set_option maxRecDepth 100000
set_option linter.unusedSimpArgs false
set_option linter.unusedVariables false
open Go.RowKit

def mx : List Nat → Nat
  | [] => 0
  | x :: l => max x (mx l)
theorem mx_le {l : List Nat} {n : Nat} (h : ∀ x ∈ l, x ≤ n) : mx l ≤ n := by
  induction l with
  | nil => exact Nat.zero_le _
  | cons x l ih => exact Nat.max_le.2 ⟨h x (by simp), ih fun y hy => h y (by simp [hy])⟩
theorem le_mx {l : List Nat} {x : Nat} (h : x ∈ l) : x ≤ mx l := by
  induction l with
  | nil => simp at h
  | cons y l ih =>
    rcases List.mem_cons.1 h with rfl | h
    · exact Nat.le_max_left _ _
    · exact Nat.le_trans (ih h) (Nat.le_max_right _ _)

/-- How many parts of a row are no classes. -/
def RE.nl : RE → Nat
  | .mk o _ ks => if o ≤ 2 then 0 else if o = 3 then (ks.map fun k => k.nl).sum else 1
def nlL (l : List RE) : Nat := (l.map RE.nl).sum
theorem RE.nl_mk (o : Nat) (s : BitVec 256) (ks : List RE) : (RE.mk o s ks).nl = if o ≤ 2 then 0 else if o = 3 then nlL ks else 1 := by rw [RE.nl, nlL]
/-- Of pairs: how many, and more. -/
def Yr : List (Nat × Nat) → Nat
  | [] => 0
  | e :: l => max (e.2 + (l.map Prod.fst).sum) (Yr l)
/-- How many parts that are no classes can stand in a row behind bytes. -/
def RE.Y : RE → Nat
  | .mk o _ ks =>
    let ys := ks.map fun k => (k.nl, k.Y)
    if o ≤ 2 then 0 else if o = 3 then Yr ys else if o = 5 then mx (ys.map Prod.snd) + 1 else max 1 (mx (ys.map Prod.snd))
def YL : List RE → Nat
  | [] => 0
  | e :: l => max (e.Y + nlL l) (YL l)
theorem Yr_map (l : List RE) : Yr (l.map fun k => (k.nl, k.Y)) = YL l := by
  induction l with
  | nil => rfl
  | cons e l ih =>
    rw [List.map_cons, Yr, YL, ih]
    simp only [List.map_map]
    rfl
def mxY (l : List RE) : Nat := mx (l.map RE.Y)
theorem RE.Y_mk (o : Nat) (s : BitVec 256) (ks : List RE) : (RE.mk o s ks).Y = if o ≤ 2 then 0 else if o = 3 then YL ks else if o = 5 then mxY ks + 1 else max 1 (mxY ks) := by
  rw [RE.Y]
  simp only [Yr_map, List.map_map]
  rfl
/-- How many ways one way becomes. -/
def Vr : Nat → List (Nat × Nat) → Nat
  | _, [] => 0
  | p, e :: l => max (e.2 + p) (Vr (p + e.1) l)
def RE.V : RE → Nat
  | .mk o _ ks =>
    let vs := ks.map fun k => (k.nl, k.V)
    if o ≤ 2 then 0 else if o = 3 then Vr 0 vs else if o = 5 then mx (vs.map Prod.snd) + 1 else mx (vs.map Prod.snd)
def VL : Nat → List RE → Nat
  | _, [] => 0
  | p, e :: l => max (e.V + p) (VL (p + e.nl) l)
theorem Vr_map : ∀ (l : List RE) (p : Nat), Vr p (l.map fun k => (k.nl, k.V)) = VL p l
  | [], _ => rfl
  | e :: l, p => by rw [List.map_cons, Vr, VL, Vr_map l]
def mxV (l : List RE) : Nat := mx (l.map RE.V)
theorem RE.V_mk (o : Nat) (s : BitVec 256) (ks : List RE) : (RE.mk o s ks).V = if o ≤ 2 then 0 else if o = 3 then VL 0 ks else if o = 5 then mxV ks + 1 else mxV ks := by
  rw [RE.V]
  simp only [Vr_map, List.map_map]
  rfl
/-- How many, at any time later. -/
def Xr : Nat → List (Nat × Nat × Nat × Nat) → Nat
  | _, [] => 0
  | q, e :: l => max (max e.2.2.2 (e.2.2.1 + q)) (Xr (max (q + e.1) e.2.1) l)
def RE.X : RE → Nat
  | .mk o _ ks =>
    let xs := ks.map fun k => (k.nl, k.Y, k.V, k.X)
    if o ≤ 2 then 0 else if o = 3 then Xr 0 xs else if o = 5 then max (mx (xs.map fun e => e.2.2.2)) (mxV ks + 1 + mxY ks) else max 1 (mx (xs.map fun e => e.2.2.2))
def XL : Nat → List RE → Nat
  | _, [] => 0
  | q, e :: l => max (max e.X (e.V + q)) (XL (max (q + e.nl) e.Y) l)
theorem Xr_map : ∀ (l : List RE) (q : Nat), Xr q (l.map fun k => (k.nl, k.Y, k.V, k.X)) = XL q l
  | [], _ => rfl
  | e :: l, q => by rw [List.map_cons, Xr, XL, Xr_map l]
def mxX (l : List RE) : Nat := mx (l.map RE.X)
theorem RE.X_mk (o : Nat) (s : BitVec 256) (ks : List RE) : (RE.mk o s ks).X = if o ≤ 2 then 0 else if o = 3 then XL 0 ks else if o = 5 then max (mxX ks) (mxV ks + 1 + mxY ks) else max 1 (mxX ks) := by
  rw [RE.X]
  simp only [Xr_map, List.map_map]
  rfl
/-- How great, with room for what ways cost. -/
def RE.P : RE → Nat
  | .mk o _ ks => if o = 2 then 4 else if o = 1 then 2 else if o = 5 then 1 + (ks.map fun k => k.P).sum else (ks.map fun k => k.P).sum
def PL (l : List RE) : Nat := (l.map RE.P).sum
theorem RE.P_mk (o : Nat) (s : BitVec 256) (ks : List RE) : (RE.mk o s ks).P = if o = 2 then 4 else if o = 1 then 2 else if o = 5 then 1 + PL ks else PL ks := by rw [RE.P, PL]
/-- How many parts are no classes and no rows. -/
def RE.N : RE → Nat
  | .mk o _ ks => if o ≤ 2 then 0 else if o = 3 then (ks.map fun k => k.N).sum else 1 + (ks.map fun k => k.N).sum
def NL (l : List RE) : Nat := (l.map RE.N).sum
theorem RE.N_mk (o : Nat) (s : BitVec 256) (ks : List RE) : (RE.mk o s ks).N = if o ≤ 2 then 0 else if o = 3 then NL ks else 1 + NL ks := by rw [RE.N, NL]

theorem RE.nl_op (r : RE) : r.nl = if r.op ≤ 2 then 0 else if r.op = 3 then nlL r.kids else 1 := by cases r; exact RE.nl_mk _ _ _
theorem RE.Y_op (r : RE) : r.Y = if r.op ≤ 2 then 0 else if r.op = 3 then YL r.kids else if r.op = 5 then mxY r.kids + 1 else max 1 (mxY r.kids) := by cases r; exact RE.Y_mk _ _ _
theorem RE.V_op (r : RE) : r.V = if r.op ≤ 2 then 0 else if r.op = 3 then VL 0 r.kids else if r.op = 5 then mxV r.kids + 1 else mxV r.kids := by cases r; exact RE.V_mk _ _ _
theorem RE.X_op (r : RE) : r.X = if r.op ≤ 2 then 0 else if r.op = 3 then XL 0 r.kids else if r.op = 5 then max (mxX r.kids) (mxV r.kids + 1 + mxY r.kids) else max 1 (mxX r.kids) := by cases r; exact RE.X_mk _ _ _
theorem RE.P_op (r : RE) : r.P = if r.op = 2 then 4 else if r.op = 1 then 2 else if r.op = 5 then 1 + PL r.kids else PL r.kids := by cases r; exact RE.P_mk _ _ _
theorem nlL_cons (x : RE) (l : List RE) : nlL (x :: l) = x.nl + nlL l := by simp [nlL]
theorem nlL_append (a b : List RE) : nlL (a ++ b) = nlL a + nlL b := by simp [nlL]
theorem PL_cons (x : RE) (l : List RE) : PL (x :: l) = x.P + PL l := by simp [PL]
theorem PL_append (a b : List RE) : PL (a ++ b) = PL a + PL b := by simp [PL]
theorem NL_cons (x : RE) (l : List RE) : NL (x :: l) = x.N + NL l := by simp [NL]
theorem NL_append (a b : List RE) : NL (a ++ b) = NL a + NL b := by simp [NL]
theorem mxY_le {l : List RE} {n : Nat} (h : ∀ r ∈ l, r.Y ≤ n) : mxY l ≤ n := mx_le fun x hx => by obtain ⟨r, hr, rfl⟩ := List.mem_map.1 hx; exact h r hr
theorem le_mxY {l : List RE} {r : RE} (h : r ∈ l) : r.Y ≤ mxY l := le_mx (List.mem_map.2 ⟨r, h, rfl⟩)
theorem mxV_le {l : List RE} {n : Nat} (h : ∀ r ∈ l, r.V ≤ n) : mxV l ≤ n := mx_le fun x hx => by obtain ⟨r, hr, rfl⟩ := List.mem_map.1 hx; exact h r hr
theorem le_mxV {l : List RE} {r : RE} (h : r ∈ l) : r.V ≤ mxV l := le_mx (List.mem_map.2 ⟨r, h, rfl⟩)
theorem mxX_le {l : List RE} {n : Nat} (h : ∀ r ∈ l, r.X ≤ n) : mxX l ≤ n := mx_le fun x hx => by obtain ⟨r, hr, rfl⟩ := List.mem_map.1 hx; exact h r hr
theorem le_mxX {l : List RE} {r : RE} (h : r ∈ l) : r.X ≤ mxX l := le_mx (List.mem_map.2 ⟨r, h, rfl⟩)

/-! ## Y -/
theorem nl_YL (l : List RE) (h : ∀ r ∈ l, r.nl ≤ r.Y) : nlL l ≤ YL l := by
  induction l with
  | nil => simp [nlL, YL]
  | cons e l ih =>
    have h0 := h e (by simp)
    rw [nlL_cons, YL]
    exact Nat.le_trans (by omega) (Nat.le_max_left _ _)
theorem nl_Y (r : RE) : r.nl ≤ r.Y := by
  induction r using RE.ind with
  | h o s ks ih =>
    rw [RE.nl_mk, RE.Y_mk]
    split
    · omega
    · split
      · exact nl_YL ks ih
      · split
        · omega
        · exact Nat.le_max_left _ _
theorem nlL_YL (l : List RE) : nlL l ≤ YL l := nl_YL l fun r _ => nl_Y r
theorem YL_append (a b : List RE) : YL (a ++ b) ≤ max (YL a + nlL b) (YL b) := by
  induction a with
  | nil => exact Nat.le_max_right _ _
  | cons e a ih =>
    rw [List.cons_append, YL, YL, nlL_append]
    have h1 : e.Y + (nlL a + nlL b) ≤ max (e.Y + nlL a) (YL a) + nlL b := by
      have := Nat.le_max_left (e.Y + nlL a) (YL a); omega
    have h2 : YL a + nlL b ≤ max (e.Y + nlL a) (YL a) + nlL b := by
      have := Nat.le_max_right (e.Y + nlL a) (YL a); omega
    exact Nat.max_le.2 ⟨Nat.le_trans h1 (Nat.le_max_left _ _), Nat.le_trans ih (Nat.max_le.2 ⟨Nat.le_trans h2 (Nat.le_max_left _ _), Nat.le_max_right _ _⟩)⟩
theorem YL_tail (e : RE) (l : List RE) : YL l ≤ YL (e :: l) := Nat.le_max_right _ _
theorem YL_head (e : RE) (l : List RE) : e.Y + nlL l ≤ YL (e :: l) := Nat.le_max_left _ _
theorem YL_one (e : RE) : YL [e] = e.Y := by simp [YL, nlL]
theorem mem_YL {l : List RE} {r : RE} (h : r ∈ l) : r.Y ≤ YL l := by
  induction l with
  | nil => simp at h
  | cons e l ih =>
    rcases List.mem_cons.1 h with rfl | h
    · exact Nat.le_trans (Nat.le_add_right _ _) (YL_head _ _)
    · exact Nat.le_trans (ih h) (YL_tail _ _)
theorem catK_nl (r : RE) : nlL (catK r) = r.nl := by
  rw [r.nl_op]
  unfold catK
  by_cases h1 : r.op = 1
  · rw [if_pos h1, if_pos (by omega)]; rfl
  · rw [if_neg h1]
    by_cases h3 : r.op = 3
    · rw [if_pos h3, if_neg (by omega), if_pos h3]
    · rw [if_neg h3, nlL_cons, r.nl_op]; simp [nlL]
theorem catK_Y (r : RE) : YL (catK r) ≤ r.Y := by
  unfold catK
  by_cases h1 : r.op = 1
  · rw [if_pos h1]; exact Nat.zero_le _
  · rw [if_neg h1]
    by_cases h3 : r.op = 3
    · rw [if_pos h3, r.Y_op, if_neg (by omega), if_pos h3]; exact Nat.le_refl _
    · rw [if_neg h3, YL_one]; exact Nat.le_refl _
theorem catL_nl (l : List RE) : nlL (catL l) = nlL l := by
  induction l with
  | nil => rfl
  | cons e l ih =>
    rw [catL, List.flatMap_cons, nlL_append, catK_nl, nlL_cons]
    unfold catL at ih
    rw [ih]
theorem catL_Y (l : List RE) : YL (catL l) ≤ YL l := by
  induction l with
  | nil => exact Nat.le_refl _
  | cons e l ih =>
    have h1 := catL_nl l
    unfold catL at ih h1 ⊢
    rw [List.flatMap_cons]
    refine Nat.le_trans (YL_append _ _) (Nat.max_le.2 ⟨?_, Nat.le_trans ih (YL_tail _ _)⟩)
    rw [h1]
    have := catK_Y e
    exact Nat.le_trans (by omega) (YL_head _ _)
theorem Y_nothing : rNothing.Y = 0 := by unfold rNothing; rw [RE.Y_mk]; rfl
theorem Y_empty : rEmpty.Y = 0 := by unfold rEmpty; rw [RE.Y_mk]; rfl
theorem Y_one (s : BitVec 256) : (rOne s).Y = 0 := by
  unfold rOne
  split
  · exact Y_nothing
  · rw [RE.Y_mk]; rfl
theorem Y_join3 (l : List RE) : (rJoin 3 l).Y ≤ YL l := by
  by_cases h : l.length = 1
  · obtain ⟨x, rfl⟩ := List.length_eq_one_iff.1 h
    rw [rJoin_one, YL_one]; exact Nat.le_refl _
  · rw [rJoin_more 3 l h, RE.Y_mk, if_neg (by omega), if_pos rfl]; exact Nat.le_refl _
theorem Y_then (l : List RE) : (rThen l).Y ≤ YL l := by
  unfold rThen
  split
  · rw [Y_nothing]; exact Nat.zero_le _
  · split
    · rw [Y_empty]; exact Nat.zero_le _
    · exact Nat.le_trans (Y_join3 _) (catL_Y l)
/-- What is no more than so many, of all parts, is so of what they are put together to. -/
structure Mon (f : RE → Nat) (n : Nat) : Prop where
  low : ∀ o s ks, o ≤ 2 → f (.mk o s ks) = 0
  flat : ∀ o s ks, o = 4 ∨ o = 6 → f (.mk o s ks) ≤ n → ∀ k ∈ ks, f k ≤ n
  join : ∀ o s ks, o = 4 ∨ o = 6 ∨ o = 7 → (∀ k ∈ ks, f k ≤ n) → f (.mk o s ks) ≤ n
  all : f (rMany (rOne allB)) ≤ n
theorem Mon.one {f : RE → Nat} {n : Nat} (h : Mon f n) (s : BitVec 256) : f (rOne s) ≤ n := by
  unfold rOne
  split
  · unfold rNothing; rw [h.low 0 _ _ (by omega)]; exact Nat.zero_le _
  · rw [h.low 2 _ _ (by omega)]; exact Nat.zero_le _
theorem Mon.nothing {f : RE → Nat} {n : Nat} (h : Mon f n) : f rNothing ≤ n := by unfold rNothing; rw [h.low 0 _ _ (by omega)]; exact Nat.zero_le _
theorem Mon.inFlat {f : RE → Nat} {n o : Nat} (h : Mon f n) (ho : o = 4 ∨ o = 6) {l : List RE} (hl : ∀ r ∈ l, f r ≤ n) : ∀ k ∈ flatL o l, f k ≤ n := fun k hk => by
  obtain ⟨r, hr, hk⟩ := List.mem_flatMap.1 hk
  split at hk
  · rename_i e
    have h1 := hl r hr
    rw [r.eta] at h1
    exact h.flat _ _ _ (by rw [e]; exact ho) h1 k hk
  · simp at hk; subst hk; exact hl _ hr
theorem Mon.rjoin {f : RE → Nat} {n o : Nat} (h : Mon f n) (ho : o = 4 ∨ o = 6 ∨ o = 7) {l : List RE} (hl : ∀ r ∈ l, f r ≤ n) : f (rJoin o l) ≤ n := by
  by_cases h1 : l.length = 1
  · obtain ⟨x, rfl⟩ := List.length_eq_one_iff.1 h1
    rw [rJoin_one]; exact hl x (by simp)
  · rw [rJoin_more o l h1]; exact h.join _ _ _ ho hl
theorem mem_ord {l : List RE} (hw : ∀ y ∈ l, WfK y) (r : RE) : r ∈ ordL l ↔ r ∈ l := (ordL_spec l hw).2 r
theorem Mon.any {f : RE → Nat} {n : Nat} (h : Mon f n) {l : List RE} (hw : ∀ r ∈ l, Wf r) (hl : ∀ r ∈ l, f r ≤ n) : f (rAny l) ≤ n := by
  have hfl := h.inFlat (.inl rfl) hl
  have hwf := wf_flatL (.inl rfl) hw
  unfold rAny
  simp only
  generalize hk : (orKeep (flatL 4 l) ++ if orSet (flatL 4 l) = 0#256 then [] else [rOne (orSet (flatL 4 l))]) = ks
  have hks : ∀ k ∈ ks, f k ≤ n ∧ WfK k := fun k hkm => by
    rw [← hk] at hkm
    rcases List.mem_append.1 hkm with hkm | hkm
    · have h1 := (List.mem_filter.1 hkm).1
      exact ⟨hfl k h1, (hwf k h1).1.k⟩
    · split at hkm
      · simp at hkm
      · simp at hkm; subst hkm; exact ⟨h.one _, (wf_one _).k⟩
  by_cases h0 : ks = []
  · rw [if_pos h0]; exact h.nothing
  · rw [if_neg h0]
    exact h.rjoin (.inl rfl) fun r hr => (hks r ((mem_ord (fun y hy => (hks y hy).2) r).1 hr)).1
theorem Mon.both {f : RE → Nat} {n : Nat} (h : Mon f n) {l : List RE} (hw : ∀ r ∈ l, Wf r) (hl : ∀ r ∈ l, f r ≤ n) : f (rBoth l) ≤ n := by
  have hfl := h.inFlat (.inr rfl) hl
  have hwf := wf_flatL (.inr rfl) hw
  unfold rBoth
  simp only
  generalize hk : (orKeep (flatL 6 l) ++ if met (flatL 6 l) = true then [rOne (andSet (flatL 6 l))] else []) = ks
  have hks : ∀ k ∈ ks, f k ≤ n ∧ WfK k := fun k hkm => by
    rw [← hk] at hkm
    rcases List.mem_append.1 hkm with hkm | hkm
    · have h1 := (List.mem_filter.1 hkm).1
      exact ⟨hfl k h1, (hwf k h1).1.k⟩
    · split at hkm
      · simp at hkm; subst hkm; exact ⟨h.one _, (wf_one _).k⟩
      · simp at hkm
  split
  · exact h.nothing
  · split
    · exact h.nothing
    · by_cases h0 : ks = []
      · rw [if_pos h0]; exact h.all
      · rw [if_neg h0]
        exact h.rjoin (.inr (.inl rfl)) fun r hr => (hks r ((mem_ord (fun y hy => (hks y hy).2) r).1 hr)).1
theorem Mon.but {f : RE → Nat} {n : Nat} (h : Mon f n) {a b : RE} (ha : f a ≤ n) (hb : f b ≤ n) : f (rBut a b) ≤ n := by
  unfold rBut
  split
  · exact ha
  · split
    · exact h.one _
    · split
      · exact h.nothing
      · exact h.join _ _ _ (.inr (.inr rfl)) fun k hk => by simp at hk; rcases hk with rfl | rfl <;> assumption
theorem Mon.with {f : RE → Nat} {n o : Nat} {s : BitVec 256} {ks l : List RE} (h : Mon f n) (ho : o = 4 ∨ o = 6 ∨ o = 7) (h7 : o = 7 → l.length = 2) (hw : ∀ r ∈ l, Wf r) (hl : ∀ r ∈ l, f r ≤ n) : f (rWith (.mk o s ks) l) ≤ n := by
  rcases ho with rfl | rfl | rfl
  · rw [show rWith (.mk 4 s ks) l = rAny l from by simp [rWith, RE.op]]; exact h.any hw hl
  · rw [show rWith (.mk 6 s ks) l = rBoth l from by simp [rWith, RE.op]]; exact h.both hw hl
  · obtain ⟨x, y, rfl⟩ : ∃ x y, l = [x, y] := by
      match l, h7 rfl with
      | [x, y], _ => exact ⟨x, y, rfl⟩
    rw [show rWith (.mk 7 s ks) [x, y] = rBut x y from by simp [rWith, RE.op]]
    exact h.but (hl x (by simp)) (hl y (by simp))
theorem all_star : rMany (rOne allB) = .mk 5 0#256 [.mk 2 allB []] := by
  have h : allB ≠ 0#256 := by decide +kernel
  rw [rOne_set _ h]
  unfold rMany
  simp [RE.op]
theorem monY {n : Nat} (hn : 1 ≤ n) : Mon RE.Y n where
  low o s ks h := by rw [RE.Y_mk, if_pos h]
  flat o s ks ho h k hk := by
    rw [RE.Y_mk, if_neg (by omega), if_neg (by omega), if_neg (by omega)] at h
    exact Nat.le_trans (le_mxY hk) (Nat.le_trans (Nat.le_max_right _ _) h)
  join o s ks ho h := by
    rw [RE.Y_mk, if_neg (by omega), if_neg (by omega), if_neg (by omega)]
    exact Nat.max_le.2 ⟨hn, mxY_le h⟩
  all := by
    rw [all_star, RE.Y_mk, if_neg (by omega), if_neg (by omega), if_pos rfl]
    have : mxY [RE.mk 2 allB []] = 0 := by simp [mxY, mx, RE.Y_mk]
    omega
/-- What has the text of no bytes has a part that is no class. -/
theorem null_Y (r : RE) : Wf r → r.null = true → r.op ≠ 1 → 1 ≤ r.Y := by
  induction r using RE.ind with
  | h o s ks ih =>
    intro hw hn h1
    have hsh : Shp o s ks := hw.shp
    have ho := hsh.op
    simp only [RE.op] at h1
    rw [RE.Y_mk]
    by_cases h2 : o ≤ 2
    · exfalso
      rw [RE.null_mk] at hn
      by_cases h0 : o = 0
      · subst h0; simp at hn
      · have : o = 2 := by omega
        subst this; simp at hn
    · rw [if_neg h2]
      by_cases h3 : o = 3
      · rw [if_pos h3]
        subst h3
        obtain ⟨hl, hc⟩ := hsh.cat rfl
        match ks, hl, hc, hw, hn, ih with
        | k :: ks', _, hc, hw, hn, ih =>
          have hk := ih k (by simp) (hw.kid k (by simp [RE.kids])) (by
            rw [RE.null_mk] at hn
            simp at hn
            exact hn.1) (hc k (by simp)).2.1
          exact Nat.le_trans hk (mem_YL (by simp))
      · rw [if_neg h3]
        split
        · omega
        · exact Nat.le_max_left _ _
theorem monX {n : Nat} (hn : 1 ≤ n) : Mon RE.X n where
  low o s ks h := by rw [RE.X_mk, if_pos h]
  flat o s ks ho h k hk := by
    rw [RE.X_mk, if_neg (by omega), if_neg (by omega), if_neg (by omega)] at h
    exact Nat.le_trans (le_mxX hk) (Nat.le_trans (Nat.le_max_right _ _) h)
  join o s ks ho h := by
    rw [RE.X_mk, if_neg (by omega), if_neg (by omega), if_neg (by omega)]
    exact Nat.max_le.2 ⟨hn, mxX_le h⟩
  all := by
    rw [all_star, RE.X_mk, if_neg (by omega), if_neg (by omega), if_pos rfl]
    have h1 : mxX [RE.mk 2 allB []] = 0 := by simp [mxX, mx, RE.X_mk]
    have h2 : mxV [RE.mk 2 allB []] = 0 := by simp [mxV, mx, RE.V_mk]
    have h3 : mxY [RE.mk 2 allB []] = 0 := by simp [mxY, mx, RE.Y_mk]
    rw [h1, h2, h3]
    simp; omega
end Go.Proofs.YthemadegffhmfaaDoor
/- The ways of a row multiply by so many at most: the steps. -/
namespace Go.Proofs.YthemadegffhmfaaDoor
set_option maxRecDepth 100000
set_option linter.unusedSimpArgs false
set_option linter.unusedVariables false
open Go.RowKit

/-! ## What holds of all ways -/
theorem Y_way : ∀ (ks : List RE) (ds : List (List RE × Bool)), ds.length = ks.length → (∀ i (h : i < ks.length) (h' : i < ds.length), YL ds[i].1 ≤ ks[i].Y) → ∀ w ∈ wayL ks ds, YL w ≤ YL ks
  | [], ds, _, _ => by simp [wayL]
  | _ :: _, [], hl, _ => by simp at hl
  | k :: ks, d :: ds, hl, h => by
    have ih := Y_way ks ds (by simpa using hl) (fun i h1 h2 => h (i + 1) (Nat.succ_lt_succ h1) (Nat.succ_lt_succ h2))
    have h0 : YL d.1 ≤ k.Y := h 0 (by simp) (by simp)
    intro w hw
    rw [wayL] at hw
    rcases List.mem_append.1 hw with hw | hw
    · split at hw
      · simp at hw; subst hw
        refine Nat.le_trans (YL_append _ _) (Nat.max_le.2 ⟨?_, YL_tail _ _⟩)
        exact Nat.le_trans (by omega) (YL_head k ks)
      · simp at hw
    · split at hw
      · exact Nat.le_trans (ih w hw) (YL_tail _ _)
      · simp at hw
/-- Two ways: then there is one with the text of no bytes that isn't the empty one. -/
theorem two_ways (b : Nat) : ∀ (ks : List RE), (∀ k ∈ ks, Wf k) → 2 ≤ (wayL ks (ks.map (RE.beh b))).length → ∃ k ∈ ks, k.null = true ∧ k.op ≠ 1
  | [], _, h => by simp [wayL] at h
  | k :: ks, hw, h => by
    rw [List.map_cons, wayL, List.length_append] at h
    by_cases hn : k.null = true
    · by_cases h1 : k.op = 1
      · have e : k.beh b = ([], false) := by
          have := hw k (by simp)
          rw [this.eps h1]; exact beh01 b 1 0#256 [] (.inr rfl)
        rw [e, if_pos hn] at h
        simp only [Bool.false_eq_true, if_false, List.length_nil, Nat.zero_add] at h
        obtain ⟨x, hx, h2⟩ := two_ways b ks (fun x hx => hw x (by simp [hx])) h
        exact ⟨x, by simp [hx], h2⟩
      · exact ⟨k, by simp, hn, h1⟩
    · rw [if_neg hn] at h
      split at h <;> simp at h
theorem beh_map_get (b : Nat) (ks : List RE) (P : RE → List RE × Bool → Prop) (h : ∀ k ∈ ks, P k (k.beh b)) : ∀ i (h1 : i < ks.length) (h2 : i < (ks.map (RE.beh b)).length), P ks[i] (ks.map (RE.beh b))[i] := fun i h1 h2 => by
  rw [List.getElem_map]; exact h _ (List.getElem_mem h1)

theorem Y_byOf {d : List RE × Bool} : (byOf d).Y ≤ YL d.1 := by
  unfold byOf
  split
  · exact Y_then _
  · rw [Y_nothing]; exact Nat.zero_le _
theorem Y_pack (b : Nat) {ks : List RE} (hw : ∀ k ∈ ks, Wf k) (ih : ∀ k ∈ ks, YL (k.beh b).1 ≤ k.Y) : YL (behRow b ks).1 ≤ YL ks := by
  have hY := Y_way ks (ks.map (RE.beh b)) (by simp) (beh_map_get b ks (fun k d => YL d.1 ≤ k.Y) ih)
  have hW := ways_wf b hw
  have h2 := two_ways b ks hw
  unfold behRow
  generalize wayL ks (ks.map (RE.beh b)) = ws at *
  rcases Nat.lt_or_ge 1 ws.length with h1 | h1
  · rw [pack_2 h1, YL_one]
    obtain ⟨k, hk, hn, ho⟩ := h2 h1
    have hp : 1 ≤ YL ks := Nat.le_trans (null_Y k (hw k hk) hn ho) (mem_YL hk)
    refine (monY hp).any (fun r hr => ?_) fun r hr => ?_
    · obtain ⟨w, hw, rfl⟩ := List.mem_map.1 hr
      exact wf_then (hW w hw)
    · obtain ⟨w, hw, rfl⟩ := List.mem_map.1 hr
      exact Nat.le_trans (Y_then w) (hY w hw)
  · rcases Nat.lt_or_ge 0 ws.length with h0 | h0
    · rw [pack_1 (by omega)]
      obtain ⟨w, rfl⟩ := List.length_eq_one_iff.1 (show ws.length = 1 by omega)
      exact hY w (by simp)
    · rw [pack_0 (by omega)]; exact Nat.zero_le _
theorem Y_beh (b : Nat) (r : RE) : Wf r → YL (r.beh b).1 ≤ r.Y := by
  induction r using RE.ind with
  | h o s ks ih =>
    intro hw
    have hk : ∀ k ∈ ks, Wf k := hw.kid
    have hsh : Shp o s ks := hw.shp
    have ho := hsh.op
    have ihk : ∀ k ∈ ks, YL (k.beh b).1 ≤ k.Y := fun k h => ih k h (hk k h)
    by_cases h2 : o ≤ 2
    · have e : (RE.mk o s ks).beh b = ([], ((RE.mk o s ks).beh b).2) := by
        by_cases h : o = 2
        · subst h; rw [beh2]
        · rw [beh01 b o s ks (by omega)]
      rw [e]; exact Nat.zero_le _
    · rw [RE.Y_mk, if_neg h2]
      by_cases h3 : o = 3
      · subst h3
        rw [if_pos rfl, beh3]
        exact Y_pack b hk ihk
      · rw [if_neg h3]
        by_cases h5 : o = 5
        · subst h5
          obtain ⟨k, rfl, -⟩ := hsh.star rfl
          rw [if_pos rfl, beh5]
          have h1 := ihk k (by simp)
          have h4 : mxY [k] = k.Y := by simp [mxY, mx]
          have h6 : (RE.mk 5 s [k]).nl = 1 := by rw [RE.nl_mk, if_neg (by omega), if_neg (by omega)]
          have h7 : (RE.mk 5 s [k]).Y = k.Y + 1 := by rw [RE.Y_mk, if_neg (by omega), if_neg (by omega), if_pos rfl, h4]
          refine Nat.le_trans (YL_append _ _) (Nat.max_le.2 ⟨?_, ?_⟩)
          · rw [nlL_cons, h6, h4]; simp [nlL]; omega
          · rw [YL_one, h7, h4]; exact Nat.le_refl _
        · rw [if_neg h5, beh467 b o s ks (by omega), YL_one]
          refine (monY (Nat.le_max_left _ _)).with (by omega) (fun e => ?_) (fun x hx => ?_) fun x hx => ?_
          · subst e; obtain ⟨x, y, rfl, -⟩ := hsh.minus rfl; rfl
          · obtain ⟨k, hkk, rfl⟩ := List.mem_map.1 hx
            exact wf_by b (hk k hkk)
          · obtain ⟨k, hkk, rfl⟩ := List.mem_map.1 hx
            exact Nat.le_trans Y_byOf (Nat.le_trans (ihk k hkk) (Nat.le_trans (le_mxY hkk) (Nat.le_max_right _ _)))

/-! ## X -/
theorem XL_mono : ∀ (l : List RE) (q q' : Nat), q ≤ q' → XL q l ≤ XL q' l
  | [], _, _, _ => Nat.le_refl _
  | e :: l, q, q', h => by
    have ih := XL_mono l (max (q + e.nl) e.Y) (max (q' + e.nl) e.Y) (by omega)
    rw [XL, XL]; omega
def YQ (q : Nat) (l : List RE) : Nat := l.foldl (fun q e => max (q + e.nl) e.Y) q
theorem YQ_cons (q : Nat) (e : RE) (l : List RE) : YQ q (e :: l) = YQ (max (q + e.nl) e.Y) l := rfl
theorem XL_append : ∀ (a b : List RE) (q : Nat), XL q (a ++ b) = max (XL q a) (XL (YQ q a) b)
  | [], b, q => by simp [XL, YQ]
  | e :: a, b, q => by
    rw [List.cons_append, XL, XL, XL_append a b, YQ_cons]; omega
theorem YQ_le : ∀ (l : List RE) (q : Nat), YQ q l ≤ max (q + nlL l) (YL l)
  | [], q => by simp [YQ, nlL, YL]
  | e :: l, q => by
    have ih := YQ_le l (max (q + e.nl) e.Y)
    rw [YQ_cons, nlL_cons, YL]; omega
theorem VX_L : ∀ (l : List RE) (p q : Nat), p ≤ q → VL p l ≤ XL q l
  | [], _, _, _ => Nat.le_refl _
  | e :: l, p, q, h => by
    have ih := VX_L l (p + e.nl) (max (q + e.nl) e.Y) (by omega)
    rw [VL, XL]; omega
theorem mxVX {l : List RE} (h : ∀ k ∈ l, k.V ≤ k.X) : mxV l ≤ mxX l := mxV_le fun r hr => Nat.le_trans (h r hr) (le_mxX hr)
theorem VX (r : RE) : r.V ≤ r.X := by
  induction r using RE.ind with
  | h o s ks ih =>
    have h := mxVX ih
    rw [RE.V_mk, RE.X_mk]
    split
    · exact Nat.le_refl _
    · split
      · exact VX_L ks 0 0 (Nat.le_refl _)
      · split <;> omega
theorem XL_split : ∀ (l : List RE) (p q0 y : Nat), XL (max (p + q0) y) l ≤ max (VL p l + q0) (XL y l)
  | [], p, q0, y => by simp [XL, VL]
  | e :: l, p, q0, y => by
    have ih := XL_split l (p + e.nl) q0 (max (y + e.nl) e.Y)
    have e1 : max (max (p + q0) y + e.nl) e.Y = max (p + e.nl + q0) (max (y + e.nl) e.Y) := by omega
    rw [XL, XL, VL, e1]; omega
theorem XL_one (q : Nat) (e : RE) : XL q [e] = max e.X (e.V + q) := by simp [XL]
theorem XL_catK (q : Nat) (r : RE) : XL q (catK r) ≤ max r.X (r.V + q) := by
  unfold catK
  by_cases h1 : r.op = 1
  · rw [if_pos h1]; exact Nat.zero_le _
  · rw [if_neg h1]
    by_cases h3 : r.op = 3
    · rw [if_pos h3, r.X_op, r.V_op, if_neg (by omega), if_pos h3, if_neg (by omega), if_pos h3]
      have := XL_split r.kids 0 q 0
      rw [Nat.zero_add, Nat.max_eq_left (Nat.zero_le _)] at this
      omega
    · rw [if_neg h3, XL_one]; exact Nat.le_refl _
theorem XL_catL : ∀ (l : List RE) (q : Nat), XL q (catL l) ≤ XL q l
  | [], q => Nat.le_refl _
  | e :: l, q => by
    have h1 := XL_catK q e
    have h2 := YQ_le (catK e) q
    rw [catK_nl] at h2
    have h3 := catK_Y e
    have h4 := XL_mono (catL l) (YQ q (catK e)) (max (q + e.nl) e.Y) (by omega)
    have ih := XL_catL l (max (q + e.nl) e.Y)
    have e1 : catL (e :: l) = catK e ++ catL l := by simp [catL]
    rw [e1, XL_append, XL]; omega
theorem X_nothing : rNothing.X = 0 := by unfold rNothing; rw [RE.X_mk]; rfl
theorem X_empty : rEmpty.X = 0 := by unfold rEmpty; rw [RE.X_mk]; rfl
theorem X_then (l : List RE) : (rThen l).X ≤ XL 0 l := by
  unfold rThen
  split
  · rw [X_nothing]; exact Nat.zero_le _
  · split
    · rw [X_empty]; exact Nat.zero_le _
    · refine Nat.le_trans ?_ (XL_catL l 0)
      generalize catL l = m
      by_cases h : m.length = 1
      · obtain ⟨x, rfl⟩ := List.length_eq_one_iff.1 h
        rw [rJoin_one, XL_one]; exact Nat.le_max_left _ _
      · rw [rJoin_more 3 m h, RE.X_mk, if_neg (by omega), if_pos rfl]; exact Nat.le_refl _
theorem X_byOf {d : List RE × Bool} : (byOf d).X ≤ XL 0 d.1 := by
  unfold byOf
  split
  · exact X_then _
  · rw [X_nothing]; exact Nat.zero_le _
theorem X_way : ∀ (ks : List RE) (ds : List (List RE × Bool)), ds.length = ks.length → (∀ i (h : i < ks.length) (h' : i < ds.length), XL 0 ds[i].1 ≤ ks[i].X ∧ YL ds[i].1 ≤ ks[i].Y) → ∀ w ∈ wayL ks ds, ∀ q, XL 0 w ≤ XL q ks
  | [], ds, _, _ => by simp [wayL]
  | _ :: _, [], hl, _ => by simp at hl
  | k :: ks, d :: ds, hl, h => by
    have ih := X_way ks ds (by simpa using hl) (fun i h1 h2 => h (i + 1) (Nat.succ_lt_succ h1) (Nat.succ_lt_succ h2))
    have h0 : XL 0 d.1 ≤ k.X ∧ YL d.1 ≤ k.Y := h 0 (by simp) (by simp)
    intro w hw q
    rw [wayL] at hw
    rcases List.mem_append.1 hw with hw | hw
    · split at hw
      · simp at hw; subst hw
        have h1 := YQ_le d.1 0
        have h2 := nlL_YL d.1
        have h3 := XL_mono ks (YQ 0 d.1) (max (q + k.nl) k.Y) (by omega)
        rw [XL_append, XL]; omega
      · simp at hw
    · split at hw
      · have := ih w hw (max (q + k.nl) k.Y)
        rw [XL]; omega
      · simp at hw
theorem mem_XL : ∀ {l : List RE} {r : RE} (q : Nat), r ∈ l → r.X ≤ XL q l
  | e :: l, r, q, h => by
    rw [XL]
    rcases List.mem_cons.1 h with rfl | h
    · omega
    · have := mem_XL (max (q + e.nl) e.Y) h
      omega
theorem null_X (r : RE) : Wf r → r.null = true → r.op ≠ 1 → 1 ≤ r.X := by
  induction r using RE.ind with
  | h o s ks ih =>
    intro hw hn h1
    have hsh : Shp o s ks := hw.shp
    have ho := hsh.op
    simp only [RE.op] at h1
    rw [RE.X_mk]
    by_cases h2 : o ≤ 2
    · exfalso
      rw [RE.null_mk] at hn
      by_cases h0 : o = 0
      · subst h0; simp at hn
      · have : o = 2 := by omega
        subst this; simp at hn
    · rw [if_neg h2]
      by_cases h3 : o = 3
      · rw [if_pos h3]
        subst h3
        obtain ⟨hl, hc⟩ := hsh.cat rfl
        match ks, hl, hc, hw, hn, ih with
        | k :: ks', _, hc, hw, hn, ih =>
          have hk := ih k (by simp) (hw.kid k (by simp [RE.kids])) (by
            rw [RE.null_mk] at hn
            simp at hn
            exact hn.1) (hc k (by simp)).2.1
          exact Nat.le_trans hk (mem_XL 0 (by simp))
      · rw [if_neg h3]
        split <;> omega
theorem X_pack (b : Nat) {ks : List RE} (hw : ∀ k ∈ ks, Wf k) (ih : ∀ k ∈ ks, XL 0 (k.beh b).1 ≤ k.X) : XL 0 (behRow b ks).1 ≤ XL 0 ks := by
  have hX := X_way ks (ks.map (RE.beh b)) (by simp) (beh_map_get b ks (fun k d => XL 0 d.1 ≤ k.X ∧ YL d.1 ≤ k.Y) fun k hk => ⟨ih k hk, Y_beh b k (hw k hk)⟩)
  have hW := ways_wf b hw
  have h2 := two_ways b ks hw
  unfold behRow
  generalize wayL ks (ks.map (RE.beh b)) = ws at *
  rcases Nat.lt_or_ge 1 ws.length with h1 | h1
  · rw [pack_2 h1, XL_one]
    obtain ⟨k, hk, hn, ho⟩ := h2 h1
    have hp : 1 ≤ XL 0 ks := Nat.le_trans (null_X k (hw k hk) hn ho) (mem_XL 0 hk)
    have h3 : (rAny (ws.map rThen)).X ≤ XL 0 ks := by
      refine (monX hp).any (fun r hr => ?_) fun r hr => ?_
      · obtain ⟨w, hw, rfl⟩ := List.mem_map.1 hr
        exact wf_then (hW w hw)
      · obtain ⟨w, hw, rfl⟩ := List.mem_map.1 hr
        exact Nat.le_trans (X_then w) (hX w hw 0)
    have := VX (rAny (ws.map rThen))
    omega
  · rcases Nat.lt_or_ge 0 ws.length with h0 | h0
    · rw [pack_1 (by omega)]
      obtain ⟨w, rfl⟩ := List.length_eq_one_iff.1 (show ws.length = 1 by omega)
      exact hX w (by simp) 0
    · rw [pack_0 (by omega)]; exact Nat.zero_le _
theorem X_beh (b : Nat) (r : RE) : Wf r → XL 0 (r.beh b).1 ≤ r.X := by
  induction r using RE.ind with
  | h o s ks ih =>
    intro hw
    have hk : ∀ k ∈ ks, Wf k := hw.kid
    have hsh : Shp o s ks := hw.shp
    have ho := hsh.op
    have ihk : ∀ k ∈ ks, XL 0 (k.beh b).1 ≤ k.X := fun k h => ih k h (hk k h)
    by_cases h2 : o ≤ 2
    · have e : (RE.mk o s ks).beh b = ([], ((RE.mk o s ks).beh b).2) := by
        by_cases h : o = 2
        · subst h; rw [beh2]
        · rw [beh01 b o s ks (by omega)]
      rw [e]; exact Nat.zero_le _
    · by_cases h3 : o = 3
      · subst h3
        rw [RE.X_mk, if_neg h2, if_pos rfl, beh3]
        exact X_pack b hk ihk
      · by_cases h5 : o = 5
        · subst h5
          obtain ⟨k, rfl, -⟩ := hsh.star rfl
          have h1 := ihk k (by simp)
          have hy := Y_beh b k (hk k (by simp))
          have h4 : mxY [k] = k.Y := by simp [mxY, mx]
          have h4v : mxV [k] = k.V := by simp [mxV, mx]
          have h4x : mxX [k] = k.X := by simp [mxX, mx]
          have hV : (RE.mk 5 s [k]).V = k.V + 1 := by rw [RE.V_mk, if_neg (by omega), if_neg (by omega), if_pos rfl, h4v]
          have hX : (RE.mk 5 s [k]).X = max k.X (k.V + 1 + k.Y) := by rw [RE.X_mk, if_neg (by omega), if_neg (by omega), if_pos rfl, h4, h4v, h4x]
          have h6 := YQ_le (k.beh b).1 0
          have h7 := nlL_YL (k.beh b).1
          rw [beh5, XL_append, XL_one, hV, hX]; omega
        · rw [RE.X_mk, if_neg h2, if_neg h3, if_neg h5, beh467 b o s ks (by omega), XL_one]
          have h8 : (rWith (RE.mk o s ks) (ks.map (rBy b))).X ≤ max 1 (mxX ks) := by
            refine (monX (Nat.le_max_left _ _)).with (by omega) (fun e => ?_) (fun x hx => ?_) fun x hx => ?_
            · subst e; obtain ⟨x, y, rfl, -⟩ := hsh.minus rfl; rfl
            · obtain ⟨k, hkk, rfl⟩ := List.mem_map.1 hx
              exact wf_by b (hk k hkk)
            · obtain ⟨k, hkk, rfl⟩ := List.mem_map.1 hx
              exact Nat.le_trans X_byOf (Nat.le_trans (ihk k hkk) (Nat.le_trans (le_mxX hkk) (Nat.le_max_right _ _)))
          have := VX (rWith (RE.mk o s ks) (ks.map (rBy b)))
          omega
end Go.Proofs.YthemadegffhmfaaDoor
/- The ways of a row multiply by so many at most: how great it all is. -/
namespace Go.Proofs.YthemadegffhmfaaDoor
set_option maxRecDepth 100000
set_option linter.unusedSimpArgs false
set_option linter.unusedVariables false
open Go.RowKit

theorem P_nothing : rNothing.P = 0 := by unfold rNothing; rw [RE.P_mk]; rfl
theorem P_empty : rEmpty.P = 2 := by unfold rEmpty; rw [RE.P_mk]; rfl
theorem P_one (s : BitVec 256) : (rOne s).P ≤ 4 := by
  unfold rOne
  split
  · rw [P_nothing]; omega
  · rw [RE.P_mk, if_pos rfl]; exact Nat.le_refl _
theorem PL_flatMap (f : RE → List RE) (hf : ∀ r, PL (f r) ≤ r.P) (l : List RE) : PL (l.flatMap f) ≤ PL l := by
  induction l with
  | nil => exact Nat.le_refl _
  | cons x l ih => rw [List.flatMap_cons, PL_append, PL_cons]; have := hf x; omega
theorem PL_one (x : RE) : PL [x] = x.P := by simp [PL]
theorem PL_catL (l : List RE) : PL (catL l) ≤ PL l := PL_flatMap _ (fun r => by
  unfold catK
  by_cases h1 : r.op = 1
  · rw [if_pos h1]; exact Nat.zero_le _
  · rw [if_neg h1]
    by_cases h3 : r.op = 3
    · rw [if_pos h3, r.P_op, if_neg (by omega), if_neg (by omega), if_neg (by omega)]; exact Nat.le_refl _
    · rw [if_neg h3, PL_one]; exact Nat.le_refl _) l
theorem PL_flatL (o : Nat) (ho : o = 4 ∨ o = 6) (l : List RE) : PL (flatL o l) ≤ PL l := PL_flatMap _ (fun r => by
  split
  · rename_i e
    rw [r.P_op, if_neg (by omega), if_neg (by omega), if_neg (by omega)]; exact Nat.le_refl _
  · rw [PL_one]; exact Nat.le_refl _) l
theorem PL_filter (p : RE → Bool) (l : List RE) : PL (l.filter p) ≤ PL l := by
  induction l with
  | nil => exact Nat.le_refl _
  | cons x l ih =>
    rw [List.filter_cons, PL_cons]
    split
    · rw [PL_cons]; omega
    · omega
theorem PL_insK (x : RE) (l : List RE) : PL (insK x l) ≤ x.P + PL l := by
  induction l with
  | nil => simp [insK, PL]
  | cons y l ih =>
    simp only [insK]
    split
    · rw [PL_cons]; exact Nat.le_refl _
    · split
      · omega
      · rw [PL_cons, PL_cons]; omega
theorem PL_ordL (l : List RE) : PL (ordL l) ≤ PL l := by
  induction l with
  | nil => exact Nat.le_refl _
  | cons x l ih =>
    have h1 := PL_insK x (ordL l)
    have h2 : ordL (x :: l) = insK x (ordL l) := rfl
    rw [h2, PL_cons]; omega
theorem P_join (o : Nat) (ho : o = 3 ∨ o = 4 ∨ o = 6 ∨ o = 7) (l : List RE) : (rJoin o l).P ≤ PL l := by
  by_cases h : l.length = 1
  · obtain ⟨x, rfl⟩ := List.length_eq_one_iff.1 h
    rw [rJoin_one, PL_one]; exact Nat.le_refl _
  · rw [rJoin_more o l h, RE.P_mk, if_neg (by omega), if_neg (by omega), if_neg (by omega)]; exact Nat.le_refl _
theorem P_then (l : List RE) : (rThen l).P ≤ 2 + PL l := by
  unfold rThen
  split
  · rw [P_nothing]; omega
  · split
    · rw [P_empty]; omega
    · have h1 := P_join 3 (by omega) (catL l)
      have h2 := PL_catL l
      omega
/-- What is kept, and a class, where there is one. -/
theorem PL_keep (l : List RE) (h : ∃ r ∈ l, r.op = 2) : PL (orKeep l) + 4 ≤ PL l := by
  induction l with
  | nil => obtain ⟨r, hr, -⟩ := h; simp at hr
  | cons x l ih =>
    unfold orKeep at ih ⊢
    rw [List.filter_cons, PL_cons]
    by_cases h2 : x.op = 2
    · rw [if_neg (by simp [h2])]
      have h1 := PL_filter (fun r => !(r.op == 0) && !(r.op == 2)) l
      have h3 : x.P = 4 := by rw [x.P_op, if_pos h2]
      omega
    · have ih2 := ih (by
        obtain ⟨r, hr, hr2⟩ := h
        rcases List.mem_cons.1 hr with rfl | hr
        · exact absurd hr2 h2
        · exact ⟨r, hr, hr2⟩)
      split
      · rw [PL_cons]; omega
      · omega
theorem orSet_some {l : List RE} (h : orSet l ≠ 0#256) : ∃ r ∈ l, r.op = 2 := by
  by_cases h1 : ∃ r ∈ l, r.op = 2
  · exact h1
  · exfalso
    refine h ?_
    unfold orSet
    exact orSet_one (fun k hk e => h1 ⟨k, hk, e⟩) _
theorem P_any (l : List RE) : (rAny l).P ≤ PL l := by
  unfold rAny
  simp only
  have hf := PL_flatL 4 (.inl rfl) l
  generalize hk : (orKeep (flatL 4 l) ++ if orSet (flatL 4 l) = 0#256 then [] else [rOne (orSet (flatL 4 l))]) = ks
  have h1 : PL ks ≤ PL (flatL 4 l) := by
    rw [← hk, PL_append]
    by_cases h0 : orSet (flatL 4 l) = 0#256
    · rw [if_pos h0]
      have := PL_filter (fun r => !(r.op == 0) && !(r.op == 2)) (flatL 4 l)
      unfold orKeep
      simp only [PL, List.map_nil, List.sum_nil, Nat.add_zero] at this ⊢
      exact this
    · rw [if_neg h0, PL_one]
      have h2 := PL_keep _ (orSet_some h0)
      have h3 := P_one (orSet (flatL 4 l))
      omega
  by_cases h0 : ks = []
  · rw [if_pos h0, P_nothing]; exact Nat.zero_le _
  · rw [if_neg h0]
    have h2 := P_join 4 (by omega) (ordL ks)
    have h3 := PL_ordL ks
    omega
theorem flatL_ne {o : Nat} (ho : o = 4 ∨ o = 6) {l : List RE} (hw : ∀ r ∈ l, Wf r) (h0 : l ≠ []) : flatL o l ≠ [] := by
  cases l with
  | nil => exact absurd rfl h0
  | cons x l =>
    unfold flatL
    rw [List.flatMap_cons]
    intro e
    have h1 := (List.append_eq_nil_iff.1 e).1
    split at h1
    · rename_i h2
      have := ((hw x (by simp)).shp.or (by rw [h2]; exact ho)).1
      rw [h1] at this; simp at this
    · simp at h1
theorem P_both {l : List RE} (hw : ∀ r ∈ l, Wf r) (hl : l ≠ []) : (rBoth l).P ≤ PL l := by
  unfold rBoth
  simp only
  have hf := PL_flatL 6 (.inr rfl) l
  have hne := flatL_ne (.inr rfl) hw hl
  generalize flatL 6 l = fl at *
  by_cases ha : (fl.any fun r => r.op == 0) = true
  · rw [if_pos ha, P_nothing]; exact Nat.zero_le _
  · rw [if_neg ha]
    by_cases hs : andSet fl = 0#256
    · rw [if_pos hs, P_nothing]; exact Nat.zero_le _
    · rw [if_neg hs]
      generalize hk : (orKeep fl ++ if met fl = true then [rOne (andSet fl)] else []) = ks
      have h1 : PL ks ≤ PL fl := by
        rw [← hk, PL_append]
        by_cases h0 : met fl = true
        · rw [if_pos h0, PL_one]
          obtain ⟨r, hr, hr2⟩ := List.any_eq_true.1 h0
          have h2 := PL_keep fl ⟨r, hr, by simpa using hr2⟩
          have h3 := P_one (andSet fl)
          omega
        · rw [if_neg h0]
          have := PL_filter (fun r => !(r.op == 0) && !(r.op == 2)) fl
          unfold orKeep
          simp only [PL, List.map_nil, List.sum_nil, Nat.add_zero] at this ⊢
          exact this
      by_cases h0 : ks = []
      · exfalso
        rw [h0] at hk
        obtain ⟨h2, h3⟩ := List.append_eq_nil_iff.1 hk
        cases fl with
        | nil => exact hne rfl
        | cons x fl =>
          have h4 : ¬ x.op = 0 := fun e => ha (by simp [e])
          by_cases h5 : x.op = 2
          · rw [if_pos (by simp [met, h5])] at h3; simp at h3
          · unfold orKeep at h2
            rw [List.filter_cons, if_pos (by simp [h4, h5])] at h2
            simp at h2
      · rw [if_neg h0]
        have h2 := P_join 6 (by omega) (ordL ks)
        have h3 := PL_ordL ks
        omega
theorem P_but (a b : RE) : (rBut a b).P ≤ a.P + b.P := by
  unfold rBut
  split
  · omega
  · split
    · rename_i h
      have h1 : a.P = 4 := by rw [a.P_op, if_pos h.1]
      have := P_one (a.set &&& ~~~b.set)
      omega
    · split
      · rw [P_nothing]; omega
      · rw [RE.P_mk, if_neg (by omega), if_neg (by omega), if_neg (by omega), PL_cons, PL_one]; exact Nat.le_refl _
theorem P_with {o : Nat} {s : BitVec 256} {ks l : List RE} (ho : o = 4 ∨ o = 6 ∨ o = 7) (hw : ∀ r ∈ l, Wf r) (h2 : 2 ≤ l.length) (h7 : o = 7 → l.length = 2) : (rWith (.mk o s ks) l).P ≤ PL l := by
  rcases ho with rfl | rfl | rfl
  · rw [show rWith (.mk 4 s ks) l = rAny l from by simp [rWith, RE.op]]; exact P_any l
  · rw [show rWith (.mk 6 s ks) l = rBoth l from by simp [rWith, RE.op]]; exact P_both hw (by intro e; subst e; simp at h2)
  · obtain ⟨x, y, rfl⟩ : ∃ x y, l = [x, y] := by
      match l, h7 rfl with
      | [x, y], _ => exact ⟨x, y, rfl⟩
    rw [show rWith (.mk 7 s ks) [x, y] = rBut x y from by simp [rWith, RE.op], PL_cons, PL_one]
    exact P_but x y
/-- What each way costs. -/
def wayC (ws : List (List RE)) : Nat := (ws.map fun w => 4 + PL w).sum
theorem wayC_append (a c : List (List RE)) : wayC (a ++ c) = wayC a + wayC c := by simp [wayC]
theorem nl_lead {k : RE} (hw : Wf k) (hn : k.null = true) (h1 : k.op ≠ 1) : 1 ≤ k.nl := by
  have hsh := hw.shp
  have ho := hsh.op
  have h2 : ¬ k.op ≤ 2 := fun h => by
    have hn' := hn
    rw [k.eta, RE.null_mk] at hn'
    by_cases h0 : k.op = 0
    · simp [h0] at hn'
    · have : k.op = 2 := by omega
      simp [this] at hn'
  rw [k.nl_op, if_neg h2]
  by_cases h3 : k.op = 3
  · rw [if_pos h3]
    obtain ⟨hl, hc⟩ := hsh.cat h3
    match hks : k.kids, hl with
    | x :: xs, _ =>
      have hwx : Wf x := hw.kid x (by rw [hks]; simp)
      have hcx := hc x (by rw [hks]; simp)
      have hnx : x.null = true := by
        have hn' := hn
        rw [k.eta, RE.null_mk, h3, hks] at hn'
        simp at hn'
        exact hn'.1
      rw [nlL_cons]
      have : 1 ≤ x.nl := by
        rw [x.nl_op]
        have hxo := hwx.shp.op
        have h5 : ¬ x.op ≤ 2 := fun h => by
          have : x.op = 2 := by omega
          rw [x.eta, RE.null_mk] at hnx
          simp [this] at hnx
        rw [if_neg h5, if_neg (by omega)]; exact Nat.le_refl _
      omega
  · rw [if_neg h3]; exact Nat.le_refl _
theorem VL_pos : ∀ (l : List RE) (p : Nat), l ≠ [] → p ≤ VL p l
  | [], _, h => absurd rfl h
  | e :: l, p, _ => by rw [VL]; omega
theorem mul_max {a v p m : Nat} (h : v ≤ m) : (v + p) * a ≤ (m + p) * a := Nat.mul_le_mul_right _ (by omega)
/-- The ways of a row. -/
theorem P_ways (b : Nat) : ∀ (l : List RE) (p : Nat), (∀ k ∈ l, Wf k) → (∀ k ∈ l, (k.beh b).2 = true → 4 + PL (k.beh b).1 ≤ (k.V + 1) * k.P) → wayC (wayL l (l.map (RE.beh b))) + p * PL l ≤ (VL p l + 1) * PL l
  | [], p, _, _ => by simp [wayL, wayC, PL]
  | k :: l, p, hw, h => by
    have hl : ∀ x ∈ l, Wf x := fun x hx => hw x (by simp [hx])
    have ih := P_ways b l (p + k.nl) hl (fun x hx => h x (by simp [hx]))
    rw [List.map_cons, wayL, wayC_append, PL_cons, VL]
    -- in two parts: of k, and of the rest
    have hk : (if (k.beh b).2 = true then 4 + PL (k.beh b).1 else 0) + p * k.P ≤ (max (k.V + p) (VL (p + k.nl) l) + 1) * k.P := by
      have h1 : (k.V + p + 1) * k.P ≤ (max (k.V + p) (VL (p + k.nl) l) + 1) * k.P := Nat.mul_le_mul_right _ (by omega)
      have e1 : (k.V + p + 1) * k.P = (k.V + 1) * k.P + p * k.P := by rw [← Nat.add_mul]; congr 1; omega
      split
      · rename_i hd
        have := h k (by simp) hd
        omega
      · have : 0 ≤ (k.V + 1) * k.P := Nat.zero_le _
        omega
    have hr : (if (k.beh b).2 = true then PL l else 0) + (if k.null = true then wayC (wayL l (l.map (RE.beh b))) else 0) + p * PL l ≤ (max (k.V + p) (VL (p + k.nl) l) + 1) * PL l := by
      have h1 : (VL (p + k.nl) l + 1) * PL l ≤ (max (k.V + p) (VL (p + k.nl) l) + 1) * PL l := Nat.mul_le_mul_right _ (by omega)
      have e1 : (p + k.nl) * PL l = p * PL l + k.nl * PL l := Nat.add_mul _ _ _
      by_cases hn : k.null = true
      · rw [if_pos hn]
        by_cases hd : (k.beh b).2 = true
        · rw [if_pos hd]
          have h1op : k.op ≠ 1 := fun e => by
            rw [(hw k (by simp)).eps e, show rEmpty.beh b = ([], false) from beh01 b 1 0#256 [] (.inr rfl)] at hd
            cases hd
          have h2 := Nat.mul_le_mul_right (PL l) (nl_lead (hw k (by simp)) hn h1op)
          omega
        · rw [if_neg hd]
          have : 0 ≤ k.nl * PL l := Nat.zero_le _
          omega
      · rw [if_neg hn]
        by_cases hne : l = []
        · subst hne; simp [PL]
        · have h3 := VL_pos l (p + k.nl) hne
          have h4 : (p + 1) * PL l ≤ (max (k.V + p) (VL (p + k.nl) l) + 1) * PL l := Nat.mul_le_mul_right _ (by omega)
          rw [Nat.add_mul, Nat.one_mul] at h4
          split <;> omega
    have e2 : wayC (if (k.beh b).2 = true then [(k.beh b).1 ++ l] else []) = (if (k.beh b).2 = true then 4 + PL (k.beh b).1 else 0) + (if (k.beh b).2 = true then PL l else 0) := by
      split
      · simp [wayC, PL_append]; omega
      · rfl
    have e3 : wayC (if k.null = true then wayL l (l.map (RE.beh b)) else []) = if k.null = true then wayC (wayL l (l.map (RE.beh b))) else 0 := by
      split <;> rfl
    rw [e2, e3, Nat.mul_add, Nat.mul_add]
    omega
theorem P_packed (ws : List (List RE)) (h : 0 < ws.length) : 4 + PL (pack ws).1 ≤ wayC ws := by
  rcases Nat.lt_or_ge 1 ws.length with h1 | h1
  · rw [pack_2 h1, PL_one]
    have h2 := P_any (ws.map rThen)
    have h3 : ∀ ws : List (List RE), PL (ws.map rThen) + 2 * ws.length ≤ wayC ws := by
      intro ws
      induction ws with
      | nil => exact Nat.le_refl _
      | cons w ws ih =>
        have := P_then w
        rw [List.map_cons, PL_cons, List.length_cons]
        unfold wayC at ih ⊢
        rw [List.map_cons, List.sum_cons]
        omega
    have := h3 ws
    omega
  · rw [pack_1 (by omega)]
    obtain ⟨w, rfl⟩ := List.length_eq_one_iff.1 (show ws.length = 1 by omega)
    simp [wayC]
theorem pack_ok (ws : List (List RE)) (h : (pack ws).2 = true) : 0 < ws.length := by
  rcases Nat.eq_zero_or_pos ws.length with h0 | h0
  · rw [pack_0 h0] at h; cases h
  · exact h0
theorem P_row (b : Nat) (l : List RE) (hw : ∀ k ∈ l, Wf k) (h : ∀ k ∈ l, (k.beh b).2 = true → 4 + PL (k.beh b).1 ≤ (k.V + 1) * k.P) : wayC (wayL l (l.map (RE.beh b))) ≤ (VL 0 l + 1) * PL l ∧ ((behRow b l).2 = true → 4 + PL (behRow b l).1 ≤ (VL 0 l + 1) * PL l) := by
  have h1 := P_ways b l 0 hw h
  rw [Nat.zero_mul, Nat.add_zero] at h1
  exact ⟨h1, fun hd => Nat.le_trans (P_packed _ (pack_ok _ hd)) h1⟩
theorem P_least {k : RE} (hw : Wf k) (h0 : k.op ≠ 0) : 2 ≤ k.P := by
  induction k using RE.ind with
  | h o s ks ih =>
    have hsh : Shp o s ks := hw.shp
    have ho := hsh.op
    simp only [RE.op] at h0
    rw [RE.P_mk]
    split
    · omega
    · split
      · omega
      · have hfirst : ks ≠ [] → (∀ k ∈ ks, k.op ≠ 0) → 2 ≤ PL ks := fun hne hall => by
          cases ks with
          | nil => exact absurd rfl hne
          | cons x xs =>
            have := ih x (by simp) (hw.kid x (by simp [RE.kids])) (hall x (by simp))
            rw [PL_cons]; omega
        split
        · rename_i h5
          subst h5
          obtain ⟨k, rfl, hk, -⟩ := hsh.star rfl
          have := hfirst (by simp) (fun x hx => by simp at hx; subst hx; exact hk)
          omega
        · by_cases h3 : o = 3
          · subst h3
            obtain ⟨hl, hc⟩ := hsh.cat rfl
            exact hfirst (by intro e; subst e; simp at hl) fun k hk => (hc k hk).1
          · by_cases h7 : o = 7
            · subst h7
              obtain ⟨x, y, rfl, hx, hy, -⟩ := hsh.minus rfl
              exact hfirst (by simp) fun k hk => by simp at hk; rcases hk with rfl | rfl <;> assumption
            · obtain ⟨hl, hc, -⟩ := hsh.or (by omega)
              exact hfirst (by intro e; subst e; simp at hl) fun k hk => (hc k hk).1
/-- What stands behind a byte, where something does. -/
theorem P_beh (b : Nat) (r : RE) : Wf r → (r.beh b).2 = true → 4 + PL (r.beh b).1 ≤ (r.V + 1) * r.P := by
  induction r using RE.ind with
  | h o s ks ih =>
    intro hw hd
    have hk : ∀ k ∈ ks, Wf k := hw.kid
    have hsh : Shp o s ks := hw.shp
    have ho := hsh.op
    have ihk : ∀ k ∈ ks, (k.beh b).2 = true → 4 + PL (k.beh b).1 ≤ (k.V + 1) * k.P := fun k h => ih k h (hk k h)
    by_cases h2 : o ≤ 2
    · by_cases h : o = 2
      · subst h
        rw [beh2, RE.P_mk, if_pos rfl, RE.V_mk, if_pos (by omega)]
        simp [PL]
      · rw [beh01 b o s ks (by omega)] at hd; cases hd
    · by_cases h3 : o = 3
      · subst h3
        rw [beh3] at hd ⊢
        rw [RE.V_mk, if_neg (by omega), if_pos rfl, RE.P_mk, if_neg (by omega), if_neg (by omega), if_neg (by omega)]
        exact (P_row b ks hk ihk).2 hd
      · by_cases h5 : o = 5
        · subst h5
          obtain ⟨k, rfl, -⟩ := hsh.star rfl
          rw [beh5] at hd ⊢
          have h1 := ihk k (by simp) hd
          have hV : (RE.mk 5 s [k]).V = k.V + 1 := by
            rw [RE.V_mk, if_neg (by omega), if_neg (by omega), if_pos rfl]
            simp [mxV, mx]
          have hP : (RE.mk 5 s [k]).P = 1 + k.P := by rw [RE.P_mk, if_neg (by omega), if_neg (by omega), if_pos rfl, PL_one]
          rw [PL_append, PL_one, hV, hP]
          have e1 : (k.V + 1 + 1) * (1 + k.P) = (k.V + 1) * k.P + (k.V + 1) + (1 + k.P) := by
            rw [Nat.add_mul (k.V + 1) 1, Nat.one_mul, Nat.mul_add, Nat.mul_one]; omega
          rw [e1]; omega
        · have h467 : o = 4 ∨ o = 6 ∨ o = 7 := by omega
          rw [beh467 b o s ks h467, PL_one]
          have hl2 : 2 ≤ ks.length ∧ ∀ k ∈ ks, k.op ≠ 0 := by
            rcases h467 with e | e | e
            · have := hsh.or (.inl e); exact ⟨this.1, fun k hk => (this.2.1 k hk).1⟩
            · have := hsh.or (.inr e); exact ⟨this.1, fun k hk => (this.2.1 k hk).1⟩
            · obtain ⟨x, y, rfl, hx, hy, -⟩ := hsh.minus e
              exact ⟨by simp, fun k hk => by simp at hk; rcases hk with rfl | rfl <;> assumption⟩
          have hV : (RE.mk o s ks).V = mxV ks := by rw [RE.V_mk, if_neg h2, if_neg h3, if_neg h5]
          have hP : (RE.mk o s ks).P = PL ks := by rw [RE.P_mk, if_neg (by omega), if_neg (by omega), if_neg h5]
          have h1 := P_with (s := s) (ks := ks) h467 (l := ks.map (rBy b)) (fun x hx => by
            obtain ⟨k, hkk, rfl⟩ := List.mem_map.1 hx
            exact wf_by b (hk k hkk)) (by simpa using hl2.1) (fun e => by
            subst e; obtain ⟨x, y, rfl, -⟩ := hsh.minus rfl; rfl)
          have h4 : ∀ l : List RE, (∀ k ∈ l, k ∈ ks) → PL (l.map (rBy b)) + 2 * l.length ≤ (mxV ks + 1) * PL l := by
            intro l
            induction l with
            | nil => intro _; simp [PL]
            | cons k l ihl =>
              intro hm
              have i1 := ihl fun x hx => hm x (by simp [hx])
              have hkm := hm k (by simp)
              have i4 : (mxV ks + 1) * (k.P + PL l) = (mxV ks + 1) * k.P + (mxV ks + 1) * PL l := Nat.mul_add _ _ _
              rw [List.map_cons, PL_cons, PL_cons, List.length_cons, i4]
              have i2 : (rBy b k).P + 2 ≤ (k.V + 1) * k.P := by
                unfold rBy byOf
                split
                · rename_i hdk
                  have := ihk k hkm hdk
                  have := P_then (k.beh b).1
                  omega
                · rw [P_nothing]
                  have h5 := P_least (hk k hkm) (hl2.2 k hkm)
                  have h6 : 1 * k.P ≤ (k.V + 1) * k.P := Nat.mul_le_mul_right _ (by omega)
                  omega
              have i3 : (k.V + 1) * k.P ≤ (mxV ks + 1) * k.P := Nat.mul_le_mul_right _ (by have := le_mxV hkm; omega)
              omega
          have h6 := h4 ks fun k h => h
          rw [hV, hP]
          omega
end Go.Proofs.YthemadegffhmfaaDoor
/- A text of five bytes can be asked of what few parts make: it fits. -/
namespace Go.Proofs.YthemadegffhmfaaDoor
set_option maxRecDepth 100000
set_option linter.unusedSimpArgs false
set_option linter.unusedVariables false
open Go.RowKit

theorem PL_mem {l : List RE} {x : RE} (h : x ∈ l) : x.P ≤ PL l := by
  induction l with
  | nil => simp at h
  | cons y l ih =>
    rw [PL_cons]
    rcases List.mem_cons.1 h with rfl | h
    · omega
    · have := ih h; omega
theorem cnt_P (r : RE) : Wf r → r.op ≠ 0 → r.cnt + 1 ≤ r.P := by
  induction r using RE.ind with
  | h o s ks ih =>
    intro hw h0
    have hsh : Shp o s ks := hw.shp
    have ho := hsh.op
    simp only [RE.op] at h0
    rw [RE.cnt_mk, RE.P_mk]
    have hall : ∀ l : List RE, (∀ k ∈ l, k ∈ ks) → (∀ k ∈ l, k.op ≠ 0) → cntL l + l.length ≤ PL l := by
      intro l
      induction l with
      | nil => intro _ _; simp [cntL, PL]
      | cons x l ihl =>
        intro hm hz
        have h1 := ihl (fun k hk => hm k (by simp [hk])) (fun k hk => hz k (by simp [hk]))
        have h2 := ih x (hm x (by simp)) (hw.kid x (hm x (by simp))) (hz x (by simp))
        rw [cntL_cons, PL_cons, List.length_cons]; omega
    by_cases h2 : o = 2
    · rw [if_pos h2, (hsh.cls h2).1]; simp [cntL]
    · rw [if_neg h2]
      by_cases h1 : o = 1
      · rw [if_pos h1, hsh.leaf (.inr h1)]; simp [cntL]
      · rw [if_neg h1]
        by_cases h5 : o = 5
        · obtain ⟨k, rfl, hk, -⟩ := hsh.star h5
          have := hall [k] (fun x hx => hx) (fun x hx => by simp at hx; subst hx; exact hk)
          simp only [List.length_cons, List.length_nil] at this
          rw [if_pos h5]; omega
        · rw [if_neg h5]
          have hl2 : 2 ≤ ks.length ∧ ∀ k ∈ ks, k.op ≠ 0 := by
            by_cases h3 : o = 3
            · have := hsh.cat h3; exact ⟨this.1, fun k hk => (this.2 k hk).1⟩
            · by_cases h7 : o = 7
              · obtain ⟨x, y, rfl, hx, hy, -⟩ := hsh.minus h7
                exact ⟨by simp, fun k hk => by simp at hk; rcases hk with rfl | rfl <;> assumption⟩
              · have := hsh.or (by omega); exact ⟨this.1, fun k hk => (this.2.1 k hk).1⟩
          have := hall ks (fun x hx => hx) hl2.2
          omega
theorem cntL_PL (l : List RE) (hw : ∀ r ∈ l, Wf r) (h0 : ∀ r ∈ l, r.op ≠ 0) : cntL l ≤ PL l := by
  induction l with
  | nil => exact Nat.le_refl _
  | cons x l ih =>
    have h1 := ih (fun r hr => hw r (by simp [hr])) (fun r hr => h0 r (by simp [hr]))
    have h2 := cnt_P x (hw x (by simp)) (h0 x (by simp))
    rw [cntL_cons, PL_cons]; omega

/-! ## Nothing is no part of a row -/
theorem any_op {l : List RE} (hw : ∀ r ∈ l, Wf r) (h0 : ∀ r ∈ l, r.op ≠ 0) (hne : l ≠ []) : (rAny l).op ≠ 0 := by
  have hwf := wf_flatL (.inl rfl) hw
  obtain ⟨y, hy, hy0⟩ : ∃ y ∈ flatL 4 l, y.op ≠ 0 := by
    cases l with
    | nil => exact absurd rfl hne
    | cons x l =>
      by_cases h4 : x.op = 4
      · obtain ⟨hl, hc, -⟩ := (hw x (by simp)).shp.or (.inl h4)
        match hk : x.kids, hl with
        | k :: ks, _ =>
          refine ⟨k, ?_, (hc k (by rw [hk]; simp)).1⟩
          unfold flatL
          rw [List.flatMap_cons, if_pos h4, hk]; simp
      · refine ⟨x, ?_, h0 x (by simp)⟩
        unfold flatL
        rw [List.flatMap_cons, if_neg h4]; simp
  have hbit : y.op = 2 → orSet (flatL 4 l) ≠ 0#256 := fun h2 e => by
    have hs := ((hwf y hy).1.shp.cls h2).2
    refine hs ?_
    apply BitVec.eq_of_getLsbD_eq
    intro i hi
    have h1 := orBits (flatL 4 l) i 0#256
    have h3 : (flatL 4 l).foldl (fun s r => if r.op = 2 then s ||| r.set else s) 0#256 = orSet (flatL 4 l) := rfl
    rw [h3, e] at h1
    simp only [BitVec.getLsbD_zero, Bool.false_or] at h1 ⊢
    cases hb : y.set.getLsbD i with
    | false => rfl
    | true =>
      exfalso
      have h4 : ((flatL 4 l).any fun r => r.op == 2 && r.set.getLsbD i) = true := List.any_eq_true.2 ⟨y, hy, by simp [h2, hb]⟩
      rw [h4] at h1
      cases h1
  unfold rAny
  simp only
  generalize hk : (orKeep (flatL 4 l) ++ if orSet (flatL 4 l) = 0#256 then [] else [rOne (orSet (flatL 4 l))]) = ks
  have hks : ∀ k ∈ ks, WfK k ∧ k.op ≠ 0 := fun k hkm => by
    rw [← hk] at hkm
    rcases List.mem_append.1 hkm with hkm | hkm
    · have h1 := List.mem_filter.1 hkm
      have h2 := h1.2
      simp at h2
      exact ⟨(hwf k h1.1).1.k, h2.1⟩
    · split at hkm
      · simp at hkm
      · rename_i hz
        simp at hkm; subst hkm
        exact ⟨(wf_one _).k, by rw [rOne_set _ hz]; simp [RE.op]⟩
  have hkn : ks ≠ [] := fun e => by
    rw [e] at hk
    obtain ⟨h1, h2⟩ := List.append_eq_nil_iff.1 hk
    by_cases hy2 : y.op = 2
    · rw [if_neg (hbit hy2)] at h2; simp at h2
    · have : y ∈ orKeep (flatL 4 l) := List.mem_filter.2 ⟨hy, by simp [hy0, hy2]⟩
      rw [h1] at this; simp at this
  rw [if_neg hkn]
  by_cases hl : (ordL ks).length = 1
  · obtain ⟨x, hx⟩ := List.length_eq_one_iff.1 hl
    rw [hx, rJoin_one]
    exact (hks x ((mem_ord (fun y hy => (hks y hy).1) x).1 (by rw [hx]; simp))).2
  · rw [rJoin_more 4 _ hl]; simp [RE.op]
theorem mem_ways {P : RE → Prop} : ∀ (ks : List RE) (ds : List (List RE × Bool)), (∀ k ∈ ks, P k) → (∀ d ∈ ds, d.2 = true → ∀ x ∈ d.1, P x) → ∀ w ∈ wayL ks ds, ∀ x ∈ w, P x
  | [], _, _, _ => by simp [wayL]
  | _ :: _, [], _, _ => by simp [wayL]
  | k :: ks, d :: ds, hk, hd => by
    have ih := mem_ways ks ds (fun x hx => hk x (by simp [hx])) (fun x hx => hd x (by simp [hx]))
    intro w hw x hx
    simp only [wayL, List.mem_append] at hw
    rcases hw with hw | hw
    · split at hw
      · rename_i h2
        simp only [List.mem_singleton] at hw
        subst hw
        rcases List.mem_append.1 hx with h | h
        · exact hd d (by simp) h2 x h
        · exact hk x (by simp [h])
      · simp at hw
    · split at hw
      · exact ih w hw x hx
      · simp at hw
theorem op_row (b : Nat) {l : List RE} (hw : ∀ r ∈ l, Wf r) (h0 : ∀ r ∈ l, r.op ≠ 0) (h : ∀ r ∈ l, (r.beh b).2 = true → ∀ x ∈ (r.beh b).1, x.op ≠ 0) : ∀ x ∈ (behRow b l).1, x.op ≠ 0 := by
  have hW := ways_wf b hw
  have hO := mem_ways (P := fun x => x.op ≠ 0) l (l.map (RE.beh b)) h0 (fun d hd h2 => by
    obtain ⟨k, hk, rfl⟩ := List.mem_map.1 hd
    exact h k hk h2)
  unfold behRow
  generalize wayL l (l.map (RE.beh b)) = ws at *
  rcases Nat.lt_or_ge 1 ws.length with h1 | h1
  · rw [pack_2 h1]
    intro x hx
    simp only [List.mem_singleton] at hx
    subst hx
    refine any_op (fun r hr => ?_) (fun r hr => ?_) (by intro e; have := congrArg List.length e; rw [List.length_map] at this; simp only [List.length_nil] at this; omega)
    · obtain ⟨w, hw, rfl⟩ := List.mem_map.1 hr
      exact wf_then (hW w hw)
    · obtain ⟨w, hw, rfl⟩ := List.mem_map.1 hr
      have h3 := then_op (hW w hw)
      have h4 : (w.any fun r => r.op == 0) = false := by
        rw [List.any_eq_false]
        intro x hx
        have := hO w hw x hx
        simpa using this
      rw [h4] at h3
      simpa using h3
  · rcases Nat.lt_or_ge 0 ws.length with h0' | h0'
    · rw [pack_1 (by omega)]
      obtain ⟨w, rfl⟩ := List.length_eq_one_iff.1 (show ws.length = 1 by omega)
      exact hO w (by simp)
    · rw [pack_0 (by omega)]; simp
theorem op_beh (b : Nat) (r : RE) : Wf r → (r.beh b).2 = true → ∀ x ∈ (r.beh b).1, x.op ≠ 0 := by
  induction r using RE.ind with
  | h o s ks ih =>
    intro hw hd
    have hk : ∀ k ∈ ks, Wf k := hw.kid
    have hsh : Shp o s ks := hw.shp
    have ho := hsh.op
    by_cases h2 : o ≤ 2
    · by_cases h : o = 2
      · subst h; rw [beh2]; simp
      · rw [beh01 b o s ks (by omega)]; simp
    · by_cases h3 : o = 3
      · subst h3
        rw [beh3]
        exact op_row b hk (fun k h => ((hsh.cat rfl).2 k h).1) fun k h => ih k h (hk k h)
      · by_cases h5 : o = 5
        · subst h5
          obtain ⟨k, rfl, -⟩ := hsh.star rfl
          rw [beh5] at hd ⊢
          intro x hx
          rcases List.mem_append.1 hx with hx | hx
          · exact ih k (by simp) (hk k (by simp)) hd x hx
          · simp at hx; subst hx; simp [RE.op]
        · rw [beh467 b o s ks (by omega)] at hd ⊢
          intro x hx
          simp only [List.mem_singleton] at hx
          subst hx
          simpa using hd
/-- Where nothing stands behind a byte. -/
theorem no_beh (b : Nat) (r : RE) (hw : Wf r) (h0 : r.op ≠ 0) (hd : (r.beh b).2 = false) : cntL (r.beh b).1 ≤ r.P + 1 := by
  obtain ⟨o, s, ks⟩ := r
  have hk : ∀ k ∈ ks, Wf k := hw.kid
  have hsh : Shp o s ks := hw.shp
  have ho := hsh.op
  have no : ∀ (k : RE), Wf k → k.op ≠ 5 → (k.beh b).2 = false → cntL (k.beh b).1 ≤ 1 := by
    rintro ⟨o, s, ks⟩ hw h5 hd
    simp only [RE.op] at h5
    have hsh : Shp o s ks := hw.shp
    have ho := hsh.op
    by_cases h2 : o ≤ 2
    · by_cases h : o = 2
      · subst h; rw [beh2]; simp [cntL]
      · rw [beh01 b o s ks (by omega)]; simp [cntL]
    · by_cases h3 : o = 3
      · subst h3
        rw [beh3] at hd ⊢
        unfold behRow at hd ⊢
        generalize wayL ks (ks.map (RE.beh b)) = ws at *
        rcases Nat.lt_or_ge 1 ws.length with h1 | h1
        · rw [pack_2 h1] at hd; cases hd
        · rcases Nat.lt_or_ge 0 ws.length with h0 | h0
          · rw [pack_1 (by omega)] at hd; cases hd
          · rw [pack_0 (by omega)]; simp [cntL]
      · have hww : Wf (rWith (RE.mk o s ks) (ks.map (rBy b))) := wf_with hw fun x hx => by
          obtain ⟨k, hk, rfl⟩ := List.mem_map.1 hx
          exact wf_by b (hw.kid k hk)
        rw [beh467 b o s ks (by omega)] at hd ⊢
        have hz : (rWith (RE.mk o s ks) (ks.map (rBy b))).op = 0 := by simpa using hd
        rw [hww.none hz, cntL_one, cnt_nothing]; exact Nat.le_refl _
  by_cases h5 : o = 5
  · subst h5
    obtain ⟨k, rfl, -, -, hk5⟩ := hsh.star rfl
    rw [beh5] at hd ⊢
    have h1 := no k (hk k (by simp)) hk5 hd
    have h2 := cnt_P _ hw h0
    rw [cntL_append, cntL_one]; omega
  · have := no _ hw h5 hd
    omega

/-! ## It fits -/
theorem waySum_C (ws : List (List RE)) (hw : ∀ w ∈ ws, ∀ x ∈ w, Wf x) (h0 : ∀ w ∈ ws, ∀ x ∈ w, x.op ≠ 0) : waySum ws ≤ 2 + wayC ws := by
  induction ws with
  | nil => exact Nat.le_refl _
  | cons w ws ih =>
    have h1 := ih (fun v hv => hw v (by simp [hv])) (fun v hv => h0 v (by simp [hv]))
    have h2 := cntL_PL w (hw w (by simp)) (h0 w (by simp))
    unfold waySum wayC at h1 ⊢
    rw [List.map_cons, List.sum_cons, List.map_cons, List.sum_cons]; omega
theorem ways_op (b : Nat) {l : List RE} (hw : ∀ r ∈ l, Wf r) (h0 : ∀ r ∈ l, r.op ≠ 0) : ∀ w ∈ wayL l (l.map (RE.beh b)), ∀ x ∈ w, x.op ≠ 0 :=
  mem_ways (P := fun x => x.op ≠ 0) l (l.map (RE.beh b)) h0 (fun d hd h2 => by
    obtain ⟨k, hk, rfl⟩ := List.mem_map.1 hd
    exact op_beh b k (hw k hk) h2)
theorem mem_VL : ∀ {l : List RE} {r : RE} (p : Nat), r ∈ l → r.V ≤ VL p l
  | e :: l, r, p, h => by
    rw [VL]
    rcases List.mem_cons.1 h with rfl | h
    · omega
    · have := mem_VL (p + e.nl) h
      omega
theorem P_map (b : Nat) (m : Nat) : ∀ (l : List RE), (∀ k ∈ l, Wf k) → (∀ k ∈ l, k.op ≠ 0) → (∀ k ∈ l, k.V ≤ m) → cntL (l.map (rBy b)) + l.length ≤ (m + 1) * PL l
  | [], _, _, _ => by simp [cntL, PL]
  | k :: l, hw, h0, hV => by
    have ih := P_map b m l (fun x hx => hw x (by simp [hx])) (fun x hx => h0 x (by simp [hx])) (fun x hx => hV x (by simp [hx]))
    have hk := hw k (by simp)
    have i4 : (m + 1) * (k.P + PL l) = (m + 1) * k.P + (m + 1) * PL l := Nat.mul_add _ _ _
    have i3 : (k.V + 1) * k.P ≤ (m + 1) * k.P := Nat.mul_le_mul_right _ (by have := hV k (by simp); omega)
    have i2 : (rBy b k).cnt + 1 ≤ (k.V + 1) * k.P := by
      have h5 := P_least hk (h0 k (by simp))
      have h6 : 1 * k.P ≤ (k.V + 1) * k.P := Nat.mul_le_mul_right _ (by omega)
      by_cases hz : (rBy b k).op = 0
      · rw [(wf_by b hk).none hz, cnt_nothing]; omega
      · have h1 := cnt_P _ (wf_by b hk) hz
        unfold rBy byOf at h1 hz ⊢
        by_cases hd : (k.beh b).2 = true
        · rw [if_pos hd] at h1 hz ⊢
          have := P_beh b k hk hd
          have := P_then (k.beh b).1
          omega
        · rw [if_neg hd] at hz; exact absurd rfl hz
    rw [List.map_cons, cntL_cons, PL_cons, List.length_cons, i4]; omega
theorem fits_P (b : Nat) (r : RE) : Wf r → r.op ≠ 0 → (r.V + 1) * r.P + 4 ≤ 1099511627776 → Fits b r := by
  induction r using RE.ind with
  | h o s ks ih =>
    intro hw h0 hb
    have hk : ∀ k ∈ ks, Wf k := hw.kid
    have hsh : Shp o s ks := hw.shp
    have ho := hsh.op
    have hcp := cnt_P _ hw h0
    have hone : (RE.mk o s ks).P ≤ ((RE.mk o s ks).V + 1) * (RE.mk o s ks).P := Nat.le_mul_of_pos_left _ (by omega)
    have hout : cntL ((RE.mk o s ks).beh b).1 + 1 ≤ 1099511627776 := by
      cases hd : ((RE.mk o s ks).beh b).2 with
      | false => have := no_beh b _ hw h0 hd; omega
      | true =>
        have h1 := P_beh b _ hw hd
        have h2 := cntL_PL _ (wf_beh b _ hw) (op_beh b _ hw hd)
        omega
    have hz : ∀ k ∈ ks, k.op ≠ 0 := fun k hkk => by
      by_cases h2 : o ≤ 2
      · have : ks = [] := by
          by_cases h : o = 2
          · exact (hsh.cls h).1
          · exact hsh.leaf (by omega)
        rw [this] at hkk; simp at hkk
      · by_cases h3 : o = 3
        · exact ((hsh.cat h3).2 k hkk).1
        · by_cases h5 : o = 5
          · obtain ⟨x, rfl, hx, -⟩ := hsh.star h5
            simp at hkk; subst hkk; exact hx
          · by_cases h7 : o = 7
            · obtain ⟨x, y, rfl, hx, hy, -⟩ := hsh.minus h7
              simp at hkk; rcases hkk with rfl | rfl <;> assumption
            · exact ((hsh.or (by omega)).2.1 k hkk).1
    have hVP : ∀ k ∈ ks, k.V ≤ (RE.mk o s ks).V ∧ k.P ≤ (RE.mk o s ks).P := fun k hkk => by
      have h2 : ¬ o ≤ 2 := fun h2 => by
        have : ks = [] := by
          by_cases h : o = 2
          · exact (hsh.cls h).1
          · exact hsh.leaf (by omega)
        rw [this] at hkk; simp at hkk
      have hp := PL_mem hkk
      have hv := le_mxV hkk
      have hvl := mem_VL 0 hkk
      have eV := RE.V_mk o s ks
      rw [if_neg h2] at eV
      have eP := RE.P_mk o s ks
      rw [if_neg (show ¬ o = 2 by omega), if_neg (show ¬ o = 1 by omega)] at eP
      rw [eV, eP]
      refine ⟨?_, ?_⟩
      · split
        · exact hvl
        · split <;> omega
      · split <;> omega
    refine .mk o s ks (fun k hkk => ih k hkk (hk k hkk) (hz k hkk) ?_) (fun h3 => ?_) (fun h4 => ?_) hout (by omega)
    · obtain ⟨h1, h2⟩ := hVP k hkk
      have := Nat.mul_le_mul (Nat.add_le_add_right h1 1) h2
      omega
    · have h1 := (P_row b ks hk (fun k hkk => P_beh b k (hk k hkk))).1
      have h2 := waySum_C _ (ways_wf b hk) (ways_op b hk hz)
      have h5 : (RE.mk o s ks).V = VL 0 ks := by rw [RE.V_mk, if_neg (by omega), if_pos h3]
      have h6 : (RE.mk o s ks).P = PL ks := by rw [RE.P_mk, if_neg (by omega), if_neg (by omega), if_neg (by omega)]
      rw [h5, h6] at hb
      omega
    · have h5 : (RE.mk o s ks).V = mxV ks := by rw [RE.V_mk, if_neg (by omega), if_neg (by omega), if_neg (by omega)]
      have h6 : (RE.mk o s ks).P = PL ks := by rw [RE.P_mk, if_neg (by omega), if_neg (by omega), if_neg (by omega)]
      have h1 := P_map b (mxV ks) ks hk hz (fun k h => le_mxV h)
      rw [h5, h6] at hb
      omega
theorem fitsRow_P (b : Nat) (l : List RE) (hw : ∀ r ∈ l, Wf r) (h0 : ∀ r ∈ l, r.op ≠ 0) (hb : (VL 0 l + 1) * PL l + 4 ≤ 1099511627776) : FitsRow b l := by
  have hone : PL l ≤ (VL 0 l + 1) * PL l := Nat.le_mul_of_pos_left _ (by omega)
  refine ⟨fun r hr => fits_P b r (hw r hr) (h0 r hr) ?_, ?_, ?_⟩
  · have := Nat.mul_le_mul (Nat.add_le_add_right (mem_VL 0 hr) 1) (PL_mem hr)
    omega
  · have h1 := (P_row b l hw (fun k hkk => P_beh b k (hw k hkk))).1
    have h2 := waySum_C _ (ways_wf b hw) (ways_op b hw h0)
    omega
  · have := cntL_PL l hw h0
    omega
theorem mfits_P (x : Nat) : ∀ (t : List Nat) (l : List RE), (∀ r ∈ l, Wf r) → (∀ r ∈ l, r.op ≠ 0) → XL 0 l ≤ x → (x + 1) ^ t.length * PL l + 4 ≤ 1099511627776 → MFits t l
  | [], _, _, _, _, _ => trivial
  | b :: t, l, hw, h0, hx, hb => by
    have hV : VL 0 l ≤ x := Nat.le_trans (VX_L l 0 0 (Nat.le_refl _)) hx
    have e1 : (x + 1) ^ (b :: t).length * PL l = (x + 1) ^ t.length * ((x + 1) * PL l) := by
      rw [List.length_cons, Nat.pow_succ, Nat.mul_assoc]
    have h1 : (VL 0 l + 1) * PL l ≤ (x + 1) * PL l := Nat.mul_le_mul_right _ (by omega)
    have h2 : (x + 1) * PL l ≤ (x + 1) ^ t.length * ((x + 1) * PL l) := Nat.le_mul_of_pos_left _ (Nat.pow_pos (by omega))
    refine ⟨fitsRow_P b l hw h0 (by omega), fun hd => mfits_P x t _ (wf_behRow b hw) (op_row b hw h0 fun r hr => op_beh b r (hw r hr)) (Nat.le_trans (X_pack b hw fun k hk => X_beh b k (hw k hk)) hx) ?_⟩
    have h3 := (P_row b l hw (fun k hkk => P_beh b k (hw k hkk))).2 hd
    have h4 : (x + 1) ^ t.length * PL (behRow b l).1 ≤ (x + 1) ^ t.length * ((x + 1) * PL l) := Nat.mul_le_mul_left _ (by omega)
    omega
end Go.Proofs.YthemadegffhmfaaDoor
/- What few parts make: how many ways, and how great. -/
namespace Go.Proofs.YthemadegffhmfaaDoor
set_option maxRecDepth 100000
set_option linter.unusedSimpArgs false
set_option linter.unusedVariables false
open Go.RowKit

theorem NL_flatMap (f : RE → List RE) (hf : ∀ r, NL (f r) ≤ r.N) (l : List RE) : NL (l.flatMap f) ≤ NL l := by
  induction l with
  | nil => exact Nat.le_refl _
  | cons x l ih => rw [List.flatMap_cons, NL_append, NL_cons]; have := hf x; omega
theorem RE.N_op (r : RE) : r.N = if r.op ≤ 2 then 0 else if r.op = 3 then NL r.kids else 1 + NL r.kids := by cases r; exact RE.N_mk _ _ _
theorem NL_one (x : RE) : NL [x] = x.N := by simp [NL]
theorem NL_catL (l : List RE) : NL (catL l) ≤ NL l := NL_flatMap _ (fun r => by
  unfold catK
  by_cases h1 : r.op = 1
  · rw [if_pos h1]; exact Nat.zero_le _
  · rw [if_neg h1]
    by_cases h3 : r.op = 3
    · rw [if_pos h3, r.N_op, if_neg (by omega), if_pos h3]; exact Nat.le_refl _
    · rw [if_neg h3, NL_one]; exact Nat.le_refl _) l
theorem NL_flatL (o : Nat) (ho : o = 4 ∨ o = 6) (l : List RE) : NL (flatL o l) ≤ NL l := NL_flatMap _ (fun r => by
  split
  · rename_i e
    rw [r.N_op, if_neg (by omega), if_neg (by omega)]; omega
  · rw [NL_one]; exact Nat.le_refl _) l
theorem NL_filter (p : RE → Bool) (l : List RE) : NL (l.filter p) ≤ NL l := by
  induction l with
  | nil => exact Nat.le_refl _
  | cons x l ih =>
    rw [List.filter_cons, NL_cons]
    split
    · rw [NL_cons]; omega
    · omega
theorem NL_insK (x : RE) (l : List RE) : NL (insK x l) ≤ x.N + NL l := by
  induction l with
  | nil => simp [insK, NL]
  | cons y l ih =>
    simp only [insK]
    split
    · rw [NL_cons]; exact Nat.le_refl _
    · split
      · omega
      · rw [NL_cons, NL_cons]; omega
theorem NL_ordL (l : List RE) : NL (ordL l) ≤ NL l := by
  induction l with
  | nil => exact Nat.le_refl _
  | cons x l ih =>
    have h1 := NL_insK x (ordL l)
    have h2 : ordL (x :: l) = insK x (ordL l) := rfl
    rw [h2, NL_cons]; omega
theorem N_nothing : rNothing.N = 0 := by unfold rNothing; rw [RE.N_mk]; rfl
theorem N_empty : rEmpty.N = 0 := by unfold rEmpty; rw [RE.N_mk]; rfl
theorem N_one (s : BitVec 256) : (rOne s).N = 0 := by
  unfold rOne
  split
  · exact N_nothing
  · rw [RE.N_mk]; rfl
theorem N_join (o : Nat) (ho : o = 4 ∨ o = 6 ∨ o = 7) (l : List RE) : (rJoin o l).N ≤ 1 + NL l := by
  by_cases h : l.length = 1
  · obtain ⟨x, rfl⟩ := List.length_eq_one_iff.1 h
    rw [rJoin_one, NL_one]; omega
  · rw [rJoin_more o l h, RE.N_mk, if_neg (by omega), if_neg (by omega)]; exact Nat.le_refl _
theorem N_then (l : List RE) : (rThen l).N ≤ NL l := by
  unfold rThen
  split
  · rw [N_nothing]; exact Nat.zero_le _
  · split
    · rw [N_empty]; exact Nat.zero_le _
    · refine Nat.le_trans ?_ (NL_catL l)
      generalize catL l = m
      by_cases h : m.length = 1
      · obtain ⟨x, rfl⟩ := List.length_eq_one_iff.1 h
        rw [rJoin_one, NL_one]; exact Nat.le_refl _
      · rw [rJoin_more 3 m h, RE.N_mk, if_neg (by omega), if_pos rfl]; exact Nat.le_refl _
theorem N_any (l : List RE) : (rAny l).N ≤ 1 + NL l := by
  unfold rAny
  simp only
  have hf := NL_flatL 4 (.inl rfl) l
  have hg := NL_filter (fun r => !(r.op == 0) && !(r.op == 2)) (flatL 4 l)
  generalize hk : (orKeep (flatL 4 l) ++ if orSet (flatL 4 l) = 0#256 then [] else [rOne (orSet (flatL 4 l))]) = ks
  have h1 : NL ks ≤ NL (flatL 4 l) := by
    rw [← hk, NL_append]
    unfold orKeep
    have h2 : NL (if orSet (flatL 4 l) = 0#256 then [] else [rOne (orSet (flatL 4 l))]) = 0 := by
      split
      · rfl
      · rw [NL_one, N_one]
    omega
  by_cases h0 : ks = []
  · rw [if_pos h0, N_nothing]; exact Nat.zero_le _
  · rw [if_neg h0]
    have h2 := N_join 4 (by omega) (ordL ks)
    have h3 := NL_ordL ks
    omega
theorem N_both (l : List RE) : (rBoth l).N ≤ 1 + NL l := by
  unfold rBoth
  simp only
  have hf := NL_flatL 6 (.inr rfl) l
  have hg := NL_filter (fun r => !(r.op == 0) && !(r.op == 2)) (flatL 6 l)
  generalize hk : (orKeep (flatL 6 l) ++ if met (flatL 6 l) = true then [rOne (andSet (flatL 6 l))] else []) = ks
  have h1 : NL ks ≤ NL (flatL 6 l) := by
    rw [← hk, NL_append]
    unfold orKeep
    have h2 : NL (if met (flatL 6 l) = true then [rOne (andSet (flatL 6 l))] else []) = 0 := by
      split
      · rw [NL_one, N_one]
      · rfl
    omega
  split
  · rw [N_nothing]; exact Nat.zero_le _
  · split
    · rw [N_nothing]; exact Nat.zero_le _
    · by_cases h0 : ks = []
      · rw [if_pos h0, all_star, RE.N_mk, if_neg (by omega), if_neg (by omega), NL_one, RE.N_mk]
        simp
      · rw [if_neg h0]
        have h2 := N_join 6 (by omega) (ordL ks)
        have h3 := NL_ordL ks
        omega
theorem N_but (a b : RE) : (rBut a b).N ≤ 1 + a.N + b.N := by
  unfold rBut
  split
  · omega
  · split
    · rw [N_one]; omega
    · split
      · rw [N_nothing]; omega
      · rw [RE.N_mk, if_neg (by omega), if_neg (by omega), NL_cons, NL_one]; omega
theorem N_many (r : RE) : (rMany r).N ≤ 1 + r.N := by
  unfold rMany
  split
  · rw [N_empty]; omega
  · split
    · omega
    · rw [RE.N_mk, if_neg (by omega), if_neg (by omega), NL_one]; exact Nat.le_refl _
theorem P_many (r : RE) : (rMany r).P ≤ 2 + r.P := by
  unfold rMany
  split
  · rw [P_empty]; omega
  · split
    · omega
    · rw [RE.P_mk, if_neg (by omega), if_neg (by omega), if_pos rfl, PL_one]; omega
theorem P_bothAny {l : List RE} (hw : ∀ r ∈ l, Wf r) : (rBoth l).P ≤ 5 + PL l := by
  by_cases h : l = []
  · subst h
    have e : rBoth [] = rMany (rOne allB) := by
      have h1 : ¬ allB = 0#256 := by decide +kernel
      unfold rBoth
      simp only [flatL, List.flatMap_nil, List.any_nil, Bool.false_eq_true, if_false, andSet, List.foldl_nil, h1, orKeep, List.filter_nil, met, List.append_nil]
      rfl
    rw [e, all_star, RE.P_mk, if_neg (by omega), if_neg (by omega), if_pos rfl, PL_one, RE.P_mk, if_pos rfl]; omega
  · have := P_both hw h; omega
theorem N_mem {l : List RE} {x : RE} (h : x ∈ l) : x.N ≤ NL l := by
  induction l with
  | nil => simp at h
  | cons y l ih =>
    rw [NL_cons]
    rcases List.mem_cons.1 h with rfl | h
    · omega
    · have := ih h; omega

/-! ## What the three are at most -/
theorem nl_N (r : RE) : r.nl ≤ r.N := by
  induction r using RE.ind with
  | h o s ks ih =>
    rw [RE.nl_mk, RE.N_mk]
    split
    · omega
    · split
      · have : ∀ l : List RE, (∀ k ∈ l, k.nl ≤ k.N) → nlL l ≤ NL l := by
          intro l
          induction l with
          | nil => intro _; exact Nat.le_refl _
          | cons x l ihl => intro h; have h1 := ihl fun k hk => h k (by simp [hk]); have h2 := h x (by simp); rw [nlL_cons, NL_cons]; omega
        exact this ks ih
      · omega
theorem nlL_NL (l : List RE) : nlL l ≤ NL l := by
  induction l with
  | nil => exact Nat.le_refl _
  | cons x l ih => have := nl_N x; rw [nlL_cons, NL_cons]; omega
theorem Y_N (r : RE) : r.Y ≤ r.N := by
  induction r using RE.ind with
  | h o s ks ih =>
    rw [RE.Y_mk, RE.N_mk]
    have hm : mxY ks ≤ NL ks := mxY_le fun k hk => Nat.le_trans (ih k hk) (N_mem hk)
    split
    · omega
    · split
      · have : ∀ l : List RE, (∀ k ∈ l, k.Y ≤ k.N) → YL l ≤ NL l := by
          intro l
          induction l with
          | nil => intro _; exact Nat.le_refl _
          | cons x l ihl => intro h; have h1 := ihl fun k hk => h k (by simp [hk]); have h2 := h x (by simp); have h3 := nlL_NL l; rw [YL, NL_cons]; omega
        exact this ks ih
      · split <;> omega
theorem V_N (r : RE) : r.V ≤ r.N := by
  induction r using RE.ind with
  | h o s ks ih =>
    rw [RE.V_mk, RE.N_mk]
    have hm : mxV ks ≤ NL ks := mxV_le fun k hk => Nat.le_trans (ih k hk) (N_mem hk)
    split
    · omega
    · split
      · have : ∀ (l : List RE) (p : Nat), (∀ k ∈ l, k.V ≤ k.N) → VL p l ≤ p + NL l := by
          intro l
          induction l with
          | nil => intro p _; rw [VL]; omega
          | cons x l ihl => intro p h; have h1 := ihl (p + x.nl) fun k hk => h k (by simp [hk]); have h2 := h x (by simp); have h3 := nl_N x; rw [VL, NL_cons]; omega
        have := this ks 0 ih
        omega
      · split <;> omega
theorem X_N (r : RE) : r.X ≤ 2 * r.N := by
  induction r using RE.ind with
  | h o s ks ih =>
    rw [RE.X_mk, RE.N_mk]
    have hx : mxX ks ≤ 2 * NL ks := mxX_le fun k hk => Nat.le_trans (ih k hk) (by have := N_mem hk; omega)
    have hv : mxV ks ≤ NL ks := mxV_le fun k hk => Nat.le_trans (V_N k) (N_mem hk)
    have hy : mxY ks ≤ NL ks := mxY_le fun k hk => Nat.le_trans (Y_N k) (N_mem hk)
    split
    · omega
    · split
      · have : ∀ (l : List RE) (q : Nat), (∀ k ∈ l, k.X ≤ 2 * k.N) → XL q l ≤ q + 2 * NL l := by
          intro l
          induction l with
          | nil => intro q _; rw [XL]; omega
          | cons x l ihl =>
            intro q h
            have h1 := ihl (max (q + x.nl) x.Y) fun k hk => h k (by simp [hk])
            have h2 := h x (by simp)
            have h3 := nl_N x
            have h4 := Y_N x
            have h5 := V_N x
            rw [XL, NL_cons]; omega
        have := this ks 0 ih
        omega
      · split <;> omega

/-! ## Shapes -/
theorem getD_N (l : List RE) : (l.getD 0 rNothing).N + (l.getD 1 rNothing).N ≤ NL l ∧ (l.getD 0 rNothing).P + (l.getD 1 rNothing).P ≤ PL l := by
  match l with
  | [] => simp [NL, PL, N_nothing, P_nothing]
  | [x] => simp [NL, PL, N_nothing, P_nothing]
  | x :: y :: l => simp [NL_cons, PL_cons]
theorem word_NP (t : List Nat) : (rWord t).N = 0 ∧ (rWord t).P ≤ 2 + 4 * t.length := by
  have h1 := N_then (t.map rLetter)
  have h2 := P_then (t.map rLetter)
  have h3 : NL (t.map rLetter) = 0 := by
    induction t with
    | nil => rfl
    | cons c t ih => rw [List.map_cons, NL_cons, ih (N_then _) (P_then _)]; unfold rLetter; rw [N_one]
  have h4 : PL (t.map rLetter) ≤ 4 * t.length := by
    clear h1 h2 h3
    induction t with
    | nil => exact Nat.le_refl _
    | cons c t ih => rw [List.map_cons, PL_cons, List.length_cons]; have := P_one (setOf [c]); unfold rLetter at *; omega
  unfold rWord
  omega
/-- Inner parts, and leaves. -/
structure Few2 (n : Nat) (r : RE) : Prop where
  ex : ∃ i f : Nat, i + f ≤ n ∧ r.N ≤ i ∧ r.P ≤ 82 * f + 5 * i
theorem few_kids : ∀ (ks : List SHP), (∀ k ∈ ks, Few2 k.nodes k.re) → ∃ i f : Nat, i + f ≤ (ks.map SHP.nodes).sum ∧ NL (ks.map SHP.re) ≤ i ∧ PL (ks.map SHP.re) ≤ 82 * f + 5 * i
  | [], _ => ⟨0, 0, by simp, by simp [NL], by simp [PL]⟩
  | k :: ks, h => by
    obtain ⟨i, f, h1, h2, h3⟩ := few_kids ks fun x hx => h x (by simp [hx])
    obtain ⟨i', f', h1', h2', h3'⟩ := (h k (by simp)).ex
    exact ⟨i' + i, f' + f, by rw [List.map_cons, List.sum_cons]; omega, by rw [List.map_cons, NL_cons]; omega, by rw [List.map_cons, PL_cons]; omega⟩
theorem few_shape (s : SHP) : Tx s → Few2 s.nodes s.re := by
  refine SHP.ind (P := fun s => Tx s → Few2 s.nodes s.re) ?_ s
  intro o l u t ks ih htx
  have hkt : ∀ k ∈ ks, Tx k := by cases htx; assumption
  have ht20 : t.size ≤ 20 := by cases htx; assumption
  have hw : ∀ r ∈ ks.map SHP.re, Wf r := fun r hr => by
    obtain ⟨x, -, rfl⟩ := List.mem_map.1 hr
    exact x.wf
  obtain ⟨i, f, h1, h2, h3⟩ := few_kids ks fun k hk => ih k hk (hkt k hk)
  rw [SHP.re_mk, SHP.nodes_mk]
  generalize ks.map SHP.re = rs at *
  generalize (ks.map SHP.nodes).sum = n at *
  have hb : (bytesN t).length ≤ 20 := by
    have : (bytesN t).length = t.size := by unfold bytesN; rw [List.length_map]; rfl
    omega
  generalize bytesN t = tt at *
  obtain ⟨hd1, hd2⟩ := getD_N rs
  have inner : ∀ r : RE, r.N ≤ 1 + NL rs → r.P ≤ 5 + PL rs → Few2 (1 + n) r := fun r hN hP => ⟨i + 1, f, by omega, by omega, by omega⟩
  unfold mkAt
  split
  · exact inner _ (by rw [N_nothing]; omega) (by rw [P_nothing]; omega)
  · split
    · exact inner _ (by rw [N_empty]; omega) (by rw [P_empty]; omega)
    · split
      · exact inner _ (by rw [N_one]; omega) (by have := P_one (span (97 + l % 4) (97 + u % 4 + 1)); exact Nat.le_trans (P_one _) (by omega))
      · split
        · exact inner _ (by have := N_then rs; omega) (by have := P_then rs; omega)
        · split
          · exact inner _ (N_any rs) (by have := P_any rs; omega)
          · split
            · exact inner _ (by have := N_many (rs.getD 0 rNothing); omega) (by have := P_many (rs.getD 0 rNothing); omega)
            · split
              · exact inner _ (N_both rs) (P_bothAny hw)
              · split
                · exact inner _ (by have := N_but (rs.getD 0 rNothing) (rs.getD 1 rNothing); omega) (by have := P_but (rs.getD 0 rNothing) (rs.getD 1 rNothing); omega)
                · obtain ⟨w1, w2⟩ := word_NP tt
                  exact ⟨i, f + 1, by omega, by omega, by omega⟩
theorem few_bound : ∀ i, i ≤ 30 → (2 * i + 1) ^ 5 * (82 * (30 - i) + 5 * i) + 4 ≤ 1099511627776 := by decide +kernel
/-- Five bytes can be asked. -/
theorem mfits_few (s : SHP) (htx : Tx s) (hn : s.nodes ≤ 30) (t : List Nat) (ht : t.length ≤ 5) : MFits t [s.re] := by
  by_cases h0 : s.re.op = 0
  · rw [s.wf.none h0]; exact mfits_nothing t
  · obtain ⟨i, f, h1, h2, h3⟩ := (few_shape s htx).ex
    have hX := X_N s.re
    refine mfits_P (2 * i) t [s.re] (fun r hr => by simp at hr; subst hr; exact s.wf) (fun r hr => by simp at hr; subst hr; exact h0) ?_ ?_
    · rw [XL_one]; have := VX s.re; omega
    · have hb := few_bound i (by omega)
      have h4 : (2 * i + 1) ^ t.length ≤ (2 * i + 1) ^ 5 := Nat.pow_le_pow_right (by omega) ht
      have h5 : PL [s.re] ≤ 82 * (30 - i) + 5 * i := by rw [PL_one]; omega
      have := Nat.mul_le_mul h4 h5
      omega
end Go.Proofs.YthemadegffhmfaaDoor
/- The document's example, as the statements of layer 3 ask it first. -/
namespace Go.Proofs.YthemadegffhmfaaDoor
set_option maxRecDepth 100000
set_option linter.unusedSimpArgs false
set_option linter.unusedVariables false
open Go.RowKit

theorem x_neqNil (ρ : Operand → Value) (d : Option Tmp) (x : Operand) (t : TypeId) (pos : String) (af : Array Edge) (g : Option (Nat × Bool)) (b : Nat) (hx : ρ x = PT b) (hy : ρ (.const (.pointer none)) = .pointer none) (w : World) :
    (execOp ρ { dst := d, op := .binOp .neq 27 x (.const (.pointer none)) 27, type := t, pos := pos, after := af, guard := g }).run Tryd.prog w = .ok (.value (.bool true)) w := by
  simp [go_sem, hx, hy, PT]
theorem x_eqOpC (ρ : Operand → Value) (d : Option Tmp) (x : Operand) (n : Int) (t : TypeId) (pos : String) (af : Array Edge) (g : Option (Nat × Bool)) (u : Int) (c : Bool) (hc : (u == n) = c) (hx : ρ x = .int .i64 u) (hy : ρ (.const (.int .i64 n)) = .int .i64 n) (w : World) :
    (execOp ρ { dst := d, op := .binOp .eql 36 x (.const (.int .i64 n)) 36, type := t, pos := pos, after := af, guard := g }).run Tryd.prog w = .ok (.value (.bool c)) w := by
  rw [← hc]
  simp [go_sem, hx, hy]
theorem x_build97 (ρ : Operand → Value) (d : Option Tmp) (t : TypeId) (pos : String) (af : Array Edge) (g : Option (Nat × Bool)) (hx : ρ (.const (.int .u8 97)) = .int .u8 97) (hy : ρ (.const (.int .u8 98)) = .int .u8 98) (w : World) :
    (execOp ρ { dst := d, op := .buildSlice 33 2 #[(0, .const (.int .u8 97)), (1, .const (.int .u8 98))], type := t, pos := pos, after := af, guard := g }).run Tryd.prog w = .ok (.value (.slice (some ⟨w.heap.size, 0, none⟩) 2 2)) (w.alloc (.cells #[.int .u8 97, .int .u8 98] 5)) := by
  simp [go_sem, hx, hy]
theorem x_buildP2 (ρ : Operand → Value) (d : Option Tmp) (x y : Operand) (t : TypeId) (pos : String) (af : Array Edge) (g : Option (Nat × Bool)) (a b : Nat) (hx : ρ x = PT a) (hy : ρ y = PT b) (w : World) :
    (execOp ρ { dst := d, op := .buildSlice 35 2 #[(0, x), (1, y)], type := t, pos := pos, after := af, guard := g }).run Tryd.prog w = .ok (.value (.slice (some ⟨w.heap.size, 0, none⟩) 2 2)) (w.alloc (.cells #[PT a, PT b] 27)) := by
  simp [go_sem, hx, hy, PT]
theorem x_neqStr (ρ : Operand → Value) (d : Option Tmp) (x y : Operand) (t : TypeId) (pos : String) (af : Array Edge) (g : Option (Nat × Bool)) (u v : ByteArray) (hne : u ≠ v) (hx : ρ x = .string u) (hy : ρ y = .string v) (w : World) :
    (execOp ρ { dst := d, op := .binOp .neq 9 x y 9, type := t, pos := pos, after := af, guard := g }).run Tryd.prog w = .ok (.value (.bool true)) w := by
  have hb : ¬ u.toList = v.toList := fun e => hne (Go.WideShapes.bytes_inj (by rw [ByteArray.toList_eq, ByteArray.toList_eq] at e; exact e))
  simp [go_sem, hx, hy, hb]
theorem head3_x : rAny [rOne sA, rOne sB] = rOne sAB := by
  have h1 : (rOne sA).op = 2 := one_op _ (by decide +kernel)
  have h2 : (rOne sB).op = 2 := one_op _ (by decide +kernel)
  have e1 : (rOne sA).set = sA := by unfold rOne; rw [if_neg (by decide +kernel)]; rfl
  have e2 : (rOne sB).set = sB := by unfold rOne; rw [if_neg (by decide +kernel)]; rfl
  have hf : flatL 4 [rOne sA, rOne sB] = [rOne sA, rOne sB] := by simp [flatL, h1, h2]
  have hk : orKeep [rOne sA, rOne sB] = [] := by simp [orKeep, h1, h2]
  have hs : orSet [rOne sA, rOne sB] = sAB := by
    simp only [orSet, List.foldl_cons, List.foldl_nil, h1, h2, e1, e2, if_true]
    decide +kernel
  unfold rAny
  simp only [hf, hk, hs]
  have hz : ¬ sAB = 0#256 := by decide +kernel
  simp only [hz, if_false, List.nil_append]
  rw [if_neg (by simp)]
  rfl
theorem head3_t : rThen [rEmpty, rOne sA] = rOne sA := by
  have h1 : (rOne sA).op = 2 := one_op _ (by decide +kernel)
  have h0 : rEmpty.op = 1 := rfl
  have hc : catL [rEmpty, rOne sA] = [rOne sA] := by simp [catL, catK, h1, h0]
  unfold rThen
  rw [if_neg (by simp [h1, h0]), hc, if_neg (by simp)]
  rfl
theorem head3_c : (catL [rEmpty, rOne sA]).length ≤ 2 := by
  have h1 := cntL_catL [rEmpty, rOne sA]
  have h2 := cntL_len (catL [rEmpty, rOne sA])
  have h3 : cntL [rEmpty, rOne sA] = 2 := by simp [cntL, cnt_empty, cnt_one]
  omega
theorem head3_ne : rOne sA ≠ rOne sAB := fun e => by
  have e1 : (rOne sA).set = sA := by unfold rOne; rw [if_neg (by decide +kernel)]; rfl
  have e2 : (rOne sAB).set = sAB := by unfold rOne; rw [if_neg (by decide +kernel)]; rfl
  rw [e, e2] at e1
  exact absurd e1 (by decide +kernel)
theorem key_one_len (s : BitVec 256) : (rOne s).key.length ≤ 1000 := by
  rw [(rOne s).eta, RE.key_mk, rOne_kids]
  have := runs_le (rOne s).set
  have h2 := rnB_length (runsOf (rOne s).set)
  split
  · simp [keysL]; omega
  · simp [keysL]
theorem ofRow1 {w : World} {c : Nat} {g : Nat} (hg : Blk w g #[.int .u8 c] 5) : ∀ k, k < [c].length → ∃ b off, (some ⟨g, 0, none⟩ : Option Addr) = some ⟨b, off, none⟩ ∧ b < w.heap.size ∧ w.cell? ⟨b, off + k, none⟩ = some (.int .u8 (([c] : List Nat).getD k 0)) := fun k hk => by
  obtain rfl : k = 0 := by simp at hk; omega
  exact ⟨_, _, rfl, hg.lt, hg.cell 0⟩
theorem ofRow2 {w : World} {c d : Nat} {g : Nat} (hg : Blk w g #[.int .u8 c, .int .u8 d] 5) : ∀ k, k < [c, d].length → ∃ b off, (some ⟨g, 0, none⟩ : Option Addr) = some ⟨b, off, none⟩ ∧ b < w.heap.size ∧ w.cell? ⟨b, off + k, none⟩ = some (.int .u8 (([c, d] : List Nat).getD k 0)) := fun k hk => by
  have hk2 : k = 0 ∨ k = 1 := by simp at hk; omega
  rcases hk2 with rfl | rfl
  · exact ⟨_, _, rfl, hg.lt, hg.cell 0⟩
  · exact ⟨_, _, rfl, hg.lt, hg.cell 1⟩

end Go.Proofs.YthemadegffhmfaaDoor
/- alike: two expressions are one by their parts just where their keys are one; the calls at nil. -/
namespace Go.Proofs.YthemadegffhmfaaDoor
set_option maxRecDepth 100000
set_option linter.unusedSimpArgs false
set_option linter.unusedVariables false
open Go.RowKit

theorem x_lenP (ρ : Operand → Value) (d : Option Tmp) (x : Operand) (t : TypeId) (pos : String) (af : Array Edge) (g : Option (Nat × Bool)) (a : Option Addr) (n cap : Nat) (hx : ρ x = .slice a n cap) (w : World) :
    (execOp ρ { dst := d, op := .call { callee := .builtin .len, args := #[x], argTypes := #[35] }, type := t, pos := pos, after := af, guard := g }).run Tryd.prog w = .ok (.value (.int .i64 n)) w := by
  simp [go_sem, hx]
theorem key_beq {a b : RE} (ha : WfK a) (hb : WfK b) : (a.key == b.key) = true ↔ a = b := by
  rw [beq_iff_eq]
  exact ⟨key_inj ha hb, fun h => by rw [h]⟩
theorem key_bne {a b : RE} (ha : WfK a) (hb : WfK b) (h : a ≠ b) : (a.key == b.key) = false := Bool.eq_false_iff.2 fun h' => h ((key_beq ha hb).1 h')

end Go.Proofs.YthemadegffhmfaaDoor
/- Has and Cats: a text is one of an expression's, by its parts. -/
namespace Go.Proofs.YthemadegffhmfaaDoor
set_option maxRecDepth 100000
set_option linter.unusedSimpArgs false
set_option linter.unusedVariables false
open Go.RowKit

theorem bytesN_length (t : ByteArray) : (bytesN t).length = t.size := by unfold bytesN; rw [List.length_map]; rfl
theorem bytesN_take (t : ByteArray) (i : Nat) : bytesN (t.extract 0 i) = (bytesN t).take i := by
  unfold bytesN
  rw [ByteArray.data_extract, Array.toList_extract, List.map_take]
  simp
theorem bytesN_drop (t : ByteArray) (i : Nat) : bytesN (t.extract i t.size) = (bytesN t).drop i := by
  unfold bytesN
  rw [ByteArray.data_extract, Array.toList_extract, ← List.map_drop]
  congr 1
  show (t.data.toList.drop i).take (t.size - i) = _
  exact List.take_of_length_le (by rw [List.length_drop, Array.length_toList]; exact Nat.le_refl _)
theorem size_take (t : ByteArray) (i : Nat) (h : i ≤ t.size) : (t.extract 0 i).size = i := by
  rw [← bytesN_length, bytesN_take, List.length_take, bytesN_length]; omega
theorem size_drop (t : ByteArray) (i : Nat) : (t.extract i t.size).size = t.size - i := by
  rw [← bytesN_length, bytesN_drop, List.length_drop, bytesN_length]
theorem nil_iff (t : ByteArray) : (t.toList == []) = decide (t.size = 0) := by
  rw [ByteArray.toList_eq]
  rw [← ByteArray.size_data]
  cases h : t.data.toList with
  | nil => simp [← Array.length_toList, h]
  | cons a l => simp [← Array.length_toList, h]
theorem x_strTo (ρ : Operand → Value) (d : Option Tmp) (x y : Operand) (ty : TypeId) (pos : String) (af : Array Edge) (g : Option (Nat × Bool)) (t : ByteArray) (i : Nat) (hx : ρ x = .string t) (hy : ρ y = .int .i64 i) (h1 : i ≤ t.size) (w : World) :
    (execOp ρ { dst := d, op := .slice 9 x none (some y) none, type := ty, pos := pos, after := af, guard := g }).run Tryd.prog w = .ok (.value (.string (t.extract 0 i))) w := by
  simp [go_sem, hx, hy, h1]
theorem x_strFrom (ρ : Operand → Value) (d : Option Tmp) (x y : Operand) (ty : TypeId) (pos : String) (af : Array Edge) (g : Option (Nat × Bool)) (t : ByteArray) (i : Nat) (hx : ρ x = .string t) (hy : ρ y = .int .i64 i) (h1 : i ≤ t.size) (w : World) :
    (execOp ρ { dst := d, op := .slice 9 x (some y) none none, type := ty, pos := pos, after := af, guard := g }).run Tryd.prog w = .ok (.value (.string (t.extract i t.size))) w := by
  simp [go_sem, hx, hy, h1]
theorem x_sliceOne (ρ : Operand → Value) (d : Option Tmp) (x : Operand) (ty : TypeId) (pos : String) (af : Array Edge) (g : Option (Nat × Bool)) (b off len cap off2 : Nat) (ho : off2 = if cap = 1 then off else off + 1) (hx : ρ x = .slice (some ⟨b, off, none⟩) (len + 1) cap) (hy : ρ (.const (.int .i64 1)) = .int .i64 1) (w : World) :
    (execOp ρ { dst := d, op := .slice 35 x (some (.const (.int .i64 1))) none none, type := ty, pos := pos, after := af, guard := g }).run Tryd.prog w =   .ok (.value (.slice (some ⟨b, off2, none⟩) len (cap - 1))) w := by
  rw [ho]
  have h1 : (1 : Int) ≤ (len : Int) + 1 := by omega
  simp [go_sem, hx, hy, h1]
  split <;> rfl

/-- Whether a text is one of them. -/
noncomputable def hB (l : Lg) (t : ByteArray) : Bool := @decide (l (bytesN t)) (Classical.propDecidable _)
theorem hB_iff (l : Lg) (t : ByteArray) : hB l t = true ↔ l (bytesN t) := by unfold hB; exact @decide_eq_true_iff _ (Classical.propDecidable _)
theorem hB_true {l : Lg} {t : ByteArray} (h : l (bytesN t)) : hB l t = true := (hB_iff l t).2 h
theorem hB_false {l : Lg} {t : ByteArray} (h : ¬ l (bytesN t)) : hB l t = false := Bool.eq_false_iff.2 fun h' => h ((hB_iff l t).1 h')

theorem emp_iff (t : ByteArray) : t = ByteArray.empty ↔ bytesN t = [] := by
  constructor
  · rintro rfl; rfl
  · intro h
    have h1 : t.data.toList = [] := by unfold bytesN at h; simpa using h
    cases t with
    | mk d => 
      have : d = #[] := by simpa using h1
      subst this; rfl
theorem hB_nil (t : ByteArray) : hB (fun s => s = []) t = t.toList.isEmpty := by
  have e : t.toList = t.data.toList := ByteArray.toList_eq t
  by_cases h : bytesN t = []
  · rw [hB_true h, e]
    have h1 : t.data.toList = [] := by unfold bytesN at h; simpa using h
    rw [h1]; rfl
  · rw [hB_false h, e]
    cases h1 : t.data.toList with
    | nil => exact absurd (show bytesN t = [] by unfold bytesN; rw [h1]; rfl) h
    | cons a l => rfl

/-- The row without its first. -/
theorem ResRow.tail {w : World} {g f c : Nat} {r : RE} {l : List RE} (h : ResRow w (.slice (some ⟨g, f, none⟩) (l.length + 1) c) (r :: l)) : ResRow w (.slice (some ⟨g, if c = 1 then f else f + 1, none⟩) l.length (c - 1)) l := by
  have hc : l.length + 1 ≤ c := h.cap _ _ _ rfl
  obtain ⟨bs, ⟨h0, a, cap, e, h1⟩, h2⟩ := h
  injection e with e1 e2 e3
  subst e1 e3
  refine ⟨fun i => bs (i + 1), ⟨⟨by have := h0.1; simp at this; omega, .mk (by omega)⟩, _, _, rfl, fun k hk => ?_⟩, fun i k hk => h2 (i + 1) k (by simpa using hk)⟩
  obtain ⟨b, off, e, h3, h4⟩ := h1 (k + 1) (by simp; omega)
  injection e with e; injection e with e5 e6
  subst e5 e6
  rw [if_neg (by omega)]
  exact ⟨g, f + 1, rfl, h3, by rw [← h4]; congr 2; omega⟩

abbrev HasAt (r : RE) (t : ByteArray) : Prop := ∀ (b : Nat) (w : World), ReAt w b r → Calls Tryd.prog 11 #[PT b, .string t] w fun e w' => e = .returned (.bool (hB r.lang t)) ∧ Below w.heap.size w w'

set_option maxHeartbeats 1000000 in
theorem cats_any (l : List RE) : ∀ (v : Value) (t : ByteArray) (w : World), t.size ≤ 1000 → ResRow w v l → (∀ r ∈ l, ∀ t', t'.size ≤ t.size → HasAt r t') →
    Calls Tryd.prog 35 #[v, .string t] w fun e w' => e = .returned (.bool (hB (catG (l.map RE.lang)) t)) ∧ Below w.heap.size w w' := by
  induction l with
  | nil =>
    intro v t w ht hrow _
    obtain ⟨-, a, cap, rfl, -⟩ := hrow.at
    clear hrow
    have HR : Hid (hB (catG (([] : List RE).map RE.lang)) t = t.toList.isEmpty) := hB_nil t
    rw [HR.out]
    go_enter Tryd.func35, Tryd.ntmps35
    go_wp2
    go_ret
    exact ⟨rfl, Below.refl _ _⟩
  | cons r l ih =>
    intro v t w ht hrow hH
    obtain ⟨hn, a, c, rfl, q⟩ := hrow.at
    obtain ⟨g, f, p, rfl, -, hc0, hr0⟩ := q 0 (by simp)
    rw [List.length_cons] at hrow hn ⊢
    have hq1 : ∀ W, Below w.heap.size w W → W.cell? ⟨g, f + 0, none⟩ = some (PT p) := fun W hW => (World.cell?_of_block (w := w) (hW.block _ (World.block_lt_of_cell? _ _ hc0))).trans hc0
    have hr1 : ∀ W, Below w.heap.size w W → ReAt W p r := fun W hW => by have := hr0.keep hW; simpa using this
    have HH := hide hH
    have HROW := hide hrow
    have HIH := hide ih
    clear q hc0 hr0 hH hrow ih
    have hln : ((l.length : Int) + 1 == 0) = false := beq_eq_false_iff_ne.2 (by omega)
    obtain ⟨f2, hf2⟩ : ∃ f2, f2 = if c = 1 then f else f + 1 := ⟨_, rfl⟩
    have HF2 := hide hf2
    clear hf2
    have HG : Hid (Grows fun W => Below w.heap.size w W) := fun W W' h1 h2 => h1.trans (h2.mono h1.size)
    obtain ⟨M, hM⟩ : ∃ M : Lg, M = catG (l.map RE.lang) := ⟨_, rfl⟩
    have HM := hide hM
    rw [List.map_cons]
    have hcat : ∀ s, catG (r.lang :: l.map RE.lang) s ↔ ∃ j, j ≤ s.length ∧ r.lang (s.take j) ∧ M (s.drop j) := by
      intro s
      rw [hM]
      constructor
      · rintro ⟨u, v, rfl, h1, h2⟩
        exact ⟨u.length, by simp, by rw [List.take_left]; exact h1, by rw [List.drop_left]; exact h2⟩
      · rintro ⟨j, -, h1, h2⟩
        exact ⟨s.take j, s.drop j, (List.take_append_drop j s).symm, h1, h2⟩
    have HC := hide hcat
    clear hcat hM
    go_enter Tryd.func35, Tryd.ntmps35
    go_wp2
    go_loopw [5] (fun i wr => ∃ k : Nat, k ≤ t.size + 1 ∧ i = .int .i64 k ∧ Hid (∀ j, j < k → ¬ (r.lang ((bytesN t).take j) ∧ M ((bytesN t).drop j))) ∧ Hid (Below w.heap.size w wr)) (fun i _ => t.size + 1 - (intOf i).toNat)
    case atStart => exact ⟨0, by omega, rfl, fun j hj => by omega, Below.refl _ _⟩
    case round =>
      obtain ⟨k, hk1, rfl, HN, HW⟩ := hrel
      by_cases hk : k ≤ t.size
      · have hkd : decide ((k : Int) ≤ t.size) = true := by simp; omega
        have hkd2 : decide (k ≤ t.size) = true := by simp [hk]
        have hG := HG.out
        obtain ⟨b1, hb1⟩ : ∃ b1, b1 = hB r.lang (t.extract 0 k) := ⟨_, rfl⟩
        have hq2 : ∀ W, Below w.heap.size w W → Calls Tryd.prog 11 #[PT p, .string (t.extract 0 k)] W fun e w' => e = .returned (.bool b1) ∧ Below W.heap.size W w' := fun W hW => by
          rw [hb1]; exact HH.out r (by simp) _ (by rw [size_take _ _ hk]; exact hk) p W (hr1 W hW)
        go_wp2
        cases b1
        · have HF : Hid (¬ r.lang ((bytesN t).take k)) := fun h => by rw [← bytesN_take] at h; rw [hB_true h] at hb1; cases hb1
          clear hb1
          refine w_lit (C := fun W => Below w.heap.size w W) (by kernel_rfl) (by kernel_rfl) (HW.out.trans ⟨rfl, rfl, rfl, Nat.le_refl _, fun _ _ => rfl⟩) ?_
          refine w_value (.slice (some ⟨g, f, none⟩) (l.length + 1) c) (by kernel_rfl) (fun w hw => x_move _ _ _ _ _ _ _ _ rfl w) ?_
          simp only [Act.put, List.setIfInBounds_toArray, List.set_cons_succ, List.set_cons_zero]
          refine w_value (.pointer (some ⟨g, f + 0, none⟩)) (by kernel_rfl) (fun w hw => x_idxP _ _ _ _ _ _ _ _ g f (l.length + 1) c 0 rfl rfl (by omega) w) ?_
          simp only [Act.put, List.setIfInBounds_toArray, List.set_cons_succ, List.set_cons_zero]
          refine w_value (PT p) (by kernel_rfl) (fun w hw => x_loadP _ _ _ _ _ _ _ _ _ _ rfl w (hq1 w hw)) ?_
          simp only [Act.put, List.setIfInBounds_toArray, List.set_cons_succ, List.set_cons_zero]
          refine w_value (.string t) (by kernel_rfl) (fun w hw => x_move _ _ _ _ _ _ _ _ rfl w) ?_
          simp only [Act.put, List.setIfInBounds_toArray, List.set_cons_succ, List.set_cons_zero]
          refine w_value (.int .i64 k) (by kernel_rfl) (fun w hw => x_move _ _ _ _ _ _ _ _ rfl w) ?_
          simp only [Act.put, List.setIfInBounds_toArray, List.set_cons_succ, List.set_cons_zero]
          refine w_value (.string (t.extract 0 k)) (by kernel_rfl) (fun w hw => x_strTo _ _ _ _ _ _ _ _ t k rfl rfl hk w) ?_
          simp only [Act.put, List.setIfInBounds_toArray, List.set_cons_succ, List.set_cons_zero]
          refine w_call hG 11 #[PT p, .string (t.extract 0 k)] (.bool false) (by kernel_rfl) (fun w => x_call2 _ _ _ _ _ _ _ _ _ _ _ _ _ rfl rfl rfl (enters_of Tryd.func11 (by kernel_rfl) rfl) w) (fun w hw => hq2 w hw) ?_
          simp only [Act.put, List.setIfInBounds_toArray, List.set_cons_succ, List.set_cons_zero]
          refine w_value (.bool false) (by kernel_rfl) (fun w hw => x_move _ _ _ _ _ _ _ _ rfl w) ?_
          simp only [Act.put, List.setIfInBounds_toArray, List.set_cons_succ, List.set_cons_zero]
          refine w_skip (by kernel_rfl) ?_
          simp only [Act.put, List.setIfInBounds_toArray, List.set_cons_succ, List.set_cons_zero]
          refine w_skip (by kernel_rfl) ?_
          simp only [Act.put, List.setIfInBounds_toArray, List.set_cons_succ, List.set_cons_zero]
          refine w_skip (by kernel_rfl) ?_
          simp only [Act.put, List.setIfInBounds_toArray, List.set_cons_succ, List.set_cons_zero]
          refine w_skip (by kernel_rfl) ?_
          simp only [Act.put, List.setIfInBounds_toArray, List.set_cons_succ, List.set_cons_zero]
          refine w_skip (by kernel_rfl) ?_
          simp only [Act.put, List.setIfInBounds_toArray, List.set_cons_succ, List.set_cons_zero]
          refine w_skip (by kernel_rfl) ?_
          simp only [Act.put, List.setIfInBounds_toArray, List.set_cons_succ, List.set_cons_zero]
          refine w_value (.bool false) (by kernel_rfl) (fun w hw => x_pick _ _ _ _ _ _ _ _ _ false undef (.bool false) rfl rfl rfl w) ?_
          simp only [Act.put, List.setIfInBounds_toArray, List.set_cons_succ, List.set_cons_zero]
          refine w_nil ?_
          intro W hW
          have HWW := hide hW
          clear hW hG hq2
          unfold PT
          go_wp2
          refine ⟨⟨k + 1, by omega, by go_num, ?_, HWW⟩, by simp [intOf]; omega⟩
          intro j hj h
          by_cases hjk : j = k
          · subst hjk; exact HF.out h.1
          · exact HN.out j (by omega) h
        · have HTR : Hid (r.lang ((bytesN t).take k)) := by
            show r.lang _
            rw [← bytesN_take]; exact (hB_iff _ _).1 hb1.symm
          obtain ⟨b2, hb2⟩ : ∃ b2, b2 = hB M (t.extract k t.size) := ⟨_, rfl⟩
          have hq3 : ∀ W, Below w.heap.size w W → Calls Tryd.prog 35 #[.slice (some ⟨g, f2, none⟩) l.length (c - 1), .string (t.extract k t.size)] W fun e w' => e = .returned (.bool b2) ∧ Below W.heap.size W w' := fun W hW => by
            have hz := size_drop t k
            rw [hb2, HM.out]
            rw [HF2.out]
            exact HIH.out _ _ W (by omega) (HROW.out.tail.below hW) fun x hx t' ht' => HH.out x (by simp [hx]) t' (by omega)
          cases b2
          · have HF : Hid (¬ M ((bytesN t).drop k)) := fun h => by rw [← bytesN_drop] at h; rw [hB_true h] at hb2; cases hb2
            clear hb1 hb2
            refine w_lit (C := fun W => Below w.heap.size w W) (by kernel_rfl) (by kernel_rfl) (HW.out.trans ⟨rfl, rfl, rfl, Nat.le_refl _, fun _ _ => rfl⟩) ?_
            refine w_value (.slice (some ⟨g, f, none⟩) (l.length + 1) c) (by kernel_rfl) (fun w hw => x_move _ _ _ _ _ _ _ _ rfl w) ?_
            simp only [Act.put, List.setIfInBounds_toArray, List.set_cons_succ, List.set_cons_zero]
            refine w_value (.pointer (some ⟨g, f + 0, none⟩)) (by kernel_rfl) (fun w hw => x_idxP _ _ _ _ _ _ _ _ g f (l.length + 1) c 0 rfl rfl (by omega) w) ?_
            simp only [Act.put, List.setIfInBounds_toArray, List.set_cons_succ, List.set_cons_zero]
            refine w_value (PT p) (by kernel_rfl) (fun w hw => x_loadP _ _ _ _ _ _ _ _ _ _ rfl w (hq1 w hw)) ?_
            simp only [Act.put, List.setIfInBounds_toArray, List.set_cons_succ, List.set_cons_zero]
            refine w_value (.string t) (by kernel_rfl) (fun w hw => x_move _ _ _ _ _ _ _ _ rfl w) ?_
            simp only [Act.put, List.setIfInBounds_toArray, List.set_cons_succ, List.set_cons_zero]
            refine w_value (.int .i64 k) (by kernel_rfl) (fun w hw => x_move _ _ _ _ _ _ _ _ rfl w) ?_
            simp only [Act.put, List.setIfInBounds_toArray, List.set_cons_succ, List.set_cons_zero]
            refine w_value (.string (t.extract 0 k)) (by kernel_rfl) (fun w hw => x_strTo _ _ _ _ _ _ _ _ t k rfl rfl hk w) ?_
            simp only [Act.put, List.setIfInBounds_toArray, List.set_cons_succ, List.set_cons_zero]
            refine w_call hG 11 #[PT p, .string (t.extract 0 k)] (.bool true) (by kernel_rfl) (fun w => x_call2 _ _ _ _ _ _ _ _ _ _ _ _ _ rfl rfl rfl (enters_of Tryd.func11 (by kernel_rfl) rfl) w) (fun w hw => hq2 w hw) ?_
            simp only [Act.put, List.setIfInBounds_toArray, List.set_cons_succ, List.set_cons_zero]
            refine w_value (.bool true) (by kernel_rfl) (fun w hw => x_move _ _ _ _ _ _ _ _ rfl w) ?_
            simp only [Act.put, List.setIfInBounds_toArray, List.set_cons_succ, List.set_cons_zero]
            refine w_value (.slice (some ⟨g, f, none⟩) (l.length + 1) c) (by kernel_rfl) (fun w hw => x_move _ _ _ _ _ _ _ _ rfl w) ?_
            simp only [Act.put, List.setIfInBounds_toArray, List.set_cons_succ, List.set_cons_zero]
            refine w_value (.slice (some ⟨g, f2, none⟩) l.length (c - 1)) (by kernel_rfl) (fun w hw => x_sliceOne _ _ _ _ _ _ _ g f l.length c f2 HF2.out rfl rfl w) ?_
            simp only [Act.put, List.setIfInBounds_toArray, List.set_cons_succ, List.set_cons_zero]
            refine w_value (.string t) (by kernel_rfl) (fun w hw => x_move _ _ _ _ _ _ _ _ rfl w) ?_
            simp only [Act.put, List.setIfInBounds_toArray, List.set_cons_succ, List.set_cons_zero]
            refine w_value (.int .i64 k) (by kernel_rfl) (fun w hw => x_move _ _ _ _ _ _ _ _ rfl w) ?_
            simp only [Act.put, List.setIfInBounds_toArray, List.set_cons_succ, List.set_cons_zero]
            refine w_value (.string (t.extract k t.size)) (by kernel_rfl) (fun w hw => x_strFrom _ _ _ _ _ _ _ _ t k rfl rfl hk w) ?_
            simp only [Act.put, List.setIfInBounds_toArray, List.set_cons_succ, List.set_cons_zero]
            refine w_call hG 35 #[.slice (some ⟨g, f2, none⟩) l.length (c - 1), .string (t.extract k t.size)] (.bool false) (by kernel_rfl) (fun w => x_call2 _ _ _ _ _ _ _ _ _ _ _ _ _ rfl rfl rfl (enters_of Tryd.func35 (by kernel_rfl) rfl) w) (fun w hw => hq3 w hw) ?_
            simp only [Act.put, List.setIfInBounds_toArray, List.set_cons_succ, List.set_cons_zero]
            refine w_value (.bool false) (by kernel_rfl) (fun w hw => x_pick _ _ _ _ _ _ _ _ _ true (.bool false) (.bool false) rfl rfl rfl w) ?_
            simp only [Act.put, List.setIfInBounds_toArray, List.set_cons_succ, List.set_cons_zero]
            refine w_nil ?_
            intro W hW
            have HWW := hide hW
            clear hW hG hq2 hq3
            unfold PT
            go_wp2
            refine ⟨⟨k + 1, by omega, by go_num, ?_, HWW⟩, by simp [intOf]; omega⟩
            intro j hj h
            by_cases hjk : j = k
            · subst hjk; exact HF.out h.2
            · exact HN.out j (by omega) h
          · have HF : Hid (M ((bytesN t).drop k)) := by
              show M _
              rw [← bytesN_drop]; exact (hB_iff _ _).1 hb2.symm
            clear hb1 hb2
            refine w_lit (C := fun W => Below w.heap.size w W) (by kernel_rfl) (by kernel_rfl) (HW.out.trans ⟨rfl, rfl, rfl, Nat.le_refl _, fun _ _ => rfl⟩) ?_
            refine w_value (.slice (some ⟨g, f, none⟩) (l.length + 1) c) (by kernel_rfl) (fun w hw => x_move _ _ _ _ _ _ _ _ rfl w) ?_
            simp only [Act.put, List.setIfInBounds_toArray, List.set_cons_succ, List.set_cons_zero]
            refine w_value (.pointer (some ⟨g, f + 0, none⟩)) (by kernel_rfl) (fun w hw => x_idxP _ _ _ _ _ _ _ _ g f (l.length + 1) c 0 rfl rfl (by omega) w) ?_
            simp only [Act.put, List.setIfInBounds_toArray, List.set_cons_succ, List.set_cons_zero]
            refine w_value (PT p) (by kernel_rfl) (fun w hw => x_loadP _ _ _ _ _ _ _ _ _ _ rfl w (hq1 w hw)) ?_
            simp only [Act.put, List.setIfInBounds_toArray, List.set_cons_succ, List.set_cons_zero]
            refine w_value (.string t) (by kernel_rfl) (fun w hw => x_move _ _ _ _ _ _ _ _ rfl w) ?_
            simp only [Act.put, List.setIfInBounds_toArray, List.set_cons_succ, List.set_cons_zero]
            refine w_value (.int .i64 k) (by kernel_rfl) (fun w hw => x_move _ _ _ _ _ _ _ _ rfl w) ?_
            simp only [Act.put, List.setIfInBounds_toArray, List.set_cons_succ, List.set_cons_zero]
            refine w_value (.string (t.extract 0 k)) (by kernel_rfl) (fun w hw => x_strTo _ _ _ _ _ _ _ _ t k rfl rfl hk w) ?_
            simp only [Act.put, List.setIfInBounds_toArray, List.set_cons_succ, List.set_cons_zero]
            refine w_call hG 11 #[PT p, .string (t.extract 0 k)] (.bool true) (by kernel_rfl) (fun w => x_call2 _ _ _ _ _ _ _ _ _ _ _ _ _ rfl rfl rfl (enters_of Tryd.func11 (by kernel_rfl) rfl) w) (fun w hw => hq2 w hw) ?_
            simp only [Act.put, List.setIfInBounds_toArray, List.set_cons_succ, List.set_cons_zero]
            refine w_value (.bool true) (by kernel_rfl) (fun w hw => x_move _ _ _ _ _ _ _ _ rfl w) ?_
            simp only [Act.put, List.setIfInBounds_toArray, List.set_cons_succ, List.set_cons_zero]
            refine w_value (.slice (some ⟨g, f, none⟩) (l.length + 1) c) (by kernel_rfl) (fun w hw => x_move _ _ _ _ _ _ _ _ rfl w) ?_
            simp only [Act.put, List.setIfInBounds_toArray, List.set_cons_succ, List.set_cons_zero]
            refine w_value (.slice (some ⟨g, f2, none⟩) l.length (c - 1)) (by kernel_rfl) (fun w hw => x_sliceOne _ _ _ _ _ _ _ g f l.length c f2 HF2.out rfl rfl w) ?_
            simp only [Act.put, List.setIfInBounds_toArray, List.set_cons_succ, List.set_cons_zero]
            refine w_value (.string t) (by kernel_rfl) (fun w hw => x_move _ _ _ _ _ _ _ _ rfl w) ?_
            simp only [Act.put, List.setIfInBounds_toArray, List.set_cons_succ, List.set_cons_zero]
            refine w_value (.int .i64 k) (by kernel_rfl) (fun w hw => x_move _ _ _ _ _ _ _ _ rfl w) ?_
            simp only [Act.put, List.setIfInBounds_toArray, List.set_cons_succ, List.set_cons_zero]
            refine w_value (.string (t.extract k t.size)) (by kernel_rfl) (fun w hw => x_strFrom _ _ _ _ _ _ _ _ t k rfl rfl hk w) ?_
            simp only [Act.put, List.setIfInBounds_toArray, List.set_cons_succ, List.set_cons_zero]
            refine w_call hG 35 #[.slice (some ⟨g, f2, none⟩) l.length (c - 1), .string (t.extract k t.size)] (.bool true) (by kernel_rfl) (fun w => x_call2 _ _ _ _ _ _ _ _ _ _ _ _ _ rfl rfl rfl (enters_of Tryd.func35 (by kernel_rfl) rfl) w) (fun w hw => hq3 w hw) ?_
            simp only [Act.put, List.setIfInBounds_toArray, List.set_cons_succ, List.set_cons_zero]
            refine w_value (.bool true) (by kernel_rfl) (fun w hw => x_pick _ _ _ _ _ _ _ _ _ true (.bool true) (.bool false) rfl rfl rfl w) ?_
            simp only [Act.put, List.setIfInBounds_toArray, List.set_cons_succ, List.set_cons_zero]
            refine w_nil ?_
            intro W hW
            have HWW := hide hW
            clear hW hG hq2 hq3
            have HKY := hide (hB_true (t := t) ((HC.out (bytesN t)).2 ⟨k, by rw [bytesN_length]; exact hk, HTR.out, HF.out⟩))
            unfold PT
            go_wp2
            go_ret
            refine ⟨?_, HWW.out⟩
            rw [HKY.out]; rfl
      · have hkd : decide ((k : Int) ≤ t.size) = false := by simp; omega
        have hkd2 : decide (k ≤ t.size) = false := by simp; omega
        have HKY : Hid (hB (catG (r.lang :: l.map RE.lang)) t = false) := hB_false fun h => by
          obtain ⟨j, hj, h1, h2⟩ := (HC.out (bytesN t)).1 h
          rw [bytesN_length] at hj
          exact HN.out j (by omega) ⟨h1, h2⟩
        go_wp2
        go_ret
        refine ⟨?_, HW.out⟩
        rw [HKY.out]; rfl
end Go.Proofs.YthemadegffhmfaaDoor
/- Has: a text is one of an expression's, by its parts. -/
namespace Go.Proofs.YthemadegffhmfaaDoor
set_option maxRecDepth 100000
set_option linter.unusedSimpArgs false
set_option linter.unusedVariables false
open Go.RowKit

theorem x_lenS (ρ : Operand → Value) (d : Option Tmp) (x : Operand) (ty : TypeId) (pos : String) (af : Array Edge) (g : Option (Nat × Bool)) (t : ByteArray) (hx : ρ x = .string t) (w : World) :
    (execOp ρ { dst := d, op := .call { callee := .builtin .len, args := #[x], argTypes := #[9] }, type := ty, pos := pos, after := af, guard := g }).run Tryd.prog w = .ok (.value (.int .i64 t.size)) w := by
  simp [go_sem, hx]
theorem x_lenS1 (ρ : Operand → Value) (d : Option Tmp) (x : Operand) (ty : TypeId) (pos : String) (af : Array Edge) (g : Option (Nat × Bool)) (u : UInt8) (hx : ρ x = .string ⟨#[u]⟩) (w : World) :
    (execOp ρ { dst := d, op := .call { callee := .builtin .len, args := #[x], argTypes := #[9] }, type := ty, pos := pos, after := af, guard := g }).run Tryd.prog w = .ok (.value (.int .i64 1)) w :=
  x_lenS ρ d x ty pos af g ⟨#[u]⟩ hx w
theorem x_strIdx0 (ρ : Operand → Value) (d : Option Tmp) (x : Operand) (ty : TypeId) (pos : String) (af : Array Edge) (g : Option (Nat × Bool)) (u : UInt8) (hx : ρ x = .string ⟨#[u]⟩) (hy : ρ (.const (.int .i64 0)) = .int .i64 0) (w : World) :
    (execOp ρ { dst := d, op := .index 9 x (.const (.int .i64 0)), type := ty, pos := pos, after := af, guard := g }).run Tryd.prog w = .ok (.value (.int .u8 u.toNat)) w := by
  simp [go_sem, hx, hy]
  rfl

theorem hB_eq {l m : Lg} {t : ByteArray} (h : l (bytesN t) ↔ m (bytesN t)) : hB l t = hB m t := by
  by_cases h1 : m (bytesN t)
  · rw [hB_true h1, hB_true (h.2 h1)]
  · rw [hB_false h1, hB_false fun h2 => h1 (h.1 h2)]
/-- What is read of an expression in any later world. -/
theorem ReAt.see {w : World} {b o : Nat} {s : BitVec 256} {ks : List RE} (h : ReAt w b (.mk o s ks)) : ∃ a c, ResRow w (.slice a ks.length c) ks ∧ Hid (∀ W, Below w.heap.size w W → W.cell? ⟨b, 0, none⟩ = some (.int .i64 o) ∧ (∀ j, j < 4 → W.cell? ⟨b, 1 + j, none⟩ = some (.int .u64 (wd s j))) ∧ W.cell? ⟨b, 5, none⟩ = some (.slice a ks.length c)) := by
  obtain ⟨v, k1, row⟩ := h.row
  simp only [RE.op, RE.set, RE.kids] at k1 row
  obtain ⟨n1, a, c, rfl, -⟩ := row.at
  exact ⟨a, c, row, fun W hW => ⟨(h.keep hW).cell0, (h.keep hW).cellS, by rw [(k1.below hW k1.lt).cell]; rfl⟩⟩

theorem has0 (s : BitVec 256) (ks : List RE) (t : ByteArray) : HasAt (.mk 0 s ks) t := by
  intro b w h
  obtain ⟨a, c, row, HX⟩ := h.see
  have x0 := (HX.out w (Below.refl _ _)).1
  clear row h HX
  rw [hB_false (lang0 rfl _)]
  go_enter Tryd.func11, Tryd.ntmps11
  unfold PT
  go_wp2
  go_ret
  exact ⟨rfl, Below.refl _ _⟩
theorem has1 (s : BitVec 256) (ks : List RE) (t : ByteArray) : HasAt (.mk 1 s ks) t := by
  intro b w h
  obtain ⟨a, c, row, HX⟩ := h.see
  have x0 := (HX.out w (Below.refl _ _)).1
  clear row h HX
  have HR : Hid (hB (RE.mk 1 s ks).lang t = t.toList.isEmpty) := by
    rw [← hB_nil]
    exact hB_eq (lang1 (r := .mk 1 s ks) rfl _)
  rw [HR.out]
  go_enter Tryd.func11, Tryd.ntmps11
  unfold PT
  go_wp2
  go_ret
  exact ⟨rfl, Below.refl _ _⟩
set_option maxHeartbeats 1000000 in
theorem has2 (s : BitVec 256) (ks : List RE) (t : ByteArray) : HasAt (.mk 2 s ks) t := by
  intro b w h
  obtain ⟨a, c, row, HX⟩ := h.see
  have x0 := (HX.out w (Below.refl _ _)).1
  clear row h
  have hG : Grows fun W => Below w.heap.size w W := fun W W' h1 h2 => h1.trans (h2.mono h1.size)
  have HG := hide hG
  clear hG
  by_cases h1 : t.size = 1
  · obtain ⟨x, rfl⟩ : ∃ x, t = ⟨#[x]⟩ := by
      cases t with
      | mk d =>
        have : d.size = 1 := h1
        obtain ⟨x, hx⟩ := Array.size_eq_one_iff.1 this
        exact ⟨x, by rw [hx]⟩
    clear h1
    have hxl := x.toNat_lt
    obtain ⟨q, hq⟩ : ∃ q, q = s.getLsbD x.toNat := ⟨_, rfl⟩
    have HQ : Hid (∀ W, Below w.heap.size w W → Calls Tryd.prog 15 #[SV s, .int .u8 x.toNat] W fun e w' => e = .returned (.bool q) ∧ Below W.heap.size W w') := fun W hW => by
      rw [hq]; exact has_any s x.toNat (by omega) (by omega) W
    have HR : Hid (hB (RE.mk 2 s ks).lang ⟨#[x]⟩ = q) := by
      show hB _ _ = _
      rw [hq]
      cases hb : s.getLsbD x.toNat with
      | true => exact hB_true ((lang2 rfl _).2 ⟨x.toNat, rfl, hb⟩)
      | false =>
        refine hB_false fun h' => ?_
        obtain ⟨y, e, hy⟩ := (lang2 rfl _).1 h'
        have e : [x.toNat] = [y] := e
        have : x.toNat = y := by simpa using e
        subst this
        have hy : s.getLsbD x.toNat = true := hy
        rw [hb] at hy; cases hy
    rw [HR.out]
    clear hq HR
    go_enter Tryd.func11, Tryd.ntmps11
    unfold PT
    go_wp2
    have hG := HG.out
    refine w_lit (C := fun W => Below w.heap.size w W) (by kernel_rfl) (by kernel_rfl) ⟨rfl, rfl, rfl, Nat.le_refl _, fun _ _ => rfl⟩ ?_
    refine w_value (.string ⟨#[x]⟩) (by kernel_rfl) (fun w hw => x_move _ _ _ _ _ _ _ _ rfl w) ?_
    simp only [Act.put, List.setIfInBounds_toArray, List.set_cons_succ, List.set_cons_zero]
    refine w_value (.int .i64 1) (by kernel_rfl) (fun w hw => x_lenS1 _ _ _ _ _ _ _ x rfl w) ?_
    simp only [Act.put, List.setIfInBounds_toArray, List.set_cons_succ, List.set_cons_zero]
    refine w_value (.bool true) (by kernel_rfl) (fun w hw => x_eqIntB _ _ _ _ _ _ _ _ 1 1 true rfl rfl rfl w) ?_
    simp only [Act.put, List.setIfInBounds_toArray, List.set_cons_succ, List.set_cons_zero]
    refine w_value (.bool true) (by kernel_rfl) (fun w hw => x_move _ _ _ _ _ _ _ _ rfl w) ?_
    simp only [Act.put, List.setIfInBounds_toArray, List.set_cons_succ, List.set_cons_zero]
    refine w_value (PT b) (by kernel_rfl) (fun w hw => x_move _ _ _ _ _ _ _ _ rfl w) ?_
    simp only [Act.put, List.setIfInBounds_toArray, List.set_cons_succ, List.set_cons_zero]
    refine w_value (PT b) (by kernel_rfl) (fun w hw => x_nilCheck _ _ _ _ _ _ _ _ rfl w) ?_
    simp only [Act.put, List.setIfInBounds_toArray, List.set_cons_succ, List.set_cons_zero]
    refine w_value (.pointer (some ⟨b, 1, none⟩)) (by kernel_rfl) (fun w hw => x_field1 _ _ _ _ _ _ _ _ rfl w) ?_
    simp only [Act.put, List.setIfInBounds_toArray, List.set_cons_succ, List.set_cons_zero]
    refine w_value (SV s) (by kernel_rfl) (fun w hw => x_loadAt _ _ _ _ _ _ _ b 1 s rfl w (HX.out w hw).2.1) ?_
    simp only [Act.put, List.setIfInBounds_toArray, List.set_cons_succ, List.set_cons_zero]
    refine w_value (.string ⟨#[x]⟩) (by kernel_rfl) (fun w hw => x_move _ _ _ _ _ _ _ _ rfl w) ?_
    simp only [Act.put, List.setIfInBounds_toArray, List.set_cons_succ, List.set_cons_zero]
    refine w_value (.int .u8 x.toNat) (by kernel_rfl) (fun w hw => x_strIdx0 _ _ _ _ _ _ _ x rfl rfl w) ?_
    simp only [Act.put, List.setIfInBounds_toArray, List.set_cons_succ, List.set_cons_zero]
    refine w_call hG 15 #[SV s, .int .u8 x.toNat] (.bool q) (by kernel_rfl) (fun w => x_call2 _ _ _ _ _ _ _ _ _ _ _ _ _ rfl rfl rfl (enters_of Tryd.func15 (by kernel_rfl) rfl) w) (fun w hw => HQ.out w hw) ?_
    simp only [Act.put, List.setIfInBounds_toArray, List.set_cons_succ, List.set_cons_zero]
    refine w_value (.bool q) (by kernel_rfl) (fun w hw => x_pick _ _ _ _ _ _ _ _ _ true (.bool q) (.bool false) rfl rfl rfl w) ?_
    simp only [Act.put, List.setIfInBounds_toArray, List.set_cons_succ, List.set_cons_zero]
    refine w_value (.bool q) (by kernel_rfl) (fun w hw => x_assign _ _ _ _ _ _ _ _ rfl w) ?_
    simp only [Act.put, List.setIfInBounds_toArray, List.set_cons_succ, List.set_cons_zero]
    refine w_nil ?_
    intro W hW
    clear hG
    go_wp2
    go_ret
    exact ⟨rfl, hW⟩
  · have hne : ((t.size : Int) == 1) = false := beq_eq_false_iff_ne.2 (by omega)
    have HR : Hid (hB (RE.mk 2 s ks).lang t = false) := hB_false fun h' => by
      obtain ⟨y, e, hy⟩ := (lang2 rfl _).1 h'
      have := bytesN_length t
      rw [e] at this
      simp at this; omega
    rw [HR.out]
    clear HR
    go_enter Tryd.func11, Tryd.ntmps11
    unfold PT
    go_wp2
    have hG := HG.out
    refine w_lit (C := fun W => Below w.heap.size w W) (by kernel_rfl) (by kernel_rfl) ⟨rfl, rfl, rfl, Nat.le_refl _, fun _ _ => rfl⟩ ?_
    refine w_value (.string t) (by kernel_rfl) (fun w hw => x_move _ _ _ _ _ _ _ _ rfl w) ?_
    simp only [Act.put, List.setIfInBounds_toArray, List.set_cons_succ, List.set_cons_zero]
    refine w_value (.int .i64 t.size) (by kernel_rfl) (fun w hw => x_lenS _ _ _ _ _ _ _ t rfl w) ?_
    simp only [Act.put, List.setIfInBounds_toArray, List.set_cons_succ, List.set_cons_zero]
    refine w_value (.bool false) (by kernel_rfl) (fun w hw => x_eqIntB _ _ _ _ _ _ _ _ t.size 1 false hne rfl rfl w) ?_
    simp only [Act.put, List.setIfInBounds_toArray, List.set_cons_succ, List.set_cons_zero]
    refine w_value (.bool false) (by kernel_rfl) (fun w hw => x_move _ _ _ _ _ _ _ _ rfl w) ?_
    simp only [Act.put, List.setIfInBounds_toArray, List.set_cons_succ, List.set_cons_zero]
    refine w_skip (by kernel_rfl) ?_
    simp only [Act.put, List.setIfInBounds_toArray, List.set_cons_succ, List.set_cons_zero]
    refine w_skip (by kernel_rfl) ?_
    simp only [Act.put, List.setIfInBounds_toArray, List.set_cons_succ, List.set_cons_zero]
    refine w_skip (by kernel_rfl) ?_
    simp only [Act.put, List.setIfInBounds_toArray, List.set_cons_succ, List.set_cons_zero]
    refine w_skip (by kernel_rfl) ?_
    simp only [Act.put, List.setIfInBounds_toArray, List.set_cons_succ, List.set_cons_zero]
    refine w_skip (by kernel_rfl) ?_
    simp only [Act.put, List.setIfInBounds_toArray, List.set_cons_succ, List.set_cons_zero]
    refine w_skip (by kernel_rfl) ?_
    simp only [Act.put, List.setIfInBounds_toArray, List.set_cons_succ, List.set_cons_zero]
    refine w_skip (by kernel_rfl) ?_
    simp only [Act.put, List.setIfInBounds_toArray, List.set_cons_succ, List.set_cons_zero]
    refine w_value (.bool false) (by kernel_rfl) (fun w hw => x_pick _ _ _ _ _ _ _ _ _ false undef (.bool false) rfl rfl rfl w) ?_
    simp only [Act.put, List.setIfInBounds_toArray, List.set_cons_succ, List.set_cons_zero]
    refine w_value (.bool false) (by kernel_rfl) (fun w hw => x_assign _ _ _ _ _ _ _ _ rfl w) ?_
    simp only [Act.put, List.setIfInBounds_toArray, List.set_cons_succ, List.set_cons_zero]
    refine w_nil ?_
    intro W hW
    clear hG
    go_wp2
    go_ret
    exact ⟨rfl, hW⟩
set_option maxHeartbeats 1000000 in
theorem has3 (s : BitVec 256) (ks : List RE) (t : ByteArray) (ht : t.size ≤ 1000) (ih : ∀ k ∈ ks, ∀ t', t'.size ≤ t.size → HasAt k t') : HasAt (.mk 3 s ks) t := by
  intro b w h
  obtain ⟨a, c, row, HX⟩ := h.see
  have x0 := (HX.out w (Below.refl _ _)).1
  have x5 := (HX.out w (Below.refl _ _)).2.2
  have HR : Hid (hB (RE.mk 3 s ks).lang t = hB (catG (ks.map RE.lang)) t) := by
    exact hB_eq (lang3 (r := .mk 3 s ks) rfl _)
  have hc := cats_any ks _ t w ht row ih
  rw [HR.out]
  obtain ⟨q, hq⟩ : ∃ q, q = hB (catG (ks.map RE.lang)) t := ⟨_, rfl⟩
  rw [← hq] at hc ⊢
  have HC := hide hc
  clear row h HX HR ih hq hc
  go_enter Tryd.func11, Tryd.ntmps11
  unfold PT
  go_wp2_with fail
  refine HC.out.mono ?_
  rintro e w1 ⟨rfl, hb⟩
  have HB := hide hb
  clear hb HC
  go_wp2
  go_ret
  exact ⟨rfl, HB.out⟩
set_option maxHeartbeats 1000000 in
theorem has4 (s : BitVec 256) (ks : List RE) (t : ByteArray) (ih : ∀ k ∈ ks, HasAt k t) : HasAt (.mk 4 s ks) t := by
  intro b w h
  obtain ⟨a, c, row, HX⟩ := h.see
  have x0 := (HX.out w (Below.refl _ _)).1
  have x5 := (HX.out w (Below.refl _ _)).2.2
  have HROW := hide row
  have HIH := hide ih
  obtain ⟨hn, -⟩ := row.at
  clear row h HX ih
  go_enter Tryd.func11, Tryd.ntmps11
  unfold PT
  go_wp2
  go_loopw [49] (fun i wr => ∃ k : Nat, k ≤ ks.length ∧ i = .int .i64 k ∧ Hid (∀ x ∈ ks.take k, hB x.lang t = false) ∧ Hid (Below w.heap.size w wr)) (fun i _ => ks.length - (intOf i).toNat)
  case atStart => exact ⟨0, by omega, rfl, (fun x hx => by simp at hx), Below.refl _ _⟩
  case round =>
    obtain ⟨k, hk1, rfl, HN, HW⟩ := hrel
    obtain ⟨-, a', cap', e1, g1⟩ := (HROW.out.below HW.out).at
    obtain ⟨rfl, rfl⟩ : a = a' ∧ c = cap' := by cases e1; exact ⟨rfl, rfl⟩
    clear e1
    by_cases hlt : k < ks.length
    · have hkd : decide (k < ks.length) = true := by simp [hlt]
      obtain ⟨g, f, p, rfl, -, hc0, hr0⟩ := g1 k hlt
      have HT := hide (show ks.take (k + 1) = ks.take k ++ [ks[k]] from List.take_succ_eq_append_getElem hlt)
      obtain ⟨q, hq⟩ : ∃ q, q = hB (ks[k]).lang t := ⟨_, rfl⟩
      have HC := HIH.out _ (List.getElem_mem hlt) p wr hr0
      rw [← hq] at HC
      have HM := hide (List.getElem_mem hlt)
      have HC := hide HC
      have HQ := hide hq
      generalize ks[k] = kk at *
      clear g1 hr0 hq
      unfold PT at hc0 HC
      go_wp2_with fail
      refine HC.out.mono ?_
      rintro e w1 ⟨rfl, hb⟩
      have HB := hide (HW.out.trans (hb.mono HW.out.size))
      clear hb HC hc0
      cases q
      · go_wp2
        refine ⟨⟨k + 1, by omega, by go_num, ?_, HB⟩, by simp [intOf]; omega⟩
        intro x hx
        rw [HT.out] at hx
        rcases List.mem_append.1 hx with hx | hx
        · exact HN.out x hx
        · simp at hx; subst hx; exact HQ.out.symm
      · have HKY : Hid (hB (RE.mk 4 s ks).lang t = true) := by
          show _ = _
          exact hB_true ((lang4 rfl _).2 ⟨kk, HM.out, (hB_iff _ _).1 HQ.out.symm⟩)
        go_wp2
        go_ret
        refine ⟨?_, HB.out⟩
        rw [HKY.out]; rfl
    · obtain rfl : k = ks.length := by omega
      rw [List.take_length] at HN
      have HKY : Hid (hB (RE.mk 4 s ks).lang t = false) := by
        show _ = _
        refine hB_false fun h => ?_
        obtain ⟨x, hx, h2⟩ := (lang4 (r := .mk 4 s ks) rfl _).1 h
        have h3 := hB_true (t := t) h2
        rw [HN.out x hx] at h3; cases h3
      clear g1
      go_wp2
      go_ret
      refine ⟨?_, HW.out⟩
      rw [HKY.out]; rfl
set_option maxHeartbeats 1000000 in
theorem has6 (s : BitVec 256) (ks : List RE) (t : ByteArray) (ih : ∀ k ∈ ks, HasAt k t) : HasAt (.mk 6 s ks) t := by
  intro b w h
  obtain ⟨a, c, row, HX⟩ := h.see
  have x0 := (HX.out w (Below.refl _ _)).1
  have x5 := (HX.out w (Below.refl _ _)).2.2
  have HROW := hide row
  have HIH := hide ih
  obtain ⟨hn, -⟩ := row.at
  clear row h HX ih
  go_enter Tryd.func11, Tryd.ntmps11
  unfold PT
  go_wp2
  go_loopw [99] (fun i wr => ∃ k : Nat, k ≤ ks.length ∧ i = .int .i64 k ∧ Hid (∀ x ∈ ks.take k, hB x.lang t = true) ∧ Hid (Below w.heap.size w wr)) (fun i _ => ks.length - (intOf i).toNat)
  case atStart => exact ⟨0, by omega, rfl, (fun x hx => by simp at hx), Below.refl _ _⟩
  case round =>
    obtain ⟨k, hk1, rfl, HN, HW⟩ := hrel
    obtain ⟨-, a', cap', e1, g1⟩ := (HROW.out.below HW.out).at
    obtain ⟨rfl, rfl⟩ : a = a' ∧ c = cap' := by cases e1; exact ⟨rfl, rfl⟩
    clear e1
    by_cases hlt : k < ks.length
    · have hkd : decide (k < ks.length) = true := by simp [hlt]
      obtain ⟨g, f, p, rfl, -, hc0, hr0⟩ := g1 k hlt
      have HT := hide (show ks.take (k + 1) = ks.take k ++ [ks[k]] from List.take_succ_eq_append_getElem hlt)
      obtain ⟨q, hq⟩ : ∃ q, q = hB (ks[k]).lang t := ⟨_, rfl⟩
      have HC := HIH.out _ (List.getElem_mem hlt) p wr hr0
      rw [← hq] at HC
      have HM := hide (List.getElem_mem hlt)
      have HC := hide HC
      have HQ := hide hq
      generalize ks[k] = kk at *
      clear g1 hr0 hq
      unfold PT at hc0 HC
      go_wp2_with fail
      refine HC.out.mono ?_
      rintro e w1 ⟨rfl, hb⟩
      have HB := hide (HW.out.trans (hb.mono HW.out.size))
      clear hb HC hc0
      cases q
      · have HKY : Hid (hB (RE.mk 6 s ks).lang t = false) := by
          show _ = _
          refine hB_false fun h => ?_
          have h2 := hB_true (t := t) ((lang6 (r := .mk 6 s ks) rfl _).1 h kk HM.out)
          rw [← HQ.out] at h2; cases h2
        go_wp2
        go_ret
        refine ⟨?_, HB.out⟩
        rw [HKY.out]; rfl
      · go_wp2
        refine ⟨⟨k + 1, by omega, by go_num, ?_, HB⟩, by simp [intOf]; omega⟩
        intro x hx
        rw [HT.out] at hx
        rcases List.mem_append.1 hx with hx | hx
        · exact HN.out x hx
        · simp at hx; subst hx; exact HQ.out.symm
    · obtain rfl : k = ks.length := by omega
      rw [List.take_length] at HN
      have HKY : Hid (hB (RE.mk 6 s ks).lang t = true) := by
        show _ = _
        exact hB_true ((lang6 rfl _).2 fun x hx => (hB_iff _ _).1 (HN.out x hx))
      clear g1
      go_wp2
      go_ret
      refine ⟨?_, HW.out⟩
      rw [HKY.out]; rfl

theorem star_split (l : Lg) (u : List Nat) : starG l u ↔ u = [] ∨ ∃ j, 1 ≤ j ∧ j ≤ u.length ∧ l (u.take j) ∧ starG l (u.drop j) := by
  constructor
  · intro h
    cases h with
    | nil => exact .inl rfl
    | cons x y hx h1 h2 =>
      refine .inr ⟨x.length, ?_, by simp, by rw [List.take_left]; exact h1, by rw [List.drop_left]; exact h2⟩
      cases x with
      | nil => exact absurd rfl hx
      | cons => simp
  · rintro (rfl | ⟨j, h1, h2, h3, h4⟩)
    · exact .nil
    · rw [← List.take_append_drop j u]
      refine .cons _ _ (fun e => ?_) h3 h4
      have := congrArg List.length e
      rw [List.length_take, List.length_nil] at this
      omega
theorem lang_star1 (s : BitVec 256) (r : RE) (u : List Nat) : (RE.mk 5 s [r]).lang u ↔ starG r.lang u := by
  rw [lang5 rfl]
  constructor
  · rintro (rfl | ⟨l, e, h⟩)
    · exact .nil
    · have e : [r.lang] = [l] := e
      have : r.lang = l := by injection e
      rw [this]; exact h
  · intro h; exact .inr ⟨_, rfl, h⟩
theorem has5_nil (s : BitVec 256) (r : RE) (t : ByteArray) (h0 : t.size = 0) : HasAt (.mk 5 s [r]) t := by
  intro b w h
  obtain ⟨a, c, row, HX⟩ := h.see
  have x0 := (HX.out w (Below.refl _ _)).1
  have e0 : bytesN t = [] := List.eq_nil_of_length_eq_zero (by rw [bytesN_length]; omega)
  have htl : t.toList.isEmpty = true := by rw [← hB_nil]; exact hB_true e0
  rw [hB_true ((lang5 rfl _).2 (.inl e0))]
  clear row h HX
  go_enter Tryd.func11, Tryd.ntmps11
  unfold PT
  go_wp2
  go_ret
  exact ⟨rfl, Below.refl _ _⟩
set_option maxHeartbeats 2000000 in
theorem has5 (s : BitVec 256) (r : RE) (ih : ∀ t, t.size ≤ 1000 → HasAt r t) : ∀ (n : Nat) (t : ByteArray), t.size ≤ n → t.size ≤ 1000 → HasAt (.mk 5 s [r]) t := by
  intro n
  induction n with
  | zero =>
    intro t hn ht
    exact has5_nil s r t (by omega)
  | succ n IH =>
    intro t hn ht
    by_cases h0 : t.size = 0
    · exact has5_nil s r t h0
    intro b w h
    obtain ⟨a, c, row, HX⟩ := h.see
    have HX : Hid (∀ W, Below w.heap.size w W → W.cell? ⟨b, 0, none⟩ = some (.int .i64 5) ∧ (∀ j, j < 4 → W.cell? ⟨b, 1 + j, none⟩ = some (.int .u64 (wd s j))) ∧ W.cell? ⟨b, 5, none⟩ = some (.slice a 1 c)) := HX
    have HH := hide h
    obtain ⟨-, a', c', e1, q⟩ := row.at
    obtain ⟨rfl, rfl⟩ : a = a' ∧ c = c' := by cases e1; exact ⟨rfl, rfl⟩
    obtain ⟨g, f, p, rfl, -, hc0, hr0⟩ := q 0 (by simp)
    have hq1 : ∀ W, Below w.heap.size w W → W.cell? ⟨g, f + 0, none⟩ = some (PT p) := fun W hW => (World.cell?_of_block (w := w) (hW.block _ (World.block_lt_of_cell? _ _ hc0))).trans hc0
    have hr1 : ∀ W, Below w.heap.size w W → ReAt W p r := fun W hW => by have := hr0.keep hW; simpa using this
    have HQ1 := hide hq1
    have HR1 := hide hr1
    clear q hc0 hr0 hq1 hr1 row h e1
    have htl : t.toList.isEmpty = false := by
      rw [← hB_nil]
      refine hB_false fun h => h0 ?_
      have h : bytesN t = [] := h
      rw [← bytesN_length, h]; rfl
    have HL : Hid (∀ j, 1 ≤ j → j ≤ t.size → r.lang ((bytesN t).take j) → (RE.mk 5 s [r]).lang ((bytesN t).drop j) → hB (RE.mk 5 s [r]).lang t = true) := fun j h1 h2 h3 h4 =>
      hB_true ((lang_star1 s r _).2 ((star_split _ _).2 (.inr ⟨j, h1, by rw [bytesN_length]; exact h2, h3, (lang_star1 s r _).1 h4⟩)))
    have HL2 : Hid ((∀ j, 1 ≤ j → j ≤ t.size → ¬ (r.lang ((bytesN t).take j) ∧ (RE.mk 5 s [r]).lang ((bytesN t).drop j))) → hB (RE.mk 5 s [r]).lang t = false) := fun h => hB_false fun h' => by
      rcases (star_split _ _).1 ((lang_star1 s r _).1 h') with h1 | ⟨j, h1, h2, h3, h4⟩
      · exact h0 (by rw [← bytesN_length, h1]; rfl)
      · exact h j h1 (by rw [← bytesN_length]; exact h2) ⟨h3, (lang_star1 s r _).2 h4⟩
    have HIH := hide IH
    have HI := hide ih
    have HH0 := hide h0
    clear IH ih h0
    obtain ⟨S, hS⟩ : ∃ S, S = (RE.mk 5 s [r]) := ⟨_, rfl⟩
    rw [← hS] at HL HL2 HIH HH ⊢
    clear hS
    have HG : Hid (Grows fun W => Below w.heap.size w W) := fun W W' h1 h2 => h1.trans (h2.mono h1.size)
    have x0 := (HX.out w (Below.refl _ _)).1
    go_enter Tryd.func11, Tryd.ntmps11
    unfold PT
    go_wp2
    clear x0
    go_loopw [7] (fun i wr => ∃ k : Nat, 1 ≤ k ∧ k ≤ t.size + 1 ∧ i = .int .i64 k ∧ Hid (∀ j, 1 ≤ j → j < k → ¬ (r.lang ((bytesN t).take j) ∧ S.lang ((bytesN t).drop j))) ∧ Hid (Below w.heap.size w wr)) (fun i _ => t.size + 1 - (intOf i).toNat)
    case atStart => exact ⟨1, by omega, by omega, rfl, (fun j h1 h2 => by omega), Below.refl _ _⟩
    case round =>
      obtain ⟨k, hk0, hk1, rfl, HN, HW⟩ := hrel
      have y5 := (HX.out wr HW.out).2.2
      by_cases hk : k ≤ t.size
      · have hkd : decide ((k : Int) ≤ t.size) = true := by simp; omega
        have hkd2 : decide (k ≤ t.size) = true := by simp [hk]
        have hG := HG.out
        have hq1 := HQ1.out
        obtain ⟨b1, hb1⟩ : ∃ b1, b1 = hB r.lang (t.extract 0 k) := ⟨_, rfl⟩
        have hq2 : ∀ W, Below w.heap.size w W → Calls Tryd.prog 11 #[PT p, .string (t.extract 0 k)] W fun e w' => e = .returned (.bool b1) ∧ Below W.heap.size W w' := fun W hW => by
          rw [hb1]; exact HI.out _ (by rw [size_take _ _ hk]; omega) p W (HR1.out W hW)
        have HQ2 := hide hq2
        clear hq2 hG hq1
        go_wp2
        clear y5
        have hG := HG.out
        have hq1 := HQ1.out
        have hq2 := HQ2.out
        cases b1
        · have HF : Hid (¬ r.lang ((bytesN t).take k)) := fun h => by rw [← bytesN_take] at h; rw [hB_true h] at hb1; cases hb1
          clear hb1
          refine w_lit (C := fun W => Below w.heap.size w W) (by kernel_rfl) (by kernel_rfl) (HW.out.trans ⟨rfl, rfl, rfl, Nat.le_refl _, fun _ _ => rfl⟩) ?_
          refine w_value (PT b) (by kernel_rfl) (fun w hw => x_move _ _ _ _ _ _ _ _ rfl w) ?_
          simp only [Act.put, List.setIfInBounds_toArray, List.set_cons_succ, List.set_cons_zero]
          refine w_value (PT b) (by kernel_rfl) (fun w hw => x_nilCheck _ _ _ _ _ _ _ _ rfl w) ?_
          simp only [Act.put, List.setIfInBounds_toArray, List.set_cons_succ, List.set_cons_zero]
          refine w_value (.pointer (some ⟨b, 5, none⟩)) (by kernel_rfl) (fun w hw => x_field2 _ _ _ _ _ _ _ _ rfl w) ?_
          simp only [Act.put, List.setIfInBounds_toArray, List.set_cons_succ, List.set_cons_zero]
          refine w_value (.slice (some ⟨g, f, none⟩) 1 c) (by kernel_rfl) (fun w hw => x_loadKids _ _ _ _ _ _ _ b 5 _ rfl w (HX.out w hw).2.2) ?_
          simp only [Act.put, List.setIfInBounds_toArray, List.set_cons_succ, List.set_cons_zero]
          refine w_value (.pointer (some ⟨g, f + 0, none⟩)) (by kernel_rfl) (fun w hw => x_idxP _ _ _ _ _ _ _ _ g f 1 c 0 rfl rfl (by omega) w) ?_
          simp only [Act.put, List.setIfInBounds_toArray, List.set_cons_succ, List.set_cons_zero]
          refine w_value (PT p) (by kernel_rfl) (fun w hw => x_loadP _ _ _ _ _ _ _ _ _ _ rfl w (hq1 w hw)) ?_
          simp only [Act.put, List.setIfInBounds_toArray, List.set_cons_succ, List.set_cons_zero]
          refine w_value (.string t) (by kernel_rfl) (fun w hw => x_move _ _ _ _ _ _ _ _ rfl w) ?_
          simp only [Act.put, List.setIfInBounds_toArray, List.set_cons_succ, List.set_cons_zero]
          refine w_value (.int .i64 k) (by kernel_rfl) (fun w hw => x_move _ _ _ _ _ _ _ _ rfl w) ?_
          simp only [Act.put, List.setIfInBounds_toArray, List.set_cons_succ, List.set_cons_zero]
          refine w_value (.string (t.extract 0 k)) (by kernel_rfl) (fun w hw => x_strTo _ _ _ _ _ _ _ _ t k rfl rfl hk w) ?_
          simp only [Act.put, List.setIfInBounds_toArray, List.set_cons_succ, List.set_cons_zero]
          refine w_call hG 11 #[PT p, .string (t.extract 0 k)] (.bool false) (by kernel_rfl) (fun w => x_call2 _ _ _ _ _ _ _ _ _ _ _ _ _ rfl rfl rfl (enters_of Tryd.func11 (by kernel_rfl) rfl) w) (fun w hw => hq2 w hw) ?_
          simp only [Act.put, List.setIfInBounds_toArray, List.set_cons_succ, List.set_cons_zero]
          refine w_value (.bool false) (by kernel_rfl) (fun w hw => x_move _ _ _ _ _ _ _ _ rfl w) ?_
          simp only [Act.put, List.setIfInBounds_toArray, List.set_cons_succ, List.set_cons_zero]
          refine w_skip (by kernel_rfl) ?_
          simp only [Act.put, List.setIfInBounds_toArray, List.set_cons_succ, List.set_cons_zero]
          refine w_skip (by kernel_rfl) ?_
          simp only [Act.put, List.setIfInBounds_toArray, List.set_cons_succ, List.set_cons_zero]
          refine w_skip (by kernel_rfl) ?_
          simp only [Act.put, List.setIfInBounds_toArray, List.set_cons_succ, List.set_cons_zero]
          refine w_skip (by kernel_rfl) ?_
          simp only [Act.put, List.setIfInBounds_toArray, List.set_cons_succ, List.set_cons_zero]
          refine w_skip (by kernel_rfl) ?_
          simp only [Act.put, List.setIfInBounds_toArray, List.set_cons_succ, List.set_cons_zero]
          refine w_value (.bool false) (by kernel_rfl) (fun w hw => x_pick _ _ _ _ _ _ _ _ _ false undef (.bool false) rfl rfl rfl w) ?_
          simp only [Act.put, List.setIfInBounds_toArray, List.set_cons_succ, List.set_cons_zero]
          refine w_nil ?_
          intro W hW
          have HWW := hide hW
          clear hW hG hq2 hq1 HQ2
          go_wp2
          refine ⟨⟨k + 1, by omega, by omega, by go_num, ?_, HWW⟩, by simp [intOf]; omega⟩
          intro j hj1 hj h
          by_cases hjk : j = k
          · subst hjk; exact HF.out h.1
          · exact HN.out j hj1 (by omega) h
        · have HTR : Hid (r.lang ((bytesN t).take k)) := by
            show r.lang _
            rw [← bytesN_take]; exact (hB_iff _ _).1 hb1.symm
          obtain ⟨b2, hb2⟩ : ∃ b2, b2 = hB S.lang (t.extract k t.size) := ⟨_, rfl⟩
          have hq3 : ∀ W, Below w.heap.size w W → Calls Tryd.prog 11 #[PT b, .string (t.extract k t.size)] W fun e w' => e = .returned (.bool b2) ∧ Below W.heap.size W w' := fun W hW => by
            have hz := size_drop t k
            rw [hb2]
            exact HIH.out _ (by omega) (by omega) b W (HH.out.keep hW)
          cases b2
          · have HF : Hid (¬ S.lang ((bytesN t).drop k)) := fun h => by rw [← bytesN_drop] at h; rw [hB_true h] at hb2; cases hb2
            clear hb1 hb2
            refine w_lit (C := fun W => Below w.heap.size w W) (by kernel_rfl) (by kernel_rfl) (HW.out.trans ⟨rfl, rfl, rfl, Nat.le_refl _, fun _ _ => rfl⟩) ?_
            refine w_value (PT b) (by kernel_rfl) (fun w hw => x_move _ _ _ _ _ _ _ _ rfl w) ?_
            simp only [Act.put, List.setIfInBounds_toArray, List.set_cons_succ, List.set_cons_zero]
            refine w_value (PT b) (by kernel_rfl) (fun w hw => x_nilCheck _ _ _ _ _ _ _ _ rfl w) ?_
            simp only [Act.put, List.setIfInBounds_toArray, List.set_cons_succ, List.set_cons_zero]
            refine w_value (.pointer (some ⟨b, 5, none⟩)) (by kernel_rfl) (fun w hw => x_field2 _ _ _ _ _ _ _ _ rfl w) ?_
            simp only [Act.put, List.setIfInBounds_toArray, List.set_cons_succ, List.set_cons_zero]
            refine w_value (.slice (some ⟨g, f, none⟩) 1 c) (by kernel_rfl) (fun w hw => x_loadKids _ _ _ _ _ _ _ b 5 _ rfl w (HX.out w hw).2.2) ?_
            simp only [Act.put, List.setIfInBounds_toArray, List.set_cons_succ, List.set_cons_zero]
            refine w_value (.pointer (some ⟨g, f + 0, none⟩)) (by kernel_rfl) (fun w hw => x_idxP _ _ _ _ _ _ _ _ g f 1 c 0 rfl rfl (by omega) w) ?_
            simp only [Act.put, List.setIfInBounds_toArray, List.set_cons_succ, List.set_cons_zero]
            refine w_value (PT p) (by kernel_rfl) (fun w hw => x_loadP _ _ _ _ _ _ _ _ _ _ rfl w (hq1 w hw)) ?_
            simp only [Act.put, List.setIfInBounds_toArray, List.set_cons_succ, List.set_cons_zero]
            refine w_value (.string t) (by kernel_rfl) (fun w hw => x_move _ _ _ _ _ _ _ _ rfl w) ?_
            simp only [Act.put, List.setIfInBounds_toArray, List.set_cons_succ, List.set_cons_zero]
            refine w_value (.int .i64 k) (by kernel_rfl) (fun w hw => x_move _ _ _ _ _ _ _ _ rfl w) ?_
            simp only [Act.put, List.setIfInBounds_toArray, List.set_cons_succ, List.set_cons_zero]
            refine w_value (.string (t.extract 0 k)) (by kernel_rfl) (fun w hw => x_strTo _ _ _ _ _ _ _ _ t k rfl rfl hk w) ?_
            simp only [Act.put, List.setIfInBounds_toArray, List.set_cons_succ, List.set_cons_zero]
            refine w_call hG 11 #[PT p, .string (t.extract 0 k)] (.bool true) (by kernel_rfl) (fun w => x_call2 _ _ _ _ _ _ _ _ _ _ _ _ _ rfl rfl rfl (enters_of Tryd.func11 (by kernel_rfl) rfl) w) (fun w hw => hq2 w hw) ?_
            simp only [Act.put, List.setIfInBounds_toArray, List.set_cons_succ, List.set_cons_zero]
            refine w_value (.bool true) (by kernel_rfl) (fun w hw => x_move _ _ _ _ _ _ _ _ rfl w) ?_
            simp only [Act.put, List.setIfInBounds_toArray, List.set_cons_succ, List.set_cons_zero]
            refine w_value (PT b) (by kernel_rfl) (fun w hw => x_move _ _ _ _ _ _ _ _ rfl w) ?_
            simp only [Act.put, List.setIfInBounds_toArray, List.set_cons_succ, List.set_cons_zero]
            refine w_value (.string t) (by kernel_rfl) (fun w hw => x_move _ _ _ _ _ _ _ _ rfl w) ?_
            simp only [Act.put, List.setIfInBounds_toArray, List.set_cons_succ, List.set_cons_zero]
            refine w_value (.int .i64 k) (by kernel_rfl) (fun w hw => x_move _ _ _ _ _ _ _ _ rfl w) ?_
            simp only [Act.put, List.setIfInBounds_toArray, List.set_cons_succ, List.set_cons_zero]
            refine w_value (.string (t.extract k t.size)) (by kernel_rfl) (fun w hw => x_strFrom _ _ _ _ _ _ _ _ t k rfl rfl hk w) ?_
            simp only [Act.put, List.setIfInBounds_toArray, List.set_cons_succ, List.set_cons_zero]
            refine w_call hG 11 #[PT b, .string (t.extract k t.size)] (.bool false) (by kernel_rfl) (fun w => x_call2 _ _ _ _ _ _ _ _ _ _ _ _ _ rfl rfl rfl (enters_of Tryd.func11 (by kernel_rfl) rfl) w) (fun w hw => hq3 w hw) ?_
            simp only [Act.put, List.setIfInBounds_toArray, List.set_cons_succ, List.set_cons_zero]
            refine w_value (.bool false) (by kernel_rfl) (fun w hw => x_pick _ _ _ _ _ _ _ _ _ true (.bool false) (.bool false) rfl rfl rfl w) ?_
            simp only [Act.put, List.setIfInBounds_toArray, List.set_cons_succ, List.set_cons_zero]
            refine w_nil ?_
            intro W hW
            have HWW := hide hW
            clear hW hG hq2 hq3 hq1 HQ2
            go_wp2
            refine ⟨⟨k + 1, by omega, by omega, by go_num, ?_, HWW⟩, by simp [intOf]; omega⟩
            intro j hj1 hj h
            by_cases hjk : j = k
            · subst hjk; exact HF.out h.2
            · exact HN.out j hj1 (by omega) h
          · have HKY : Hid (hB S.lang t = true) := HL.out k hk0 hk HTR.out (by rw [← bytesN_drop]; exact (hB_iff _ _).1 hb2.symm)
            clear hb1 hb2
            refine w_lit (C := fun W => Below w.heap.size w W) (by kernel_rfl) (by kernel_rfl) (HW.out.trans ⟨rfl, rfl, rfl, Nat.le_refl _, fun _ _ => rfl⟩) ?_
            refine w_value (PT b) (by kernel_rfl) (fun w hw => x_move _ _ _ _ _ _ _ _ rfl w) ?_
            simp only [Act.put, List.setIfInBounds_toArray, List.set_cons_succ, List.set_cons_zero]
            refine w_value (PT b) (by kernel_rfl) (fun w hw => x_nilCheck _ _ _ _ _ _ _ _ rfl w) ?_
            simp only [Act.put, List.setIfInBounds_toArray, List.set_cons_succ, List.set_cons_zero]
            refine w_value (.pointer (some ⟨b, 5, none⟩)) (by kernel_rfl) (fun w hw => x_field2 _ _ _ _ _ _ _ _ rfl w) ?_
            simp only [Act.put, List.setIfInBounds_toArray, List.set_cons_succ, List.set_cons_zero]
            refine w_value (.slice (some ⟨g, f, none⟩) 1 c) (by kernel_rfl) (fun w hw => x_loadKids _ _ _ _ _ _ _ b 5 _ rfl w (HX.out w hw).2.2) ?_
            simp only [Act.put, List.setIfInBounds_toArray, List.set_cons_succ, List.set_cons_zero]
            refine w_value (.pointer (some ⟨g, f + 0, none⟩)) (by kernel_rfl) (fun w hw => x_idxP _ _ _ _ _ _ _ _ g f 1 c 0 rfl rfl (by omega) w) ?_
            simp only [Act.put, List.setIfInBounds_toArray, List.set_cons_succ, List.set_cons_zero]
            refine w_value (PT p) (by kernel_rfl) (fun w hw => x_loadP _ _ _ _ _ _ _ _ _ _ rfl w (hq1 w hw)) ?_
            simp only [Act.put, List.setIfInBounds_toArray, List.set_cons_succ, List.set_cons_zero]
            refine w_value (.string t) (by kernel_rfl) (fun w hw => x_move _ _ _ _ _ _ _ _ rfl w) ?_
            simp only [Act.put, List.setIfInBounds_toArray, List.set_cons_succ, List.set_cons_zero]
            refine w_value (.int .i64 k) (by kernel_rfl) (fun w hw => x_move _ _ _ _ _ _ _ _ rfl w) ?_
            simp only [Act.put, List.setIfInBounds_toArray, List.set_cons_succ, List.set_cons_zero]
            refine w_value (.string (t.extract 0 k)) (by kernel_rfl) (fun w hw => x_strTo _ _ _ _ _ _ _ _ t k rfl rfl hk w) ?_
            simp only [Act.put, List.setIfInBounds_toArray, List.set_cons_succ, List.set_cons_zero]
            refine w_call hG 11 #[PT p, .string (t.extract 0 k)] (.bool true) (by kernel_rfl) (fun w => x_call2 _ _ _ _ _ _ _ _ _ _ _ _ _ rfl rfl rfl (enters_of Tryd.func11 (by kernel_rfl) rfl) w) (fun w hw => hq2 w hw) ?_
            simp only [Act.put, List.setIfInBounds_toArray, List.set_cons_succ, List.set_cons_zero]
            refine w_value (.bool true) (by kernel_rfl) (fun w hw => x_move _ _ _ _ _ _ _ _ rfl w) ?_
            simp only [Act.put, List.setIfInBounds_toArray, List.set_cons_succ, List.set_cons_zero]
            refine w_value (PT b) (by kernel_rfl) (fun w hw => x_move _ _ _ _ _ _ _ _ rfl w) ?_
            simp only [Act.put, List.setIfInBounds_toArray, List.set_cons_succ, List.set_cons_zero]
            refine w_value (.string t) (by kernel_rfl) (fun w hw => x_move _ _ _ _ _ _ _ _ rfl w) ?_
            simp only [Act.put, List.setIfInBounds_toArray, List.set_cons_succ, List.set_cons_zero]
            refine w_value (.int .i64 k) (by kernel_rfl) (fun w hw => x_move _ _ _ _ _ _ _ _ rfl w) ?_
            simp only [Act.put, List.setIfInBounds_toArray, List.set_cons_succ, List.set_cons_zero]
            refine w_value (.string (t.extract k t.size)) (by kernel_rfl) (fun w hw => x_strFrom _ _ _ _ _ _ _ _ t k rfl rfl hk w) ?_
            simp only [Act.put, List.setIfInBounds_toArray, List.set_cons_succ, List.set_cons_zero]
            refine w_call hG 11 #[PT b, .string (t.extract k t.size)] (.bool true) (by kernel_rfl) (fun w => x_call2 _ _ _ _ _ _ _ _ _ _ _ _ _ rfl rfl rfl (enters_of Tryd.func11 (by kernel_rfl) rfl) w) (fun w hw => hq3 w hw) ?_
            simp only [Act.put, List.setIfInBounds_toArray, List.set_cons_succ, List.set_cons_zero]
            refine w_value (.bool true) (by kernel_rfl) (fun w hw => x_pick _ _ _ _ _ _ _ _ _ true (.bool true) (.bool false) rfl rfl rfl w) ?_
            simp only [Act.put, List.setIfInBounds_toArray, List.set_cons_succ, List.set_cons_zero]
            refine w_nil ?_
            intro W hW
            have HWW := hide hW
            clear hW hG hq2 hq3 hq1 HQ2
            go_wp2
            go_ret
            refine ⟨?_, HWW.out⟩
            rw [HKY.out]; rfl
      · have hkd : decide ((k : Int) ≤ t.size) = false := by simp; omega
        have hkd2 : decide (k ≤ t.size) = false := by simp; omega
        have HKY : Hid (hB S.lang t = false) := HL2.out fun j h1 h2 => HN.out j h1 (by omega)
        go_wp2
        go_ret
        refine ⟨?_, HW.out⟩
        rw [HKY.out]; rfl
set_option maxHeartbeats 1000000 in
theorem has7 (s : BitVec 256) (x y : RE) (t : ByteArray) (hx : HasAt x t) (hy : HasAt y t) : HasAt (.mk 7 s [x, y]) t := by
  intro b w h
  obtain ⟨a, c, row, HX⟩ := h.see
  have HX : Hid (∀ W, Below w.heap.size w W → W.cell? ⟨b, 0, none⟩ = some (.int .i64 7) ∧ (∀ j, j < 4 → W.cell? ⟨b, 1 + j, none⟩ = some (.int .u64 (wd s j))) ∧ W.cell? ⟨b, 5, none⟩ = some (.slice a 2 c)) := HX
  obtain ⟨-, a', c', e1, q⟩ := row.at
  obtain ⟨rfl, rfl⟩ : a = a' ∧ c = c' := by cases e1; exact ⟨rfl, rfl⟩
  obtain ⟨g, f, p, rfl, -, hc0, hr0⟩ := q 0 (by simp)
  obtain ⟨g', f', p', e2, -, hc1, hr1⟩ := q 1 (by simp)
  obtain ⟨rfl, rfl⟩ : g = g' ∧ f = f' := by cases e2; exact ⟨rfl, rfl⟩
  have hr0 : ReAt w p x := hr0
  have hr1 : ReAt w p' y := hr1
  have HR1 := hide hr1
  have HC1 := hide hc1
  have HB0 : Hid (hB (RE.mk 7 s [x, y]).lang t = (hB x.lang t && !hB y.lang t)) := by
    show _ = _
    have hl := lang7 (r := RE.mk 7 s [x, y]) rfl (bytesN t)
    cases h1 : hB x.lang t with
    | false =>
      refine hB_false fun h => ?_
      obtain ⟨u, v, e, h2, h3⟩ := hl.1 h
      have e : [x.lang, y.lang] = [u, v] := e
      have : x.lang = u := by injection e
      rw [← this] at h2
      rw [hB_true h2] at h1; cases h1
    | true =>
      cases h2 : hB y.lang t with
      | false => exact hB_true (hl.2 ⟨_, _, rfl, (hB_iff _ _).1 h1, fun h => by rw [hB_true h] at h2; cases h2⟩)
      | true =>
        refine hB_false fun h => ?_
        obtain ⟨u, v, e, h3, h4⟩ := hl.1 h
        have e : [x.lang, y.lang] = [u, v] := e
        injection e with e e'
        injection e' with e'
        exact h4 (e' ▸ (hB_iff _ _).1 h2)
  have x0 := (HX.out w (Below.refl _ _)).1
  have x5 := (HX.out w (Below.refl _ _)).2.2
  have hc0' : w.cell? ⟨g, f, none⟩ = some (PT p) := hc0
  have HC := hide (hx p w hr0)
  have HD := hide hy
  rw [HB0.out]
  clear row h e1 e2 q hr0 hr1 hx hy HB0 hc1 hc0
  obtain ⟨q1, hq1⟩ : ∃ q1, q1 = hB x.lang t := ⟨_, rfl⟩
  obtain ⟨q2, hq2⟩ : ∃ q2, q2 = hB y.lang t := ⟨_, rfl⟩
  rw [← hq1] at HC ⊢
  rw [← hq2] 
  have HQ2 := hide hq2
  clear hq1 hq2
  unfold PT at hc0' HC
  go_enter Tryd.func11, Tryd.ntmps11
  unfold PT
  go_wp2_with fail
  refine HC.out.mono ?_
  rintro e w1 ⟨rfl, hb⟩
  have HB := hide hb
  have y5 := (HX.out w1 hb).2.2
  have hd1 : w1.cell? ⟨g, f + 1, none⟩ = some (PT p') := (World.cell?_of_block (w := w) (hb.block _ (World.block_lt_of_cell? _ _ HC1.out))).trans HC1.out
  have HE := HD.out p' w1 (HR1.out.keep hb)
  rw [← HQ2.out] at HE
  have HE := hide HE
  clear hb HC HD x0 x5 hc0' HC1 HX HR1
  unfold PT at hd1 HE
  cases q1
  · go_wp2
    go_ret
    exact ⟨by simp, HB.out⟩
  · go_wp2_with fail
    refine HE.out.mono ?_
    rintro e w2 ⟨rfl, hb⟩
    have HB2 := hide (HB.out.trans (hb.mono HB.out.size))
    clear hb HE
    go_wp2
    go_ret
    exact ⟨by simp, HB2.out⟩

theorem reHas_any (r : RE) : Wf r → ∀ t, t.size ≤ 1000 → HasAt r t := by
  refine RE.ind (P := fun r => Wf r → ∀ t, t.size ≤ 1000 → HasAt r t) ?_ r
  intro o s ks ih hw t ht
  have hs := hw.shp
  have hk : ∀ k ∈ ks, ∀ t, t.size ≤ 1000 → HasAt k t := fun k hk => ih k hk (hw.kid k hk)
  simp only [RE.op, RE.set, RE.kids] at hs
  have ho := hs.op
  obtain h | h | h | h | h | h | h | h : o = 0 ∨ o = 1 ∨ o = 2 ∨ o = 3 ∨ o = 4 ∨ o = 5 ∨ o = 6 ∨ o = 7 := by omega
  all_goals subst h
  · exact has0 s ks t
  · exact has1 s ks t
  · exact has2 s ks t
  · exact has3 s ks t ht fun k hk' t' ht' => hk k hk' t' (by omega)
  · exact has4 s ks t fun k hk' => hk k hk' t ht
  · obtain ⟨k, rfl, -⟩ := hs.star rfl
    exact has5 s k (hk k (by simp)) _ t (Nat.le_refl _) ht
  · exact has6 s ks t fun k hk' => hk k hk' t ht
  · obtain ⟨x, y, rfl, -⟩ := hs.minus rfl
    exact has7 s x y t (hk x (by simp) t ht) (hk y (by simp) t ht)
end Go.Proofs.YthemadegffhmfaaDoor
/- In and cat: a text is one of a shape's, by the page. -/
namespace Go.Proofs.YthemadegffhmfaaDoor
set_option maxRecDepth 100000
set_option linter.unusedSimpArgs false
set_option linter.unusedVariables false
open Go.RowKit

theorem x_sliceOneSh (ρ : Operand → Value) (d : Option Tmp) (x : Operand) (ty : TypeId) (pos : String) (af : Array Edge) (g : Option (Nat × Bool)) (b off len cap off2 : Nat) (ho : off2 = if cap = 1 then off else off + 5) (hx : ρ x = .slice (some ⟨b, off, none⟩) (len + 1) cap) (hy : ρ (.const (.int .i64 1)) = .int .i64 1) (w : World) :
    (execOp ρ { dst := d, op := .slice 22 x (some (.const (.int .i64 1))) none none, type := ty, pos := pos, after := af, guard := g }).run Tryd.prog w =   .ok (.value (.slice (some ⟨b, off2, none⟩) len (cap - 1))) w := by
  rw [ho]
  have h1 : (1 : Int) ≤ (len : Int) + 1 := by omega
  have h5 := cells5
  simp [go_sem, hx, hy, h1]
  split <;> rfl
theorem x_idxSh0 (ρ : Operand → Value) (d : Option Tmp) (x : Operand) (t : TypeId) (pos : String) (af : Array Edge) (g : Option (Nat × Bool)) (b off len cap : Nat) (hx : ρ x = .slice (some ⟨b, off, none⟩) len cap) (hy : ρ (.const (.int .i64 0)) = .int .i64 0) (h1 : 0 < len) (w : World) :
    (execOp ρ { dst := d, op := .indexAddr 22 x (.const (.int .i64 0)), type := t, pos := pos, after := af, guard := g }).run Tryd.prog w = .ok (.value (.pointer (some ⟨b, off, none⟩))) w := by
  simp [go_sem, hx, hy, h1]
theorem x_loadSh (ρ : Operand → Value) (d : Option Tmp) (x : Operand) (t : TypeId) (pos : String) (af : Array Edge) (g : Option (Nat × Bool)) (b off : Nat) (cs : List Value) (hx : ρ x = .pointer (some ⟨b, off, none⟩)) (w : World) (hl : cs.length = 5) (hc : ∀ j u, cs[j]? = some u → w.cell? ⟨b, off + j, none⟩ = some u) :
    (execOp ρ { dst := d, op := .load 24 x, type := t, pos := pos, after := af, guard := g }).run Tryd.prog w = .ok (.value (ShVal cs)) w := by
  match cs, hl, hc with
  | [c0, c1, c2, c3, c4], _, hc =>
    have e0 := hc 0 c0 rfl
    have e1 := hc 1 c1 rfl
    have e2 := hc 2 c2 rfl
    have e3 := hc 3 c3 rfl
    have e4 := hc 4 c4 rfl
    rw [Nat.add_zero] at e0
    simp [go_sem, hx, e0, e1, e2, e3, e4, ShVal]
theorem x_loadSl (ρ : Operand → Value) (d : Option Tmp) (x : Operand) (t : TypeId) (pos : String) (af : Array Edge) (g : Option (Nat × Bool)) (b n : Nat) (v : Value) (hx : ρ x = .pointer (some ⟨b, n, none⟩)) (w : World) (hc : w.cell? ⟨b, n, none⟩ = some v) :
    (execOp ρ { dst := d, op := .load 22 x, type := t, pos := pos, after := af, guard := g }).run Tryd.prog w = .ok (.value v) w := by
  simp [go_sem, hx, hc]
theorem x_fieldS4 (ρ : Operand → Value) (d : Option Tmp) (x : Operand) (t : TypeId) (pos : String) (af : Array Edge) (g : Option (Nat × Bool)) (b : Nat) (hx : ρ x = PT b) (w : World) :
    (execOp ρ { dst := d, op := .fieldAddr 24 x 4, type := t, pos := pos, after := af, guard := g }).run Tryd.prog w = .ok (.value (.pointer (some ⟨b, 4, none⟩))) w := by
  simp [go_sem, hx, PT]

theorem ShC.len {w : World} {cs : List Value} {s : SHP} (h : ShC w cs s) : cs.length = 5 := by
  obtain ⟨v, rfl, -⟩ := h.open; rfl
/-- The row without its first; its first. -/
theorem ShsRow.uncons {w : World} {g f c : Nat} {s : SHP} {l : List SHP} (h : ShsRow w (.slice (some ⟨g, f, none⟩) (l.length + 1) c) (s :: l)) :
    (∃ cs, ShC w cs s ∧ g < w.heap.size ∧ ∀ j u, cs[j]? = some u → w.cell? ⟨g, f + j, none⟩ = some u) ∧ ShsRow w (.slice (some ⟨g, if c = 1 then f else f + 5, none⟩) l.length (c - 1)) l := by
  have hc : l.length + 1 ≤ c := h.cap _ _ _ rfl
  obtain ⟨cells, ⟨h0, a, cap, e, h1⟩, h2⟩ := h
  injection e with e1 e2 e3
  subst e1 e3
  refine ⟨?_, fun i => cells (i + 1), ⟨⟨by have := h0.1; simp at this; omega, .mk (by omega)⟩, _, _, rfl, fun k hk => ?_⟩, fun i k hk => h2 (i + 1) k (by simpa using hk)⟩
  · obtain ⟨h3, b, off, e, h4, h5⟩ := h1 0 (by simp)
    injection e with e; injection e with e5 e6
    subst e5 e6
    exact ⟨cells 0, h2 0 s rfl, h4, fun j u hu => by have := h5 j u hu; simpa using this⟩
  · obtain ⟨h3, b, off, e, h4, h5⟩ := h1 (k + 1) (by simp; omega)
    injection e with e; injection e with e5 e6
    subst e5 e6
    rw [if_neg (by omega)]
    exact ⟨h3, g, f + 5, rfl, h4, fun j u hu => by rw [← h5 j u hu]; congr 2; omega⟩
theorem ShsRow.first {w : World} {v : Value} {s : SHP} {l : List SHP} (h : ShsRow w v (s :: l)) : ∃ g f c, v = .slice (some ⟨g, f, none⟩) (l.length + 1) c := by
  obtain ⟨-, a, c, rfl, q⟩ := h.at
  obtain ⟨b, off, kv, rfl, -⟩ := q 0 (by simp)
  exact ⟨b, off, c, rfl⟩

abbrev InAt (s : SHP) (t : ByteArray) : Prop := ∀ (cs : List Value) (w : World), ShC w cs s → Calls Tryd.prog 12 #[ShVal cs, .string t] w fun e w' => e = .returned (.bool (hB s.lang t)) ∧ Below w.heap.size w w'

set_option maxHeartbeats 1000000 in
theorem catSh_any (l : List SHP) : ∀ (v : Value) (t : ByteArray) (w : World), t.size ≤ 1000 → ShsRow w v l → (∀ s ∈ l, ∀ t', t'.size ≤ t.size → InAt s t') →
    Calls Tryd.prog 36 #[v, .string t] w fun e w' => e = .returned (.bool (hB (catG (l.map SHP.lang)) t)) ∧ Below w.heap.size w w' := by
  induction l with
  | nil =>
    intro v t w ht hrow _
    obtain ⟨-, a, cap, rfl, -⟩ := hrow.at
    clear hrow
    have HR : Hid (hB (catG (([] : List SHP).map SHP.lang)) t = t.toList.isEmpty) := hB_nil t
    rw [HR.out]
    go_enter Tryd.func36, Tryd.ntmps36
    go_wp2
    go_ret
    exact ⟨rfl, Below.refl _ _⟩
  | cons s l ih =>
    intro v t w ht hrow hH
    obtain ⟨hn, -⟩ := hrow.at
    obtain ⟨g, f, c, rfl⟩ := hrow.first
    obtain ⟨⟨cs, hcs, hgl, hcell⟩, htail⟩ := hrow.uncons
    rw [List.length_cons] at hn
    have hlen := hcs.len
    have hq1 : ∀ W, Below w.heap.size w W → ∀ j u, cs[j]? = some u → W.cell? ⟨g, f + j, none⟩ = some u := fun W hW j u hu => (World.cell?_of_block (w := w) (hW.block _ hgl)).trans (hcell j u hu)
    have HQ1 := hide hq1
    have HLEN := hide hlen
    have HCS := hide hcs
    have HH := hide hH
    have HROW := hide htail
    have HIH := hide ih
    clear hq1 hcs hcell hgl hH hrow ih hlen htail
    have hln : ((l.length : Int) + 1 == 0) = false := beq_eq_false_iff_ne.2 (by omega)
    obtain ⟨f2, hf2⟩ : ∃ f2, f2 = if c = 1 then f else f + 5 := ⟨_, rfl⟩
    have HF2 := hide hf2
    rw [← hf2] at HROW
    clear hf2
    have HG : Hid (Grows fun W => Below w.heap.size w W) := fun W W' h1 h2 => h1.trans (h2.mono h1.size)
    obtain ⟨M, hM⟩ : ∃ M : Lg, M = catG (l.map SHP.lang) := ⟨_, rfl⟩
    have HM := hide hM
    rw [List.map_cons]
    have hcat : ∀ u, catG (s.lang :: l.map SHP.lang) u ↔ ∃ j, j ≤ u.length ∧ s.lang (u.take j) ∧ M (u.drop j) := by
      intro u
      rw [hM]
      constructor
      · rintro ⟨x, y, rfl, h1, h2⟩
        exact ⟨x.length, by simp, by rw [List.take_left]; exact h1, by rw [List.drop_left]; exact h2⟩
      · rintro ⟨j, -, h1, h2⟩
        exact ⟨u.take j, u.drop j, (List.take_append_drop j u).symm, h1, h2⟩
    have HC := hide hcat
    clear hcat hM
    go_enter Tryd.func36, Tryd.ntmps36
    go_wp2
    go_loopw [5] (fun i wr => ∃ k : Nat, k ≤ t.size + 1 ∧ i = .int .i64 k ∧ Hid (∀ j, j < k → ¬ (s.lang ((bytesN t).take j) ∧ M ((bytesN t).drop j))) ∧ Hid (Below w.heap.size w wr)) (fun i _ => t.size + 1 - (intOf i).toNat)
    case atStart => exact ⟨0, by omega, rfl, fun j hj => by omega, Below.refl _ _⟩
    case round =>
      obtain ⟨k, hk1, rfl, HN, HW⟩ := hrel
      by_cases hk : k ≤ t.size
      · have hkd : decide ((k : Int) ≤ t.size) = true := by simp; omega
        have hkd2 : decide (k ≤ t.size) = true := by simp [hk]
        obtain ⟨b1, hb1⟩ : ∃ b1, b1 = hB s.lang (t.extract 0 k) := ⟨_, rfl⟩
        have HQ2 : Hid (∀ W, Below w.heap.size w W → Calls Tryd.prog 12 #[ShVal cs, .string (t.extract 0 k)] W fun e w' => e = .returned (.bool b1) ∧ Below W.heap.size W w') := fun W hW => by
          rw [hb1]; exact HH.out s (by simp) _ (by rw [size_take _ _ hk]; exact hk) cs W (HCS.out.keep hW)
        go_wp2
        have hG := HG.out
        have hq1 := HQ1.out
        have hq2 := HQ2.out
        have hlen := HLEN.out
        cases b1
        · have HF : Hid (¬ s.lang ((bytesN t).take k)) := fun h => by rw [← bytesN_take] at h; rw [hB_true h] at hb1; cases hb1
          clear hb1
          refine w_lit (C := fun W => Below w.heap.size w W) (by kernel_rfl) (by kernel_rfl) (HW.out.trans ⟨rfl, rfl, rfl, Nat.le_refl _, fun _ _ => rfl⟩) ?_
          refine w_value (.slice (some ⟨g, f, none⟩) (l.length + 1) c) (by kernel_rfl) (fun w hw => x_move _ _ _ _ _ _ _ _ rfl w) ?_
          simp only [Act.put, List.setIfInBounds_toArray, List.set_cons_succ, List.set_cons_zero]
          refine w_value (.pointer (some ⟨g, f, none⟩)) (by kernel_rfl) (fun w hw => x_idxSh0 _ _ _ _ _ _ _ g f (l.length + 1) c rfl rfl (by omega) w) ?_
          simp only [Act.put, List.setIfInBounds_toArray, List.set_cons_succ, List.set_cons_zero]
          refine w_value (ShVal cs) (by kernel_rfl) (fun w hw => x_loadSh _ _ _ _ _ _ _ g f cs rfl w hlen (hq1 w hw)) ?_
          simp only [Act.put, List.setIfInBounds_toArray, List.set_cons_succ, List.set_cons_zero]
          refine w_value (.string t) (by kernel_rfl) (fun w hw => x_move _ _ _ _ _ _ _ _ rfl w) ?_
          simp only [Act.put, List.setIfInBounds_toArray, List.set_cons_succ, List.set_cons_zero]
          refine w_value (.int .i64 k) (by kernel_rfl) (fun w hw => x_move _ _ _ _ _ _ _ _ rfl w) ?_
          simp only [Act.put, List.setIfInBounds_toArray, List.set_cons_succ, List.set_cons_zero]
          refine w_value (.string (t.extract 0 k)) (by kernel_rfl) (fun w hw => x_strTo _ _ _ _ _ _ _ _ t k rfl rfl hk w) ?_
          simp only [Act.put, List.setIfInBounds_toArray, List.set_cons_succ, List.set_cons_zero]
          refine w_call hG 12 #[ShVal cs, .string (t.extract 0 k)] (.bool false) (by kernel_rfl) (fun w => x_call2 _ _ _ _ _ _ _ _ _ _ _ _ _ rfl rfl rfl (enters_of Tryd.func12 (by kernel_rfl) rfl) w) (fun w hw => hq2 w hw) ?_
          simp only [Act.put, List.setIfInBounds_toArray, List.set_cons_succ, List.set_cons_zero]
          refine w_value (.bool false) (by kernel_rfl) (fun w hw => x_move _ _ _ _ _ _ _ _ rfl w) ?_
          simp only [Act.put, List.setIfInBounds_toArray, List.set_cons_succ, List.set_cons_zero]
          refine w_skip (by kernel_rfl) ?_
          simp only [Act.put, List.setIfInBounds_toArray, List.set_cons_succ, List.set_cons_zero]
          refine w_skip (by kernel_rfl) ?_
          simp only [Act.put, List.setIfInBounds_toArray, List.set_cons_succ, List.set_cons_zero]
          refine w_skip (by kernel_rfl) ?_
          simp only [Act.put, List.setIfInBounds_toArray, List.set_cons_succ, List.set_cons_zero]
          refine w_skip (by kernel_rfl) ?_
          simp only [Act.put, List.setIfInBounds_toArray, List.set_cons_succ, List.set_cons_zero]
          refine w_skip (by kernel_rfl) ?_
          simp only [Act.put, List.setIfInBounds_toArray, List.set_cons_succ, List.set_cons_zero]
          refine w_skip (by kernel_rfl) ?_
          simp only [Act.put, List.setIfInBounds_toArray, List.set_cons_succ, List.set_cons_zero]
          refine w_value (.bool false) (by kernel_rfl) (fun w hw => x_pick _ _ _ _ _ _ _ _ _ false undef (.bool false) rfl rfl rfl w) ?_
          simp only [Act.put, List.setIfInBounds_toArray, List.set_cons_succ, List.set_cons_zero]
          refine w_nil ?_
          intro W hW
          have HWW := hide hW
          clear hW hG hq2 hq1 HQ2 hlen
          go_wp2
          refine ⟨⟨k + 1, by omega, by go_num, ?_, HWW⟩, by simp [intOf]; omega⟩
          intro j hj h
          by_cases hjk : j = k
          · subst hjk; exact HF.out h.1
          · exact HN.out j (by omega) h
        · have HTR : Hid (s.lang ((bytesN t).take k)) := by
            show s.lang _
            rw [← bytesN_take]; exact (hB_iff _ _).1 hb1.symm
          obtain ⟨b2, hb2⟩ : ∃ b2, b2 = hB M (t.extract k t.size) := ⟨_, rfl⟩
          have hq3 : ∀ W, Below w.heap.size w W → Calls Tryd.prog 36 #[.slice (some ⟨g, f2, none⟩) l.length (c - 1), .string (t.extract k t.size)] W fun e w' => e = .returned (.bool b2) ∧ Below W.heap.size W w' := fun W hW => by
            have hz := size_drop t k
            rw [hb2, HM.out]
            exact HIH.out _ _ W (by omega) (HROW.out.keep hW) fun x hx t' ht' => HH.out x (by simp [hx]) t' (by omega)
          cases b2
          · have HF : Hid (¬ M ((bytesN t).drop k)) := fun h => by rw [← bytesN_drop] at h; rw [hB_true h] at hb2; cases hb2
            clear hb1 hb2
            refine w_lit (C := fun W => Below w.heap.size w W) (by kernel_rfl) (by kernel_rfl) (HW.out.trans ⟨rfl, rfl, rfl, Nat.le_refl _, fun _ _ => rfl⟩) ?_
            refine w_value (.slice (some ⟨g, f, none⟩) (l.length + 1) c) (by kernel_rfl) (fun w hw => x_move _ _ _ _ _ _ _ _ rfl w) ?_
            simp only [Act.put, List.setIfInBounds_toArray, List.set_cons_succ, List.set_cons_zero]
            refine w_value (.pointer (some ⟨g, f, none⟩)) (by kernel_rfl) (fun w hw => x_idxSh0 _ _ _ _ _ _ _ g f (l.length + 1) c rfl rfl (by omega) w) ?_
            simp only [Act.put, List.setIfInBounds_toArray, List.set_cons_succ, List.set_cons_zero]
            refine w_value (ShVal cs) (by kernel_rfl) (fun w hw => x_loadSh _ _ _ _ _ _ _ g f cs rfl w hlen (hq1 w hw)) ?_
            simp only [Act.put, List.setIfInBounds_toArray, List.set_cons_succ, List.set_cons_zero]
            refine w_value (.string t) (by kernel_rfl) (fun w hw => x_move _ _ _ _ _ _ _ _ rfl w) ?_
            simp only [Act.put, List.setIfInBounds_toArray, List.set_cons_succ, List.set_cons_zero]
            refine w_value (.int .i64 k) (by kernel_rfl) (fun w hw => x_move _ _ _ _ _ _ _ _ rfl w) ?_
            simp only [Act.put, List.setIfInBounds_toArray, List.set_cons_succ, List.set_cons_zero]
            refine w_value (.string (t.extract 0 k)) (by kernel_rfl) (fun w hw => x_strTo _ _ _ _ _ _ _ _ t k rfl rfl hk w) ?_
            simp only [Act.put, List.setIfInBounds_toArray, List.set_cons_succ, List.set_cons_zero]
            refine w_call hG 12 #[ShVal cs, .string (t.extract 0 k)] (.bool true) (by kernel_rfl) (fun w => x_call2 _ _ _ _ _ _ _ _ _ _ _ _ _ rfl rfl rfl (enters_of Tryd.func12 (by kernel_rfl) rfl) w) (fun w hw => hq2 w hw) ?_
            simp only [Act.put, List.setIfInBounds_toArray, List.set_cons_succ, List.set_cons_zero]
            refine w_value (.bool true) (by kernel_rfl) (fun w hw => x_move _ _ _ _ _ _ _ _ rfl w) ?_
            simp only [Act.put, List.setIfInBounds_toArray, List.set_cons_succ, List.set_cons_zero]
            refine w_value (.slice (some ⟨g, f, none⟩) (l.length + 1) c) (by kernel_rfl) (fun w hw => x_move _ _ _ _ _ _ _ _ rfl w) ?_
            simp only [Act.put, List.setIfInBounds_toArray, List.set_cons_succ, List.set_cons_zero]
            refine w_value (.slice (some ⟨g, f2, none⟩) l.length (c - 1)) (by kernel_rfl) (fun w hw => x_sliceOneSh _ _ _ _ _ _ _ g f l.length c f2 HF2.out rfl rfl w) ?_
            simp only [Act.put, List.setIfInBounds_toArray, List.set_cons_succ, List.set_cons_zero]
            refine w_value (.string t) (by kernel_rfl) (fun w hw => x_move _ _ _ _ _ _ _ _ rfl w) ?_
            simp only [Act.put, List.setIfInBounds_toArray, List.set_cons_succ, List.set_cons_zero]
            refine w_value (.int .i64 k) (by kernel_rfl) (fun w hw => x_move _ _ _ _ _ _ _ _ rfl w) ?_
            simp only [Act.put, List.setIfInBounds_toArray, List.set_cons_succ, List.set_cons_zero]
            refine w_value (.string (t.extract k t.size)) (by kernel_rfl) (fun w hw => x_strFrom _ _ _ _ _ _ _ _ t k rfl rfl hk w) ?_
            simp only [Act.put, List.setIfInBounds_toArray, List.set_cons_succ, List.set_cons_zero]
            refine w_call hG 36 #[.slice (some ⟨g, f2, none⟩) l.length (c - 1), .string (t.extract k t.size)] (.bool false) (by kernel_rfl) (fun w => x_call2 _ _ _ _ _ _ _ _ _ _ _ _ _ rfl rfl rfl (enters_of Tryd.func36 (by kernel_rfl) rfl) w) (fun w hw => hq3 w hw) ?_
            simp only [Act.put, List.setIfInBounds_toArray, List.set_cons_succ, List.set_cons_zero]
            refine w_value (.bool false) (by kernel_rfl) (fun w hw => x_pick _ _ _ _ _ _ _ _ _ true (.bool false) (.bool false) rfl rfl rfl w) ?_
            simp only [Act.put, List.setIfInBounds_toArray, List.set_cons_succ, List.set_cons_zero]
            refine w_nil ?_
            intro W hW
            have HWW := hide hW
            clear hW hG hq2 hq3 hq1 HQ2 hlen
            go_wp2
            refine ⟨⟨k + 1, by omega, by go_num, ?_, HWW⟩, by simp [intOf]; omega⟩
            intro j hj h
            by_cases hjk : j = k
            · subst hjk; exact HF.out h.2
            · exact HN.out j (by omega) h
          · have HKY : Hid (hB (catG (s.lang :: l.map SHP.lang)) t = true) := hB_true ((HC.out (bytesN t)).2 ⟨k, by rw [bytesN_length]; exact hk, HTR.out, by rw [← bytesN_drop]; exact (hB_iff _ _).1 hb2.symm⟩)
            clear hb1 hb2
            refine w_lit (C := fun W => Below w.heap.size w W) (by kernel_rfl) (by kernel_rfl) (HW.out.trans ⟨rfl, rfl, rfl, Nat.le_refl _, fun _ _ => rfl⟩) ?_
            refine w_value (.slice (some ⟨g, f, none⟩) (l.length + 1) c) (by kernel_rfl) (fun w hw => x_move _ _ _ _ _ _ _ _ rfl w) ?_
            simp only [Act.put, List.setIfInBounds_toArray, List.set_cons_succ, List.set_cons_zero]
            refine w_value (.pointer (some ⟨g, f, none⟩)) (by kernel_rfl) (fun w hw => x_idxSh0 _ _ _ _ _ _ _ g f (l.length + 1) c rfl rfl (by omega) w) ?_
            simp only [Act.put, List.setIfInBounds_toArray, List.set_cons_succ, List.set_cons_zero]
            refine w_value (ShVal cs) (by kernel_rfl) (fun w hw => x_loadSh _ _ _ _ _ _ _ g f cs rfl w hlen (hq1 w hw)) ?_
            simp only [Act.put, List.setIfInBounds_toArray, List.set_cons_succ, List.set_cons_zero]
            refine w_value (.string t) (by kernel_rfl) (fun w hw => x_move _ _ _ _ _ _ _ _ rfl w) ?_
            simp only [Act.put, List.setIfInBounds_toArray, List.set_cons_succ, List.set_cons_zero]
            refine w_value (.int .i64 k) (by kernel_rfl) (fun w hw => x_move _ _ _ _ _ _ _ _ rfl w) ?_
            simp only [Act.put, List.setIfInBounds_toArray, List.set_cons_succ, List.set_cons_zero]
            refine w_value (.string (t.extract 0 k)) (by kernel_rfl) (fun w hw => x_strTo _ _ _ _ _ _ _ _ t k rfl rfl hk w) ?_
            simp only [Act.put, List.setIfInBounds_toArray, List.set_cons_succ, List.set_cons_zero]
            refine w_call hG 12 #[ShVal cs, .string (t.extract 0 k)] (.bool true) (by kernel_rfl) (fun w => x_call2 _ _ _ _ _ _ _ _ _ _ _ _ _ rfl rfl rfl (enters_of Tryd.func12 (by kernel_rfl) rfl) w) (fun w hw => hq2 w hw) ?_
            simp only [Act.put, List.setIfInBounds_toArray, List.set_cons_succ, List.set_cons_zero]
            refine w_value (.bool true) (by kernel_rfl) (fun w hw => x_move _ _ _ _ _ _ _ _ rfl w) ?_
            simp only [Act.put, List.setIfInBounds_toArray, List.set_cons_succ, List.set_cons_zero]
            refine w_value (.slice (some ⟨g, f, none⟩) (l.length + 1) c) (by kernel_rfl) (fun w hw => x_move _ _ _ _ _ _ _ _ rfl w) ?_
            simp only [Act.put, List.setIfInBounds_toArray, List.set_cons_succ, List.set_cons_zero]
            refine w_value (.slice (some ⟨g, f2, none⟩) l.length (c - 1)) (by kernel_rfl) (fun w hw => x_sliceOneSh _ _ _ _ _ _ _ g f l.length c f2 HF2.out rfl rfl w) ?_
            simp only [Act.put, List.setIfInBounds_toArray, List.set_cons_succ, List.set_cons_zero]
            refine w_value (.string t) (by kernel_rfl) (fun w hw => x_move _ _ _ _ _ _ _ _ rfl w) ?_
            simp only [Act.put, List.setIfInBounds_toArray, List.set_cons_succ, List.set_cons_zero]
            refine w_value (.int .i64 k) (by kernel_rfl) (fun w hw => x_move _ _ _ _ _ _ _ _ rfl w) ?_
            simp only [Act.put, List.setIfInBounds_toArray, List.set_cons_succ, List.set_cons_zero]
            refine w_value (.string (t.extract k t.size)) (by kernel_rfl) (fun w hw => x_strFrom _ _ _ _ _ _ _ _ t k rfl rfl hk w) ?_
            simp only [Act.put, List.setIfInBounds_toArray, List.set_cons_succ, List.set_cons_zero]
            refine w_call hG 36 #[.slice (some ⟨g, f2, none⟩) l.length (c - 1), .string (t.extract k t.size)] (.bool true) (by kernel_rfl) (fun w => x_call2 _ _ _ _ _ _ _ _ _ _ _ _ _ rfl rfl rfl (enters_of Tryd.func36 (by kernel_rfl) rfl) w) (fun w hw => hq3 w hw) ?_
            simp only [Act.put, List.setIfInBounds_toArray, List.set_cons_succ, List.set_cons_zero]
            refine w_value (.bool true) (by kernel_rfl) (fun w hw => x_pick _ _ _ _ _ _ _ _ _ true (.bool true) (.bool false) rfl rfl rfl w) ?_
            simp only [Act.put, List.setIfInBounds_toArray, List.set_cons_succ, List.set_cons_zero]
            refine w_nil ?_
            intro W hW
            have HWW := hide hW
            clear hW hG hq2 hq3 hq1 HQ2 hlen
            go_wp2
            go_ret
            refine ⟨?_, HWW.out⟩
            rw [HKY.out]; rfl
      · have hkd : decide ((k : Int) ≤ t.size) = false := by simp; omega
        have hkd2 : decide (k ≤ t.size) = false := by simp; omega
        have HKY : Hid (hB (catG (s.lang :: l.map SHP.lang)) t = false) := hB_false fun h => by
          obtain ⟨j, hj, h1, h2⟩ := (HC.out (bytesN t)).1 h
          rw [bytesN_length] at hj
          exact HN.out j (by omega) ⟨h1, h2⟩
        go_wp2
        go_ret
        refine ⟨?_, HW.out⟩
        rw [HKY.out]; rfl
end Go.Proofs.YthemadegffhmfaaDoor
/- In: a text is one of a shape's, by the page. -/
namespace Go.Proofs.YthemadegffhmfaaDoor
set_option maxRecDepth 100000
set_option linter.unusedSimpArgs false
set_option linter.unusedVariables false
open Go.RowKit

def inC (s : SHP) (a : Option Addr) (c : Nat) : Array Value := #[.int .i64 s.op, .int .u8 s.lo, .int .u8 s.hi, .string s.text, .slice a s.kids.length c]
structure OneS (w : World) (B : Nat) (s : SHP) (a : Option Addr) (c : Nat) (W : World) : Prop where
  below : Below B w W
  x : Blk W B (inC s a c) 24
theorem OneS.step {w : World} {B : Nat} {s : SHP} {a : Option Addr} {c : Nat} {W W' : World} (h : OneS w B s a c W) (hb : Below W.heap.size W W') : OneS w B s a c W' :=
  ⟨h.below.trans (hb.mono (by have := h.x.lt; omega)), h.x.below hb h.x.lt⟩

theorem bytesN_inj {a b : ByteArray} (h : bytesN a = bytesN b) : a = b := by
  unfold bytesN at h
  cases a with | mk a => cases b with | mk b =>
  congr 1
  apply Array.toList_inj.1
  have hi : Function.Injective UInt8.toNat := fun x y e => UInt8.toNat_inj.1 e
  exact List.map_inj_right (fun x y e => UInt8.toNat_inj.1 e) |>.1 h


theorem sl0 {o : Int} {l u : Nat} {tx : ByteArray} {ks : List SHP} (h : (SHP.mk o l u tx ks).k = 0) (t : List Nat) : ¬ (SHP.mk o l u tx ks).lang t := by
  rw [SHP.lang_mk, h]; exact id
theorem sl1 {o : Int} {l u : Nat} {tx : ByteArray} {ks : List SHP} (h : (SHP.mk o l u tx ks).k = 1) (t : List Nat) : (SHP.mk o l u tx ks).lang t ↔ t = [] := by
  rw [SHP.lang_mk, h]; exact Iff.rfl
theorem sl2 {o : Int} {l u : Nat} {tx : ByteArray} {ks : List SHP} (h : (SHP.mk o l u tx ks).k = 2) (t : List Nat) : (SHP.mk o l u tx ks).lang t ↔ ∃ x, t = [x] ∧ 97 + l % 4 ≤ x ∧ x ≤ 97 + u % 4 := by
  rw [SHP.lang_mk, h]; exact Iff.rfl
theorem sl3 {o : Int} {l u : Nat} {tx : ByteArray} {ks : List SHP} (h : (SHP.mk o l u tx ks).k = 3) (t : List Nat) : (SHP.mk o l u tx ks).lang t ↔ catG (ks.map SHP.lang) t := by
  rw [SHP.lang_mk, h]; exact Iff.rfl
theorem sl4 {o : Int} {l u : Nat} {tx : ByteArray} {ks : List SHP} (h : (SHP.mk o l u tx ks).k = 4) (t : List Nat) : (SHP.mk o l u tx ks).lang t ↔ ∃ k ∈ ks, k.lang t := by
  rw [SHP.lang_mk, h]
  show (∃ m ∈ ks.map SHP.lang, m t) ↔ _
  constructor
  · rintro ⟨m, hm, h⟩
    obtain ⟨k, hk, rfl⟩ := List.mem_map.1 hm
    exact ⟨k, hk, h⟩
  · rintro ⟨k, hk, h⟩
    exact ⟨_, List.mem_map.2 ⟨k, hk, rfl⟩, h⟩
theorem sl5 {o : Int} {l u : Nat} {tx : ByteArray} {ks : List SHP} (h : (SHP.mk o l u tx ks).k = 5) (t : List Nat) : (SHP.mk o l u tx ks).lang t ↔ t = [] ∨ ∃ m, (ks.map SHP.lang)[0]? = some m ∧ starG m t := by
  rw [SHP.lang_mk, h]; exact Iff.rfl
theorem sl6 {o : Int} {l u : Nat} {tx : ByteArray} {ks : List SHP} (h : (SHP.mk o l u tx ks).k = 6) (t : List Nat) : (SHP.mk o l u tx ks).lang t ↔ ∀ k ∈ ks, k.lang t := by
  rw [SHP.lang_mk, h]
  show (∀ m ∈ ks.map SHP.lang, m t) ↔ _
  simp
theorem sl7 {o : Int} {l u : Nat} {tx : ByteArray} {ks : List SHP} (h : (SHP.mk o l u tx ks).k = 7) (t : List Nat) : (SHP.mk o l u tx ks).lang t ↔ (∃ m, (ks.map SHP.lang)[0]? = some m ∧ m t) ∧ ¬ ∃ m, (ks.map SHP.lang)[1]? = some m ∧ m t := by
  rw [SHP.lang_mk, h]; exact Iff.rfl
theorem sl8 {o : Int} {l u : Nat} {tx : ByteArray} {ks : List SHP} (h : (SHP.mk o l u tx ks).k = 8) (t : List Nat) : (SHP.mk o l u tx ks).lang t ↔ t = bytesN tx := by
  rw [SHP.lang_mk, h]; exact Iff.rfl
theorem sl5_cons {o : Int} {l u : Nat} {tx : ByteArray} {s : SHP} {ks : List SHP} (h : (SHP.mk o l u tx (s :: ks)).k = 5) (t : List Nat) : (SHP.mk o l u tx (s :: ks)).lang t ↔ starG s.lang t := by
  rw [sl5 h]
  constructor
  · rintro (rfl | ⟨m, e, h⟩)
    · exact .nil
    · have e : some s.lang = some m := e
      injection e with e; rw [e]; exact h
  · intro h; exact .inr ⟨_, rfl, h⟩
set_option maxHeartbeats 1000000 in
theorem in0 (o : Int) (l u : Nat) (tx : ByteArray) (ks : List SHP) (t : ByteArray) (hK : (SHP.mk o l u tx ks).k = 0) : InAt (.mk o l u tx ks) t := by
  intro cs w h
  have HS := hide h
  obtain ⟨v, rfl, hrow, ho, hlo, hhi, htx⟩ := h.open
  obtain ⟨hn, a, cap, rfl, -⟩ := hrow.at
  have HROW := hide hrow
  obtain ⟨B, hB0⟩ : ∃ B, B = w.heap.size := ⟨_, rfl⟩
  have h1 : OneS w B (SHP.mk o l u tx ks) a cap (w.alloc (.cells #[.int .i64 o, .int .u8 l, .int .u8 u, .string tx, .slice a ks.length cap] 24)) := ⟨(Below.refl _ _).alloc (Nat.le_of_eq hB0) _, Blk.newAt hB0 _ _⟩
  have hop := op_any _ _ _ (h.keep (hB0 ▸ h1.below))
  rw [hK] at hop
  have HOP := hide hop
  have HB0 := hide hB0
  have H0 := hide h1
  clear hop h hrow h1
  simp only [SHP.op, SHP.lo, SHP.hi, SHP.text, SHP.kids] at hn ho hlo hhi htx HROW HOP ⊢
  unfold ShVal at HOP ⊢
  go_enter Tryd.func12, Tryd.ntmps12
  go_wp2_with fail
  rw [← hB0]
  refine HOP.out.mono ?_
  rintro e w1 ⟨rfl, hb1⟩
  have H1 := hide (H0.out.step hb1)
  clear hb1 HOP H0 hB0
  have HR : Hid (hB (SHP.mk o l u tx ks).lang t = false) := hB_false (sl0 hK _)
  go_wp2
  go_ret
  refine ⟨?_, HB0.out ▸ H1.out.below⟩
  rw [HR.out]; rfl
set_option maxHeartbeats 1000000 in
theorem in1 (o : Int) (l u : Nat) (tx : ByteArray) (ks : List SHP) (t : ByteArray) (hK : (SHP.mk o l u tx ks).k = 1) : InAt (.mk o l u tx ks) t := by
  intro cs w h
  have HS := hide h
  obtain ⟨v, rfl, hrow, ho, hlo, hhi, htx⟩ := h.open
  obtain ⟨hn, a, cap, rfl, -⟩ := hrow.at
  have HROW := hide hrow
  obtain ⟨B, hB0⟩ : ∃ B, B = w.heap.size := ⟨_, rfl⟩
  have h1 : OneS w B (SHP.mk o l u tx ks) a cap (w.alloc (.cells #[.int .i64 o, .int .u8 l, .int .u8 u, .string tx, .slice a ks.length cap] 24)) := ⟨(Below.refl _ _).alloc (Nat.le_of_eq hB0) _, Blk.newAt hB0 _ _⟩
  have hop := op_any _ _ _ (h.keep (hB0 ▸ h1.below))
  rw [hK] at hop
  have HOP := hide hop
  have HB0 := hide hB0
  have H0 := hide h1
  clear hop h hrow h1
  simp only [SHP.op, SHP.lo, SHP.hi, SHP.text, SHP.kids] at hn ho hlo hhi htx HROW HOP ⊢
  unfold ShVal at HOP ⊢
  go_enter Tryd.func12, Tryd.ntmps12
  go_wp2_with fail
  rw [← hB0]
  refine HOP.out.mono ?_
  rintro e w1 ⟨rfl, hb1⟩
  have H1 := hide (H0.out.step hb1)
  clear hb1 HOP H0 hB0
  have HR : Hid (hB (SHP.mk o l u tx ks).lang t = t.toList.isEmpty) := by rw [← hB_nil]; exact hB_eq (sl1 hK _)
  go_wp2
  go_ret
  refine ⟨?_, HB0.out ▸ H1.out.below⟩
  rw [HR.out]; rfl
set_option maxHeartbeats 1000000 in
theorem in8 (o : Int) (l u : Nat) (tx : ByteArray) (ks : List SHP) (t : ByteArray) (hK : (SHP.mk o l u tx ks).k = 8) : InAt (.mk o l u tx ks) t := by
  intro cs w h
  have HS := hide h
  obtain ⟨v, rfl, hrow, ho, hlo, hhi, htx⟩ := h.open
  obtain ⟨hn, a, cap, rfl, -⟩ := hrow.at
  have HROW := hide hrow
  obtain ⟨B, hB0⟩ : ∃ B, B = w.heap.size := ⟨_, rfl⟩
  have h1 : OneS w B (SHP.mk o l u tx ks) a cap (w.alloc (.cells #[.int .i64 o, .int .u8 l, .int .u8 u, .string tx, .slice a ks.length cap] 24)) := ⟨(Below.refl _ _).alloc (Nat.le_of_eq hB0) _, Blk.newAt hB0 _ _⟩
  have hop := op_any _ _ _ (h.keep (hB0 ▸ h1.below))
  rw [hK] at hop
  have HOP := hide hop
  have HB0 := hide hB0
  have H0 := hide h1
  clear hop h hrow h1
  simp only [SHP.op, SHP.lo, SHP.hi, SHP.text, SHP.kids] at hn ho hlo hhi htx HROW HOP ⊢
  unfold ShVal at HOP ⊢
  go_enter Tryd.func12, Tryd.ntmps12
  go_wp2_with fail
  rw [← hB0]
  refine HOP.out.mono ?_
  rintro e w1 ⟨rfl, hb1⟩
  have H1 := hide (H0.out.step hb1)
  clear hb1 HOP H0 hB0
  have hx := H1.out.x
  have x0 := hx.cell 0; have x1 := hx.cell 1; have x2 := hx.cell 2; have x3 := hx.cell 3; have x4 := hx.cell 4
  simp only [inC, SHP.op, SHP.lo, SHP.hi, SHP.text, SHP.kids, List.getElem?_toArray, List.getElem?_cons_zero, List.getElem?_cons_succ] at x0 x1 x2 x3 x4
  clear hx
  have HR : Hid (hB (SHP.mk o l u tx ks).lang t = (t.toList == tx.toList)) := by
    show _ = _
    by_cases h : t = tx
    · subst h
      rw [hB_true ((sl8 hK _).2 rfl)]; simp
    · rw [hB_false fun h' => h (bytesN_inj ((sl8 hK _).1 h'))]
      refine (beq_eq_false_iff_ne.2 fun e => h ?_).symm
      rw [ByteArray.toList_eq, ByteArray.toList_eq] at e
      exact Go.WideShapes.bytes_inj e
  go_wp2
  go_ret
  refine ⟨?_, HB0.out ▸ H1.out.below⟩
  rw [HR.out]; rfl
set_option maxHeartbeats 1000000 in
theorem in2 (o : Int) (l u : Nat) (tx : ByteArray) (ks : List SHP) (t : ByteArray) (hK : (SHP.mk o l u tx ks).k = 2) : InAt (.mk o l u tx ks) t := by
  intro cs w h
  have HS := hide h
  obtain ⟨v, rfl, hrow, ho, hlo, hhi, htx⟩ := h.open
  obtain ⟨hn, a, cap, rfl, -⟩ := hrow.at
  have HROW := hide hrow
  obtain ⟨B, hB0⟩ : ∃ B, B = w.heap.size := ⟨_, rfl⟩
  have h1 : OneS w B (SHP.mk o l u tx ks) a cap (w.alloc (.cells #[.int .i64 o, .int .u8 l, .int .u8 u, .string tx, .slice a ks.length cap] 24)) := ⟨(Below.refl _ _).alloc (Nat.le_of_eq hB0) _, Blk.newAt hB0 _ _⟩
  have hop := op_any _ _ _ (h.keep (hB0 ▸ h1.below))
  rw [hK] at hop
  have HOP := hide hop
  have HB0 := hide hB0
  have H0 := hide h1
  clear hop h hrow h1
  simp only [SHP.op, SHP.lo, SHP.hi, SHP.text, SHP.kids] at hn ho hlo hhi htx HROW HOP ⊢
  unfold ShVal at HOP ⊢
  go_enter Tryd.func12, Tryd.ntmps12
  go_wp2_with fail
  rw [← hB0]
  refine HOP.out.mono ?_
  rintro e w1 ⟨rfl, hb1⟩
  have H1 := hide (H0.out.step hb1)
  clear hb1 HOP H0 hB0
  have hx := H1.out.x
  have x0 := hx.cell 0; have x1 := hx.cell 1; have x2 := hx.cell 2; have x3 := hx.cell 3; have x4 := hx.cell 4
  simp only [inC, SHP.op, SHP.lo, SHP.hi, SHP.text, SHP.kids, List.getElem?_toArray, List.getElem?_cons_zero, List.getElem?_cons_succ] at x0 x1 x2 x3 x4
  clear hx
  have HLO := hide (low_any (.mk o l u tx ks) _ w1 (HS.out.keep (HB0.out ▸ H1.out.below)))
  simp only [SHP.lo, SHP.hi] at HLO
  unfold ShVal at HLO
  obtain ⟨A, hA⟩ : ∃ A : Nat, A = 97 + l % 4 := ⟨_, rfl⟩
  obtain ⟨Z, hZ⟩ : ∃ Z : Nat, Z = 97 + u % 4 := ⟨_, rfl⟩
  have HL : Hid (∀ t, (SHP.mk o l u tx ks).lang t ↔ ∃ x, t = [x] ∧ A ≤ x ∧ x ≤ Z) := fun t => by rw [hA, hZ]; exact sl2 hK t
  rw [← hA, ← hZ] at HLO
  clear hA hZ
  go_wp2_with fail
  refine HLO.out.mono ?_
  rintro e w2 ⟨rfl, hb2⟩
  have H2 := hide (H1.out.step hb2)
  clear hb2 HLO H1 x0 x1 x2 x3 x4
  by_cases h1 : t.size = 1
  · obtain ⟨x, rfl⟩ : ∃ x, t = ⟨#[x]⟩ := by
      cases t with
      | mk d =>
        have : d.size = 1 := h1
        obtain ⟨x, hx⟩ := Array.size_eq_one_iff.1 this
        exact ⟨x, by rw [hx]⟩
    clear h1
    have HR : Hid (hB (SHP.mk o l u tx ks).lang ⟨#[x]⟩ = (decide (A ≤ x.toNat) && decide (x.toNat ≤ Z))) := by
      show _ = _
      by_cases h1 : A ≤ x.toNat ∧ x.toNat ≤ Z
      · rw [hB_true ((HL.out _).2 ⟨x.toNat, rfl, h1.1, h1.2⟩)]; simp [h1.1, h1.2]
      · rw [hB_false fun h' => h1 (by
          obtain ⟨y, e, h2⟩ := (HL.out _).1 h'
          have e : [x.toNat] = [y] := e
          have : x.toNat = y := by simpa using e
          rw [this]; exact h2)]
        simp; omega
    have hs1 : (ByteArray.mk #[x]).size = 1 := rfl
    have hg0 : (ByteArray.mk #[x])[0] = x := rfl
    by_cases h1 : A ≤ x.toNat
    · have d1 : decide (A ≤ x.toNat) = true := by simp [h1]
      have d2 : decide ((A : Int) ≤ (x.toNat : Int)) = true := by simp; omega
      by_cases h2 : x.toNat ≤ Z
      · have d3 : decide (x.toNat ≤ Z) = true := by simp [h2]
        have d4 : decide ((x.toNat : Int) ≤ (Z : Int)) = true := by simp; omega
        go_wp2
        go_ret
        refine ⟨?_, HB0.out ▸ H2.out.below⟩
        rw [HR.out]; simp [h1, h2]
      · have d3 : decide (x.toNat ≤ Z) = false := by simp; omega
        have d4 : decide ((x.toNat : Int) ≤ (Z : Int)) = false := by simp; omega
        go_wp2
        go_ret
        refine ⟨?_, HB0.out ▸ H2.out.below⟩
        rw [HR.out]; simp [h1, h2]
    · have d1 : decide (A ≤ x.toNat) = false := by simp; omega
      have d2 : decide ((A : Int) ≤ (x.toNat : Int)) = false := by simp; omega
      go_wp2
      go_ret
      refine ⟨?_, HB0.out ▸ H2.out.below⟩
      rw [HR.out]; simp [h1]
  · have hne : ((t.size : Int) == 1) = false := beq_eq_false_iff_ne.2 (by omega)
    have HR : Hid (hB (SHP.mk o l u tx ks).lang t = false) := hB_false fun h' => by
      obtain ⟨y, e, hy⟩ := (HL.out _).1 h'
      have := bytesN_length t
      rw [e] at this
      simp at this; omega
    go_wp2
    go_ret
    refine ⟨?_, HB0.out ▸ H2.out.below⟩
    rw [HR.out]; rfl
set_option maxHeartbeats 1000000 in
theorem in3 (o : Int) (l u : Nat) (tx : ByteArray) (ks : List SHP) (t : ByteArray) (hK : (SHP.mk o l u tx ks).k = 3) (ht : t.size ≤ 1000) (ih : ∀ k ∈ ks, ∀ t', t'.size ≤ t.size → InAt k t') : InAt (.mk o l u tx ks) t := by
  intro cs w h
  have HS := hide h
  obtain ⟨v, rfl, hrow, ho, hlo, hhi, htx⟩ := h.open
  obtain ⟨hn, a, cap, rfl, -⟩ := hrow.at
  have HROW := hide hrow
  obtain ⟨B, hB0⟩ : ∃ B, B = w.heap.size := ⟨_, rfl⟩
  have h1 : OneS w B (SHP.mk o l u tx ks) a cap (w.alloc (.cells #[.int .i64 o, .int .u8 l, .int .u8 u, .string tx, .slice a ks.length cap] 24)) := ⟨(Below.refl _ _).alloc (Nat.le_of_eq hB0) _, Blk.newAt hB0 _ _⟩
  have hop := op_any _ _ _ (h.keep (hB0 ▸ h1.below))
  rw [hK] at hop
  have HOP := hide hop
  have HB0 := hide hB0
  have H0 := hide h1
  clear hop h hrow h1
  simp only [SHP.op, SHP.lo, SHP.hi, SHP.text, SHP.kids] at hn ho hlo hhi htx HROW HOP ⊢
  unfold ShVal at HOP ⊢
  go_enter Tryd.func12, Tryd.ntmps12
  go_wp2_with fail
  rw [← hB0]
  refine HOP.out.mono ?_
  rintro e w1 ⟨rfl, hb1⟩
  have H1 := hide (H0.out.step hb1)
  clear hb1 HOP H0 hB0
  have hx := H1.out.x
  have x0 := hx.cell 0; have x1 := hx.cell 1; have x2 := hx.cell 2; have x3 := hx.cell 3; have x4 := hx.cell 4
  simp only [inC, SHP.op, SHP.lo, SHP.hi, SHP.text, SHP.kids, List.getElem?_toArray, List.getElem?_cons_zero, List.getElem?_cons_succ] at x0 x1 x2 x3 x4
  clear hx
  have hc := catSh_any ks _ t w1 ht (HROW.out.keep (HB0.out ▸ H1.out.below)) ih
  have HR : Hid (hB (SHP.mk o l u tx ks).lang t = hB (catG (ks.map SHP.lang)) t) := hB_eq (sl3 hK (bytesN t))
  obtain ⟨q, hq⟩ : ∃ q, q = hB (catG (ks.map SHP.lang)) t := ⟨_, rfl⟩
  rw [← hq] at hc HR
  have HC := hide hc
  clear ih hc hq
  go_wp2_with fail
  refine HC.out.mono ?_
  rintro e w2 ⟨rfl, hb2⟩
  have H2 := hide (H1.out.step hb2)
  clear hb2 HC H1 x0 x1 x2 x3 x4
  go_wp2
  go_ret
  refine ⟨?_, HB0.out ▸ H2.out.below⟩
  rw [HR.out]; rfl
set_option maxHeartbeats 1000000 in
theorem in4 (o : Int) (l u : Nat) (tx : ByteArray) (ks : List SHP) (t : ByteArray) (hK : (SHP.mk o l u tx ks).k = 4) (ih : ∀ k ∈ ks, InAt k t) : InAt (.mk o l u tx ks) t := by
  intro cs w h
  have HS := hide h
  obtain ⟨v, rfl, hrow, ho, hlo, hhi, htx⟩ := h.open
  obtain ⟨hn, a, cap, rfl, -⟩ := hrow.at
  have HROW := hide hrow
  obtain ⟨B, hB0⟩ : ∃ B, B = w.heap.size := ⟨_, rfl⟩
  have h1 : OneS w B (SHP.mk o l u tx ks) a cap (w.alloc (.cells #[.int .i64 o, .int .u8 l, .int .u8 u, .string tx, .slice a ks.length cap] 24)) := ⟨(Below.refl _ _).alloc (Nat.le_of_eq hB0) _, Blk.newAt hB0 _ _⟩
  have hop := op_any _ _ _ (h.keep (hB0 ▸ h1.below))
  rw [hK] at hop
  have HOP := hide hop
  have HB0 := hide hB0
  have H0 := hide h1
  clear hop h hrow h1
  simp only [SHP.op, SHP.lo, SHP.hi, SHP.text, SHP.kids] at hn ho hlo hhi htx HROW HOP ⊢
  unfold ShVal at HOP ⊢
  go_enter Tryd.func12, Tryd.ntmps12
  go_wp2_with fail
  rw [← hB0]
  refine HOP.out.mono ?_
  rintro e w1 ⟨rfl, hb1⟩
  have H1 := hide (H0.out.step hb1)
  clear hb1 HOP H0 hB0
  have hx := H1.out.x
  have x0 := hx.cell 0; have x1 := hx.cell 1; have x2 := hx.cell 2; have x3 := hx.cell 3; have x4 := hx.cell 4
  simp only [inC, SHP.op, SHP.lo, SHP.hi, SHP.text, SHP.kids, List.getElem?_toArray, List.getElem?_cons_zero, List.getElem?_cons_succ] at x0 x1 x2 x3 x4
  clear hx
  have HIH := hide ih
  clear ih
  go_wp2
  go_loopw [53] (fun i wr => ∃ k : Nat, k ≤ ks.length ∧ i = .int .i64 k ∧ Hid (∀ x ∈ ks.take k, hB x.lang t = false) ∧ Hid (Below B w wr)) (fun i _ => ks.length - (intOf i).toNat)
  case atStart => exact ⟨0, by omega, rfl, (fun x hx => by simp at hx), H1.out.below⟩
  case round =>
    clear x0 x1 x2 x3 x4 H1
    obtain ⟨k, hk1, rfl, HN, HW⟩ := hrel
    obtain ⟨-, a', cap', e1, g1⟩ := (HROW.out.keep (show Below w.heap.size w wr from HB0.out ▸ HW.out)).at
    obtain ⟨rfl, rfl⟩ : a = a' ∧ cap = cap' := by cases e1; exact ⟨rfl, rfl⟩
    clear e1
    by_cases hlt : k < ks.length
    · have hkd : decide (k < ks.length) = true := by simp [hlt]
      obtain ⟨b, off, kv, rfl, -, ⟨c0, c1, c2, c3, c4⟩, hC⟩ := g1 k hlt
      have HT := hide (show ks.take (k + 1) = ks.take k ++ [ks[k]] from List.take_succ_eq_append_getElem hlt)
      obtain ⟨q, hq⟩ : ∃ q, q = hB (ks[k]).lang t := ⟨_, rfl⟩
      have hrec := HIH.out _ (List.getElem_mem hlt) _ _ (hC.keep ((Below.refl wr.heap.size wr).alloc (Nat.le_refl _) (.cells #[.int .i64 ks[k].op, .int .u8 ks[k].lo, .int .u8 ks[k].hi, .string ks[k].text, kv] 24)))
      rw [← hq] at hrec
      have HM := hide (List.getElem_mem hlt)
      have HQ := hide hq
      have hBW : B ≤ wr.heap.size := by rw [HB0.out]; exact (HB0.out ▸ HW.out).size
      obtain ⟨-, kf, kcap, hkv, -⟩ : True ∧ ∃ a c, kv = .slice a (ks[k]).kids.length c ∧ True := by
        obtain ⟨v', e', hr', -⟩ := hC.open
        obtain ⟨-, a', c', e'', -⟩ := hr'.at
        have : kv = v' := by simpa using e'
        exact ⟨trivial, a', c', this.trans e'', trivial⟩
      have HREC := hide hrec
      subst hkv
      generalize hks : ks[k] = kk at *
      clear hrec hC g1 hq hks
      unfold ShVal at HREC
      go_wp2_with fail
      refine HREC.out.mono ?_
      rintro e w2 ⟨rfl, hb2⟩
      have HB := hide ((HW.out.alloc hBW (.cells #[.int .i64 kk.op, .int .u8 kk.lo, .int .u8 kk.hi, .string kk.text, .slice kf kk.kids.length kcap] 24)).trans (hb2.mono (by simp; omega)))
      clear hb2 HREC c0 c1 c2 c3 c4
      cases q
      · go_wp2
        refine ⟨⟨k + 1, by omega, by go_num, ?_, HB⟩, by simp [intOf]; omega⟩
        intro x hx
        rw [HT.out] at hx
        rcases List.mem_append.1 hx with hx | hx
        · exact HN.out x hx
        · simp at hx; subst hx; exact HQ.out.symm
      · have HKY : Hid (hB (SHP.mk o l u tx ks).lang t = true) := by
          show _ = _
          exact hB_true ((sl4 hK _).2 ⟨kk, HM.out, (hB_iff _ _).1 HQ.out.symm⟩)
        go_wp2
        go_ret
        refine ⟨?_, HB0.out ▸ HB.out⟩
        rw [HKY.out]; rfl
    · obtain rfl : k = ks.length := by omega
      rw [List.take_length] at HN
      have HKY : Hid (hB (SHP.mk o l u tx ks).lang t = false) := by
        show _ = _
        refine hB_false fun h => ?_
        obtain ⟨x, hx, h2⟩ := (sl4 hK _).1 h
        have h3 := hB_true (t := t) h2
        rw [HN.out x hx] at h3; cases h3
      clear g1
      go_wp2
      go_ret
      refine ⟨?_, HB0.out ▸ HW.out⟩
      rw [HKY.out]; rfl
set_option maxHeartbeats 1000000 in
theorem in6 (o : Int) (l u : Nat) (tx : ByteArray) (ks : List SHP) (t : ByteArray) (hK : (SHP.mk o l u tx ks).k = 6) (ih : ∀ k ∈ ks, InAt k t) : InAt (.mk o l u tx ks) t := by
  intro cs w h
  have HS := hide h
  obtain ⟨v, rfl, hrow, ho, hlo, hhi, htx⟩ := h.open
  obtain ⟨hn, a, cap, rfl, -⟩ := hrow.at
  have HROW := hide hrow
  obtain ⟨B, hB0⟩ : ∃ B, B = w.heap.size := ⟨_, rfl⟩
  have h1 : OneS w B (SHP.mk o l u tx ks) a cap (w.alloc (.cells #[.int .i64 o, .int .u8 l, .int .u8 u, .string tx, .slice a ks.length cap] 24)) := ⟨(Below.refl _ _).alloc (Nat.le_of_eq hB0) _, Blk.newAt hB0 _ _⟩
  have hop := op_any _ _ _ (h.keep (hB0 ▸ h1.below))
  rw [hK] at hop
  have HOP := hide hop
  have HB0 := hide hB0
  have H0 := hide h1
  clear hop h hrow h1
  simp only [SHP.op, SHP.lo, SHP.hi, SHP.text, SHP.kids] at hn ho hlo hhi htx HROW HOP ⊢
  unfold ShVal at HOP ⊢
  go_enter Tryd.func12, Tryd.ntmps12
  go_wp2_with fail
  rw [← hB0]
  refine HOP.out.mono ?_
  rintro e w1 ⟨rfl, hb1⟩
  have H1 := hide (H0.out.step hb1)
  clear hb1 HOP H0 hB0
  have hx := H1.out.x
  have x0 := hx.cell 0; have x1 := hx.cell 1; have x2 := hx.cell 2; have x3 := hx.cell 3; have x4 := hx.cell 4
  simp only [inC, SHP.op, SHP.lo, SHP.hi, SHP.text, SHP.kids, List.getElem?_toArray, List.getElem?_cons_zero, List.getElem?_cons_succ] at x0 x1 x2 x3 x4
  clear hx
  have HIH := hide ih
  clear ih
  go_wp2
  go_loopw [95] (fun i wr => ∃ k : Nat, k ≤ ks.length ∧ i = .int .i64 k ∧ Hid (∀ x ∈ ks.take k, hB x.lang t = true) ∧ Hid (Below B w wr)) (fun i _ => ks.length - (intOf i).toNat)
  case atStart => exact ⟨0, by omega, rfl, (fun x hx => by simp at hx), H1.out.below⟩
  case round =>
    clear x0 x1 x2 x3 x4 H1
    obtain ⟨k, hk1, rfl, HN, HW⟩ := hrel
    obtain ⟨-, a', cap', e1, g1⟩ := (HROW.out.keep (show Below w.heap.size w wr from HB0.out ▸ HW.out)).at
    obtain ⟨rfl, rfl⟩ : a = a' ∧ cap = cap' := by cases e1; exact ⟨rfl, rfl⟩
    clear e1
    by_cases hlt : k < ks.length
    · have hkd : decide (k < ks.length) = true := by simp [hlt]
      obtain ⟨b, off, kv, rfl, -, ⟨c0, c1, c2, c3, c4⟩, hC⟩ := g1 k hlt
      have HT := hide (show ks.take (k + 1) = ks.take k ++ [ks[k]] from List.take_succ_eq_append_getElem hlt)
      obtain ⟨q, hq⟩ : ∃ q, q = hB (ks[k]).lang t := ⟨_, rfl⟩
      have hrec := HIH.out _ (List.getElem_mem hlt) _ _ (hC.keep ((Below.refl wr.heap.size wr).alloc (Nat.le_refl _) (.cells #[.int .i64 ks[k].op, .int .u8 ks[k].lo, .int .u8 ks[k].hi, .string ks[k].text, kv] 24)))
      rw [← hq] at hrec
      have HM := hide (List.getElem_mem hlt)
      have HQ := hide hq
      have hBW : B ≤ wr.heap.size := by rw [HB0.out]; exact (HB0.out ▸ HW.out).size
      obtain ⟨-, kf, kcap, hkv, -⟩ : True ∧ ∃ a c, kv = .slice a (ks[k]).kids.length c ∧ True := by
        obtain ⟨v', e', hr', -⟩ := hC.open
        obtain ⟨-, a', c', e'', -⟩ := hr'.at
        have : kv = v' := by simpa using e'
        exact ⟨trivial, a', c', this.trans e'', trivial⟩
      have HREC := hide hrec
      subst hkv
      generalize hks : ks[k] = kk at *
      clear hrec hC g1 hq hks
      unfold ShVal at HREC
      go_wp2_with fail
      refine HREC.out.mono ?_
      rintro e w2 ⟨rfl, hb2⟩
      have HB := hide ((HW.out.alloc hBW (.cells #[.int .i64 kk.op, .int .u8 kk.lo, .int .u8 kk.hi, .string kk.text, .slice kf kk.kids.length kcap] 24)).trans (hb2.mono (by simp; omega)))
      clear hb2 HREC c0 c1 c2 c3 c4
      cases q
      · have HKY : Hid (hB (SHP.mk o l u tx ks).lang t = false) := by
          show _ = _
          refine hB_false fun h => ?_
          have h2 := hB_true (t := t) ((sl6 hK _).1 h kk HM.out)
          rw [← HQ.out] at h2; cases h2
        go_wp2
        go_ret
        refine ⟨?_, HB0.out ▸ HB.out⟩
        rw [HKY.out]; rfl
      · go_wp2
        refine ⟨⟨k + 1, by omega, by go_num, ?_, HB⟩, by simp [intOf]; omega⟩
        intro x hx
        rw [HT.out] at hx
        rcases List.mem_append.1 hx with hx | hx
        · exact HN.out x hx
        · simp at hx; subst hx; exact HQ.out.symm
    · obtain rfl : k = ks.length := by omega
      rw [List.take_length] at HN
      have HKY : Hid (hB (SHP.mk o l u tx ks).lang t = true) := by
        show _ = _
        exact hB_true ((sl6 hK _).2 fun x hx => (hB_iff _ _).1 (HN.out x hx))
      clear g1
      go_wp2
      go_ret
      refine ⟨?_, HB0.out ▸ HW.out⟩
      rw [HKY.out]; rfl
end Go.Proofs.YthemadegffhmfaaDoor
/- In: many, one without another one; the whole call. -/
namespace Go.Proofs.YthemadegffhmfaaDoor
set_option maxRecDepth 100000
set_option linter.unusedSimpArgs false
set_option linter.unusedVariables false
open Go.RowKit

set_option maxHeartbeats 1000000 in
theorem in5_nil (o : Int) (l u : Nat) (tx : ByteArray) (ks : List SHP) (t : ByteArray) (hK : (SHP.mk o l u tx ks).k = 5) (h0 : t.size = 0) : InAt (.mk o l u tx ks) t := by
  intro cs w h
  have HS := hide h
  obtain ⟨v, rfl, hrow, ho, hlo, hhi, htx⟩ := h.open
  obtain ⟨hn, a, cap, rfl, -⟩ := hrow.at
  have HROW := hide hrow
  obtain ⟨B, hB0⟩ : ∃ B, B = w.heap.size := ⟨_, rfl⟩
  have h1 : OneS w B (SHP.mk o l u tx ks) a cap (w.alloc (.cells #[.int .i64 o, .int .u8 l, .int .u8 u, .string tx, .slice a ks.length cap] 24)) := ⟨(Below.refl _ _).alloc (Nat.le_of_eq hB0) _, Blk.newAt hB0 _ _⟩
  have hop := op_any _ _ _ (h.keep (hB0 ▸ h1.below))
  rw [hK] at hop
  have HOP := hide hop
  have HB0 := hide hB0
  have H0 := hide h1
  clear hop h hrow h1
  simp only [SHP.op, SHP.lo, SHP.hi, SHP.text, SHP.kids] at hn ho hlo hhi htx HROW HOP ⊢
  unfold ShVal at HOP ⊢
  go_enter Tryd.func12, Tryd.ntmps12
  go_wp2_with fail
  rw [← hB0]
  refine HOP.out.mono ?_
  rintro e w1 ⟨rfl, hb1⟩
  have H1 := hide (H0.out.step hb1)
  clear hb1 HOP H0 hB0
  have e0 : bytesN t = [] := List.eq_nil_of_length_eq_zero (by rw [bytesN_length]; omega)
  have htl : t.toList.isEmpty = true := by rw [← hB_nil]; exact hB_true e0
  have HR : Hid (hB (SHP.mk o l u tx ks).lang t = true) := hB_true ((sl5 hK _).2 (.inl e0))
  clear e0
  go_wp2
  go_ret
  refine ⟨?_, HB0.out ▸ H1.out.below⟩
  rw [HR.out]; rfl
set_option maxHeartbeats 1000000 in
theorem in5_none (o : Int) (l u : Nat) (tx : ByteArray) (t : ByteArray) (hK : (SHP.mk o l u tx []).k = 5) (h0 : t.size ≠ 0) : InAt (.mk o l u tx []) t := by
  intro cs w h
  have HS := hide h
  obtain ⟨v, rfl, hrow, ho, hlo, hhi, htx⟩ := h.open
  obtain ⟨hn, a, cap, rfl, -⟩ := hrow.at
  have HROW := hide hrow
  obtain ⟨B, hB0⟩ : ∃ B, B = w.heap.size := ⟨_, rfl⟩
  have h1 : OneS w B (SHP.mk o l u tx []) a cap (w.alloc (.cells #[.int .i64 o, .int .u8 l, .int .u8 u, .string tx, .slice a [].length cap] 24)) := ⟨(Below.refl _ _).alloc (Nat.le_of_eq hB0) _, Blk.newAt hB0 _ _⟩
  have hop := op_any _ _ _ (h.keep (hB0 ▸ h1.below))
  rw [hK] at hop
  have HOP := hide hop
  have HB0 := hide hB0
  have H0 := hide h1
  clear hop h hrow h1
  simp only [SHP.op, SHP.lo, SHP.hi, SHP.text, SHP.kids] at hn ho hlo hhi htx HROW HOP ⊢
  unfold ShVal at HOP ⊢
  go_enter Tryd.func12, Tryd.ntmps12
  go_wp2_with fail
  rw [← hB0]
  refine HOP.out.mono ?_
  rintro e w1 ⟨rfl, hb1⟩
  have H1 := hide (H0.out.step hb1)
  clear hb1 HOP H0 hB0
  have hx := H1.out.x
  have x0 := hx.cell 0; have x1 := hx.cell 1; have x2 := hx.cell 2; have x3 := hx.cell 3; have x4 := hx.cell 4
  simp only [inC, SHP.op, SHP.lo, SHP.hi, SHP.text, SHP.kids, List.getElem?_toArray, List.getElem?_cons_zero, List.getElem?_cons_succ] at x0 x1 x2 x3 x4
  clear hx
  have htl : t.toList.isEmpty = false := by
    rw [← hB_nil]
    refine hB_false fun h => h0 ?_
    have h : bytesN t = [] := h
    rw [← bytesN_length, h]; rfl
  have HR : Hid (hB (SHP.mk o l u tx []).lang t = false) := hB_false fun h => by
    rcases (sl5 hK _).1 h with h | ⟨m, e, -⟩
    · exact h0 (by rw [← bytesN_length, h]; rfl)
    · simp at e
  simp only [List.length_nil] at x4
  go_wp2
  go_ret
  refine ⟨?_, HB0.out ▸ H1.out.below⟩
  rw [HR.out]; rfl
set_option maxHeartbeats 2000000 in
theorem in5 (o : Int) (l u : Nat) (tx : ByteArray) (s : SHP) (ks0 : List SHP) (hK : (SHP.mk o l u tx (s :: ks0)).k = 5) (ih : ∀ t, t.size ≤ 1000 → InAt s t) : ∀ (n : Nat) (t : ByteArray), t.size ≤ n → t.size ≤ 1000 → InAt (.mk o l u tx (s :: ks0)) t := by
  intro n
  induction n with
  | zero =>
    intro t hn ht
    exact in5_nil o l u tx _ t hK (by omega)
  | succ n IH =>
    intro t hnn ht
    by_cases h0 : t.size = 0
    · exact in5_nil o l u tx _ t hK h0
    have htl : t.toList.isEmpty = false := by
      rw [← hB_nil]
      refine hB_false fun h => h0 ?_
      have h : bytesN t = [] := h
      rw [← bytesN_length, h]; rfl
    obtain ⟨S, hS⟩ : ∃ S, S = (SHP.mk o l u tx (s :: ks0)) := ⟨_, rfl⟩
    have HL : Hid (∀ j, 1 ≤ j → j ≤ t.size → s.lang ((bytesN t).take j) → S.lang ((bytesN t).drop j) → hB S.lang t = true) := fun j h1 h2 h3 h4 => by
      rw [hS] at h4 ⊢
      exact hB_true ((sl5_cons hK _).2 ((star_split _ _).2 (.inr ⟨j, h1, by rw [bytesN_length]; exact h2, h3, (sl5_cons hK _).1 h4⟩)))
    have HL2 : Hid ((∀ j, 1 ≤ j → j ≤ t.size → ¬ (s.lang ((bytesN t).take j) ∧ S.lang ((bytesN t).drop j))) → hB S.lang t = false) := fun h => hB_false fun h' => by
      rw [hS] at h h'
      rcases (star_split _ _).1 ((sl5_cons hK _).1 h') with h1 | ⟨j, h1, h2, h3, h4⟩
      · exact h0 (by rw [← bytesN_length, h1]; rfl)
      · exact h j h1 (by rw [← bytesN_length]; exact h2) ⟨h3, (sl5_cons hK _).2 h4⟩
    have HIH := hide IH
    rw [← hS] at HIH
    have HI := hide ih
    clear IH ih h0
    intro cs w h
    have HS := hide h
    obtain ⟨v, rfl, hrow, ho, hlo, hhi, htx⟩ := h.open
    obtain ⟨hn, a, cap, rfl, -⟩ := hrow.at
    have HROW := hide hrow
    obtain ⟨B, hB0⟩ : ∃ B, B = w.heap.size := ⟨_, rfl⟩
    have h1 : OneS w B (SHP.mk o l u tx (s :: ks0)) a cap (w.alloc (.cells #[.int .i64 o, .int .u8 l, .int .u8 u, .string tx, .slice a (ks0.length + 1) cap] 24)) := ⟨(Below.refl _ _).alloc (Nat.le_of_eq hB0) _, Blk.newAt hB0 _ _⟩
    have hop := op_any _ _ _ (h.keep (hB0 ▸ h1.below))
    rw [hK] at hop
    have HOP := hide hop
    have HB0 := hide hB0
    have H0 := hide h1
    clear hop h hrow h1
    simp only [SHP.op, SHP.lo, SHP.hi, SHP.text, SHP.kids] at hn ho hlo hhi htx HROW HOP ⊢
    unfold ShVal at HOP ⊢
    go_enter Tryd.func12, Tryd.ntmps12
    go_wp2_with fail
    rw [← hB0]
    refine HOP.out.mono ?_
    rintro e w1 ⟨rfl, hb1⟩
    have H1 := hide (H0.out.step hb1)
    clear hb1 HOP H0 hB0
    have hx := H1.out.x
    have x0 := hx.cell 0; have x1 := hx.cell 1; have x2 := hx.cell 2; have x3 := hx.cell 3; have x4 := hx.cell 4
    simp only [inC, SHP.op, SHP.lo, SHP.hi, SHP.text, SHP.kids, List.getElem?_toArray, List.getElem?_cons_zero, List.getElem?_cons_succ] at x0 x1 x2 x3 x4
    clear hx
    obtain ⟨g, f, c, e1⟩ := HROW.out.first
    obtain ⟨rfl, rfl⟩ : a = some ⟨g, f, none⟩ ∧ cap = c := by cases e1; exact ⟨rfl, rfl⟩
    obtain ⟨⟨cz, hcz, hgl, hcell⟩, -⟩ := HROW.out.uncons
    clear e1
    obtain ⟨N, hN⟩ : ∃ N, N = ks0.length + 1 := ⟨_, rfl⟩
    have hn0 : ((N : Int) == 0) = false := beq_eq_false_iff_ne.2 (by omega)
    have HC1 : Hid (Grows fun W => OneS w B S (some ⟨g, f, none⟩) cap W) := fun W W' h1 h2 => h1.step h2
    have HCD : Hid (∀ W, OneS w B S (some ⟨g, f, none⟩) cap W → OneS w B S (some ⟨g, f, none⟩) cap { W with drawn := W.drawn + 1 }) := fun W h => ⟨⟨h.below.os, h.below.tape, h.below.output, h.below.size, h.below.block⟩, h.x⟩
    obtain ⟨cs, hcs⟩ : ∃ cs : List Value, cs = [.int .i64 o, .int .u8 l, .int .u8 u, .string tx, .slice (some ⟨g, f, none⟩) (ks0.length + 1) cap] := ⟨_, rfl⟩
    have HLEN : Hid (cs.length = 5) := by rw [hcs]; rfl
    have HLENZ := hide hcz.len
    have HQS : Hid (∀ W, OneS w B S (some ⟨g, f, none⟩) cap W → ∀ j u, cs[j]? = some u → W.cell? ⟨B, 0 + j, none⟩ = some u) := fun W hW j u hu => by
      rw [Nat.zero_add, hW.x.cell j]
      rw [hcs] at hu
      rw [hS]
      simpa [inC, SHP.op, SHP.lo, SHP.hi, SHP.text, SHP.kids] using hu
    have HQK : Hid (∀ W, OneS w B S (some ⟨g, f, none⟩) cap W → W.cell? ⟨B, 4, none⟩ = some (.slice (some ⟨g, f, none⟩) N cap)) := fun W hW => by
      rw [hW.x.cell 4, hN, hS]; rfl
    have HQ1 : Hid (∀ W, OneS w B S (some ⟨g, f, none⟩) cap W → ∀ j u, cz[j]? = some u → W.cell? ⟨g, f + j, none⟩ = some u) := fun W hW j u hu => (World.cell?_of_block (w := w) (hW.below.block _ (HB0.out ▸ hgl))).trans (hcell j u hu)
    have HCZ := hide hcz
    have HS : Hid (ShC w cs S) := by rw [hcs, hS]; exact HS.out
    rw [← hS] at H1
    simp only [List.length_cons] at x4
    rw [← hN] at x4
    have HNN := hide hN
    have hNp : 1 ≤ N := by omega
    simp only [List.length_cons] at hn
    have hNl : N ≤ 9223372036854775807 := by omega
    have hSS := hide hS
    clear hcz hcell hgl hcs hN HROW hn ho hlo hhi htx hS hK
    have hG := HC1.out
    clear hG
    go_wp2
    clear x0 x1 x2 x3 x4
    go_loopw [9] (fun i wr => ∃ k : Nat, 1 ≤ k ∧ k ≤ t.size + 1 ∧ i = .int .i64 k ∧ Hid (∀ j, 1 ≤ j → j < k → ¬ (s.lang ((bytesN t).take j) ∧ S.lang ((bytesN t).drop j))) ∧ Hid (OneS w B S (some ⟨g, f, none⟩) cap wr)) (fun i _ => t.size + 1 - (intOf i).toNat)
    case atStart => exact ⟨1, by omega, by omega, rfl, (fun j h1 h2 => by omega), H1⟩
    case round =>
      clear H1
      obtain ⟨k, hk0, hk1, rfl, HN, HW⟩ := hrel
      by_cases hk : k ≤ t.size
      · have hkd : decide ((k : Int) ≤ t.size) = true := by simp; omega
        have hkd2 : decide (k ≤ t.size) = true := by simp [hk]
        obtain ⟨b1, hb1⟩ : ∃ b1, b1 = hB s.lang (t.extract 0 k) := ⟨_, rfl⟩
        have HQ2 : Hid (∀ W, OneS w B S (some ⟨g, f, none⟩) cap W → Calls Tryd.prog 12 #[ShVal cz, .string (t.extract 0 k)] W fun e w' => e = .returned (.bool b1) ∧ Below W.heap.size W w') := fun W hW => by
          rw [hb1]; exact HI.out _ (by rw [size_take _ _ hk]; omega) cz W (HCZ.out.keep (HB0.out ▸ hW.below))
        go_wp2
        have hG := HC1.out
        have hq1 := HQ1.out
        have hq2 := HQ2.out
        have hqk := HQK.out
        have hqS := HQS.out
        have hlen := HLEN.out
        have hlenz := HLENZ.out
        cases b1
        · have HF : Hid (¬ s.lang ((bytesN t).take k)) := fun h => by rw [← bytesN_take] at h; rw [hB_true h] at hb1; cases hb1
          clear hb1
          refine w_lit (C := fun W => OneS w B S (some ⟨g, f, none⟩) cap W) (by kernel_rfl) (by kernel_rfl) (HCD.out _ HW.out) ?_
          refine w_value (.pointer (some ⟨B, 4, none⟩)) (by kernel_rfl) (fun w hw => x_fieldS4 _ _ _ _ _ _ _ B rfl w) ?_
          simp only [Act.put, List.setIfInBounds_toArray, List.set_cons_succ, List.set_cons_zero]
          refine w_value (.slice (some ⟨g, f, none⟩) N cap) (by kernel_rfl) (fun w hw => x_loadSl _ _ _ _ _ _ _ B 4 _ rfl w (hqk w hw)) ?_
          simp only [Act.put, List.setIfInBounds_toArray, List.set_cons_succ, List.set_cons_zero]
          refine w_value (.pointer (some ⟨g, f, none⟩)) (by kernel_rfl) (fun w hw => x_idxSh0 _ _ _ _ _ _ _ g f N cap rfl rfl (by omega) w) ?_
          simp only [Act.put, List.setIfInBounds_toArray, List.set_cons_succ, List.set_cons_zero]
          refine w_value (ShVal cz) (by kernel_rfl) (fun w hw => x_loadSh _ _ _ _ _ _ _ g f cz rfl w hlenz (hq1 w hw)) ?_
          simp only [Act.put, List.setIfInBounds_toArray, List.set_cons_succ, List.set_cons_zero]
          refine w_value (.string t) (by kernel_rfl) (fun w hw => x_move _ _ _ _ _ _ _ _ rfl w) ?_
          simp only [Act.put, List.setIfInBounds_toArray, List.set_cons_succ, List.set_cons_zero]
          refine w_value (.int .i64 k) (by kernel_rfl) (fun w hw => x_move _ _ _ _ _ _ _ _ rfl w) ?_
          simp only [Act.put, List.setIfInBounds_toArray, List.set_cons_succ, List.set_cons_zero]
          refine w_value (.string (t.extract 0 k)) (by kernel_rfl) (fun w hw => x_strTo _ _ _ _ _ _ _ _ t k rfl rfl hk w) ?_
          simp only [Act.put, List.setIfInBounds_toArray, List.set_cons_succ, List.set_cons_zero]
          refine w_call hG 12 #[ShVal cz, .string (t.extract 0 k)] (.bool false) (by kernel_rfl) (fun w => x_call2 _ _ _ _ _ _ _ _ _ _ _ _ _ rfl rfl rfl (enters_of Tryd.func12 (by kernel_rfl) rfl) w) (fun w hw => hq2 w hw) ?_
          simp only [Act.put, List.setIfInBounds_toArray, List.set_cons_succ, List.set_cons_zero]
          refine w_value (.bool false) (by kernel_rfl) (fun w hw => x_move _ _ _ _ _ _ _ _ rfl w) ?_
          simp only [Act.put, List.setIfInBounds_toArray, List.set_cons_succ, List.set_cons_zero]
          refine w_skip (by kernel_rfl) ?_
          simp only [Act.put, List.setIfInBounds_toArray, List.set_cons_succ, List.set_cons_zero]
          refine w_skip (by kernel_rfl) ?_
          simp only [Act.put, List.setIfInBounds_toArray, List.set_cons_succ, List.set_cons_zero]
          refine w_skip (by kernel_rfl) ?_
          simp only [Act.put, List.setIfInBounds_toArray, List.set_cons_succ, List.set_cons_zero]
          refine w_skip (by kernel_rfl) ?_
          simp only [Act.put, List.setIfInBounds_toArray, List.set_cons_succ, List.set_cons_zero]
          refine w_skip (by kernel_rfl) ?_
          simp only [Act.put, List.setIfInBounds_toArray, List.set_cons_succ, List.set_cons_zero]
          refine w_value (.bool false) (by kernel_rfl) (fun w hw => x_pick _ _ _ _ _ _ _ _ _ false undef (.bool false) rfl rfl rfl w) ?_
          simp only [Act.put, List.setIfInBounds_toArray, List.set_cons_succ, List.set_cons_zero]
          refine w_nil ?_
          intro W hW
          have HWW := hide hW
          clear hW hG hq2 hq1 HQ2 hqk hqS hlen hlenz
          go_wp2
          refine ⟨⟨k + 1, by omega, by omega, by go_num, ?_, HWW⟩, by simp [intOf]; omega⟩
          intro j hj1 hj h
          by_cases hjk : j = k
          · subst hjk; exact HF.out h.1
          · exact HN.out j hj1 (by omega) h
        · have HTR : Hid (s.lang ((bytesN t).take k)) := by
            show s.lang _
            rw [← bytesN_take]; exact (hB_iff _ _).1 hb1.symm
          obtain ⟨b2, hb2⟩ : ∃ b2, b2 = hB S.lang (t.extract k t.size) := ⟨_, rfl⟩
          have hq3 : ∀ W, OneS w B S (some ⟨g, f, none⟩) cap W → Calls Tryd.prog 12 #[ShVal cs, .string (t.extract k t.size)] W fun e w' => e = .returned (.bool b2) ∧ Below W.heap.size W w' := fun W hW => by
            have hz := size_drop t k
            rw [hb2]
            exact HIH.out (t.extract k t.size) (by omega) (by omega) cs W (HS.out.keep (HB0.out ▸ hW.below))
          cases b2
          · have HF : Hid (¬ S.lang ((bytesN t).drop k)) := fun h => by rw [← bytesN_drop] at h; rw [hB_true h] at hb2; cases hb2
            clear hb1 hb2
            refine w_lit (C := fun W => OneS w B S (some ⟨g, f, none⟩) cap W) (by kernel_rfl) (by kernel_rfl) (HCD.out _ HW.out) ?_
            refine w_value (.pointer (some ⟨B, 4, none⟩)) (by kernel_rfl) (fun w hw => x_fieldS4 _ _ _ _ _ _ _ B rfl w) ?_
            simp only [Act.put, List.setIfInBounds_toArray, List.set_cons_succ, List.set_cons_zero]
            refine w_value (.slice (some ⟨g, f, none⟩) N cap) (by kernel_rfl) (fun w hw => x_loadSl _ _ _ _ _ _ _ B 4 _ rfl w (hqk w hw)) ?_
            simp only [Act.put, List.setIfInBounds_toArray, List.set_cons_succ, List.set_cons_zero]
            refine w_value (.pointer (some ⟨g, f, none⟩)) (by kernel_rfl) (fun w hw => x_idxSh0 _ _ _ _ _ _ _ g f N cap rfl rfl (by omega) w) ?_
            simp only [Act.put, List.setIfInBounds_toArray, List.set_cons_succ, List.set_cons_zero]
            refine w_value (ShVal cz) (by kernel_rfl) (fun w hw => x_loadSh _ _ _ _ _ _ _ g f cz rfl w hlenz (hq1 w hw)) ?_
            simp only [Act.put, List.setIfInBounds_toArray, List.set_cons_succ, List.set_cons_zero]
            refine w_value (.string t) (by kernel_rfl) (fun w hw => x_move _ _ _ _ _ _ _ _ rfl w) ?_
            simp only [Act.put, List.setIfInBounds_toArray, List.set_cons_succ, List.set_cons_zero]
            refine w_value (.int .i64 k) (by kernel_rfl) (fun w hw => x_move _ _ _ _ _ _ _ _ rfl w) ?_
            simp only [Act.put, List.setIfInBounds_toArray, List.set_cons_succ, List.set_cons_zero]
            refine w_value (.string (t.extract 0 k)) (by kernel_rfl) (fun w hw => x_strTo _ _ _ _ _ _ _ _ t k rfl rfl hk w) ?_
            simp only [Act.put, List.setIfInBounds_toArray, List.set_cons_succ, List.set_cons_zero]
            refine w_call hG 12 #[ShVal cz, .string (t.extract 0 k)] (.bool true) (by kernel_rfl) (fun w => x_call2 _ _ _ _ _ _ _ _ _ _ _ _ _ rfl rfl rfl (enters_of Tryd.func12 (by kernel_rfl) rfl) w) (fun w hw => hq2 w hw) ?_
            simp only [Act.put, List.setIfInBounds_toArray, List.set_cons_succ, List.set_cons_zero]
            refine w_value (.bool true) (by kernel_rfl) (fun w hw => x_move _ _ _ _ _ _ _ _ rfl w) ?_
            simp only [Act.put, List.setIfInBounds_toArray, List.set_cons_succ, List.set_cons_zero]
            refine w_value (ShVal cs) (by kernel_rfl) (fun w hw => x_loadSh _ _ _ _ _ _ _ B 0 cs rfl w hlen (hqS w hw)) ?_
            simp only [Act.put, List.setIfInBounds_toArray, List.set_cons_succ, List.set_cons_zero]
            refine w_value (.string t) (by kernel_rfl) (fun w hw => x_move _ _ _ _ _ _ _ _ rfl w) ?_
            simp only [Act.put, List.setIfInBounds_toArray, List.set_cons_succ, List.set_cons_zero]
            refine w_value (.int .i64 k) (by kernel_rfl) (fun w hw => x_move _ _ _ _ _ _ _ _ rfl w) ?_
            simp only [Act.put, List.setIfInBounds_toArray, List.set_cons_succ, List.set_cons_zero]
            refine w_value (.string (t.extract k t.size)) (by kernel_rfl) (fun w hw => x_strFrom _ _ _ _ _ _ _ _ t k rfl rfl hk w) ?_
            simp only [Act.put, List.setIfInBounds_toArray, List.set_cons_succ, List.set_cons_zero]
            refine w_call hG 12 #[ShVal cs, .string (t.extract k t.size)] (.bool false) (by kernel_rfl) (fun w => x_call2 _ _ _ _ _ _ _ _ _ _ _ _ _ rfl rfl rfl (enters_of Tryd.func12 (by kernel_rfl) rfl) w) (fun w hw => hq3 w hw) ?_
            simp only [Act.put, List.setIfInBounds_toArray, List.set_cons_succ, List.set_cons_zero]
            refine w_value (.bool false) (by kernel_rfl) (fun w hw => x_pick _ _ _ _ _ _ _ _ _ true (.bool false) (.bool false) rfl rfl rfl w) ?_
            simp only [Act.put, List.setIfInBounds_toArray, List.set_cons_succ, List.set_cons_zero]
            refine w_nil ?_
            intro W hW
            have HWW := hide hW
            clear hW hG hq2 hq3 hq1 HQ2 hqk hqS hlen hlenz
            go_wp2
            refine ⟨⟨k + 1, by omega, by omega, by go_num, ?_, HWW⟩, by simp [intOf]; omega⟩
            intro j hj1 hj h
            by_cases hjk : j = k
            · subst hjk; exact HF.out h.2
            · exact HN.out j hj1 (by omega) h
          · have HKY : Hid (hB S.lang t = true) := HL.out k hk0 hk HTR.out (by rw [← bytesN_drop]; exact (hB_iff _ _).1 hb2.symm)
            clear hb1 hb2
            refine w_lit (C := fun W => OneS w B S (some ⟨g, f, none⟩) cap W) (by kernel_rfl) (by kernel_rfl) (HCD.out _ HW.out) ?_
            refine w_value (.pointer (some ⟨B, 4, none⟩)) (by kernel_rfl) (fun w hw => x_fieldS4 _ _ _ _ _ _ _ B rfl w) ?_
            simp only [Act.put, List.setIfInBounds_toArray, List.set_cons_succ, List.set_cons_zero]
            refine w_value (.slice (some ⟨g, f, none⟩) N cap) (by kernel_rfl) (fun w hw => x_loadSl _ _ _ _ _ _ _ B 4 _ rfl w (hqk w hw)) ?_
            simp only [Act.put, List.setIfInBounds_toArray, List.set_cons_succ, List.set_cons_zero]
            refine w_value (.pointer (some ⟨g, f, none⟩)) (by kernel_rfl) (fun w hw => x_idxSh0 _ _ _ _ _ _ _ g f N cap rfl rfl (by omega) w) ?_
            simp only [Act.put, List.setIfInBounds_toArray, List.set_cons_succ, List.set_cons_zero]
            refine w_value (ShVal cz) (by kernel_rfl) (fun w hw => x_loadSh _ _ _ _ _ _ _ g f cz rfl w hlenz (hq1 w hw)) ?_
            simp only [Act.put, List.setIfInBounds_toArray, List.set_cons_succ, List.set_cons_zero]
            refine w_value (.string t) (by kernel_rfl) (fun w hw => x_move _ _ _ _ _ _ _ _ rfl w) ?_
            simp only [Act.put, List.setIfInBounds_toArray, List.set_cons_succ, List.set_cons_zero]
            refine w_value (.int .i64 k) (by kernel_rfl) (fun w hw => x_move _ _ _ _ _ _ _ _ rfl w) ?_
            simp only [Act.put, List.setIfInBounds_toArray, List.set_cons_succ, List.set_cons_zero]
            refine w_value (.string (t.extract 0 k)) (by kernel_rfl) (fun w hw => x_strTo _ _ _ _ _ _ _ _ t k rfl rfl hk w) ?_
            simp only [Act.put, List.setIfInBounds_toArray, List.set_cons_succ, List.set_cons_zero]
            refine w_call hG 12 #[ShVal cz, .string (t.extract 0 k)] (.bool true) (by kernel_rfl) (fun w => x_call2 _ _ _ _ _ _ _ _ _ _ _ _ _ rfl rfl rfl (enters_of Tryd.func12 (by kernel_rfl) rfl) w) (fun w hw => hq2 w hw) ?_
            simp only [Act.put, List.setIfInBounds_toArray, List.set_cons_succ, List.set_cons_zero]
            refine w_value (.bool true) (by kernel_rfl) (fun w hw => x_move _ _ _ _ _ _ _ _ rfl w) ?_
            simp only [Act.put, List.setIfInBounds_toArray, List.set_cons_succ, List.set_cons_zero]
            refine w_value (ShVal cs) (by kernel_rfl) (fun w hw => x_loadSh _ _ _ _ _ _ _ B 0 cs rfl w hlen (hqS w hw)) ?_
            simp only [Act.put, List.setIfInBounds_toArray, List.set_cons_succ, List.set_cons_zero]
            refine w_value (.string t) (by kernel_rfl) (fun w hw => x_move _ _ _ _ _ _ _ _ rfl w) ?_
            simp only [Act.put, List.setIfInBounds_toArray, List.set_cons_succ, List.set_cons_zero]
            refine w_value (.int .i64 k) (by kernel_rfl) (fun w hw => x_move _ _ _ _ _ _ _ _ rfl w) ?_
            simp only [Act.put, List.setIfInBounds_toArray, List.set_cons_succ, List.set_cons_zero]
            refine w_value (.string (t.extract k t.size)) (by kernel_rfl) (fun w hw => x_strFrom _ _ _ _ _ _ _ _ t k rfl rfl hk w) ?_
            simp only [Act.put, List.setIfInBounds_toArray, List.set_cons_succ, List.set_cons_zero]
            refine w_call hG 12 #[ShVal cs, .string (t.extract k t.size)] (.bool true) (by kernel_rfl) (fun w => x_call2 _ _ _ _ _ _ _ _ _ _ _ _ _ rfl rfl rfl (enters_of Tryd.func12 (by kernel_rfl) rfl) w) (fun w hw => hq3 w hw) ?_
            simp only [Act.put, List.setIfInBounds_toArray, List.set_cons_succ, List.set_cons_zero]
            refine w_value (.bool true) (by kernel_rfl) (fun w hw => x_pick _ _ _ _ _ _ _ _ _ true (.bool true) (.bool false) rfl rfl rfl w) ?_
            simp only [Act.put, List.setIfInBounds_toArray, List.set_cons_succ, List.set_cons_zero]
            refine w_nil ?_
            intro W hW
            have HWW := hide hW
            clear hW hG hq2 hq3 hq1 HQ2 hqk hqS hlen hlenz
            go_wp2
            go_ret
            refine ⟨?_, HB0.out ▸ HWW.out.below⟩
            rw [← hSS.out, HKY.out]; rfl
      · have hkd : decide ((k : Int) ≤ t.size) = false := by simp; omega
        have hkd2 : decide (k ≤ t.size) = false := by simp; omega
        have HKY : Hid (hB S.lang t = false) := HL2.out fun j h1 h2 => HN.out j h1 (by omega)
        go_wp2
        go_ret
        refine ⟨?_, HB0.out ▸ HW.out.below⟩
        rw [← hSS.out, HKY.out]; rfl

theorem hB7 {o : Int} {l u : Nat} {tx : ByteArray} {ks : List SHP} (h : (SHP.mk o l u tx ks).k = 7) (t : ByteArray) (p q : Lg) (h0 : (ks.map SHP.lang)[0]? = some p) (h1 : (∃ m, (ks.map SHP.lang)[1]? = some m ∧ m (bytesN t)) ↔ q (bytesN t)) :
    hB (SHP.mk o l u tx ks).lang t = (hB p t && !hB q t) := by
  have hl := sl7 h (bytesN t)
  rw [h0, h1] at hl
  cases h2 : hB p t with
  | false =>
    refine hB_false fun h => ?_
    obtain ⟨⟨m, e, h3⟩, -⟩ := hl.1 h
    injection e with e
    subst e
    rw [hB_true h3] at h2; cases h2
  | true =>
    cases h3 : hB q t with
    | false => exact hB_true (hl.2 ⟨⟨p, rfl, (hB_iff _ _).1 h2⟩, fun h => by rw [hB_true h] at h3; cases h3⟩)
    | true => exact hB_false fun h => (hl.1 h).2 ((hB_iff _ _).1 h3)
set_option maxHeartbeats 1000000 in
theorem in7 (o : Int) (l u : Nat) (tx : ByteArray) (ks : List SHP) (t : ByteArray) (hK : (SHP.mk o l u tx ks).k = 7) (ih : ∀ k ∈ ks, InAt k t) : InAt (.mk o l u tx ks) t := by
  intro cs w h
  have HS := hide h
  obtain ⟨v, rfl, hrow, ho, hlo, hhi, htx⟩ := h.open
  obtain ⟨hn, a, cap, rfl, -⟩ := hrow.at
  have HROW := hide hrow
  obtain ⟨B, hB0⟩ : ∃ B, B = w.heap.size := ⟨_, rfl⟩
  have h1 : OneS w B (SHP.mk o l u tx ks) a cap (w.alloc (.cells #[.int .i64 o, .int .u8 l, .int .u8 u, .string tx, .slice a ks.length cap] 24)) := ⟨(Below.refl _ _).alloc (Nat.le_of_eq hB0) _, Blk.newAt hB0 _ _⟩
  have hop := op_any _ _ _ (h.keep (hB0 ▸ h1.below))
  rw [hK] at hop
  have HOP := hide hop
  have HB0 := hide hB0
  have H0 := hide h1
  clear hop h hrow h1
  simp only [SHP.op, SHP.lo, SHP.hi, SHP.text, SHP.kids] at hn ho hlo hhi htx HROW HOP ⊢
  unfold ShVal at HOP ⊢
  go_enter Tryd.func12, Tryd.ntmps12
  go_wp2_with fail
  rw [← hB0]
  refine HOP.out.mono ?_
  rintro e w1 ⟨rfl, hb1⟩
  have H1 := hide (H0.out.step hb1)
  clear hb1 HOP H0 hB0
  have hx := H1.out.x
  have x0 := hx.cell 0; have x1 := hx.cell 1; have x2 := hx.cell 2; have x3 := hx.cell 3; have x4 := hx.cell 4
  simp only [inC, SHP.op, SHP.lo, SHP.hi, SHP.text, SHP.kids, List.getElem?_toArray, List.getElem?_cons_zero, List.getElem?_cons_succ] at x0 x1 x2 x3 x4
  clear hx
  cases ks with
  | nil =>
    have HR : Hid (hB (SHP.mk o l u tx []).lang t = false) := hB_false fun h => by
      obtain ⟨⟨m, e, -⟩, -⟩ := (sl7 hK _).1 h
      simp at e
    simp only [List.length_nil] at x4
    go_wp2
    go_ret
    refine ⟨?_, HB0.out ▸ H1.out.below⟩
    rw [HR.out]; rfl
  | cons x ks =>
    obtain ⟨g, f, c, e1⟩ := HROW.out.first
    obtain ⟨rfl, rfl⟩ : a = some ⟨g, f, none⟩ ∧ cap = c := by cases e1; exact ⟨rfl, rfl⟩
    clear e1
    simp only [List.length_cons] at x4 hn
    obtain ⟨-, a', cap', e1, g1⟩ := (HROW.out.keep (show Below w.heap.size w w1 from HB0.out ▸ H1.out.below)).at
    obtain ⟨rfl, rfl⟩ : some ⟨g, f, none⟩ = a' ∧ cap = cap' := by cases e1; exact ⟨rfl, rfl⟩
    obtain ⟨b, off, kv, e2, -, ⟨c0, c1, c2, c3, c4⟩, hC⟩ := g1 0 (by simp)
    obtain ⟨rfl, rfl⟩ : g = b ∧ f = off := by cases e2; exact ⟨rfl, rfl⟩
    simp only [List.getElem_cons_zero, Nat.zero_mul, Nat.add_zero] at c0 c1 c2 c3 c4 hC
    have hd0 : decide (0 < ks.length + 1) = true := by simp
    have hd1 : decide ((0 : Int) < (ks.length : Int) + 1) = true := by simp only [decide_eq_true_eq]; omega
    have he := ih x (by simp) _ w1 hC
    obtain ⟨q1, hq1⟩ : ∃ q1, q1 = hB x.lang t := ⟨_, rfl⟩
    rw [← hq1] at he
    have HE := hide he
    clear he
    have HQ1 := hide hq1
    have HIH := hide ih
    clear hC g1 e1 e2 ih hq1
    unfold ShVal at HE
    go_wp2_with fail
    refine HE.out.mono ?_
    rintro e w2 ⟨rfl, hb2⟩
    have H2 := hide (H1.out.step hb2)
    clear hb2 HE H1 x0 x1 x2 x3 x4 c0 c1 c2 c3 c4
    have y4 := H2.out.x.cell 4
    simp only [inC, SHP.op, SHP.lo, SHP.hi, SHP.text, SHP.kids, List.getElem?_toArray, List.getElem?_cons_zero, List.getElem?_cons_succ, List.length_cons] at y4
    cases q1
    · have HR : Hid (hB (SHP.mk o l u tx (x :: ks)).lang t = false) := hB_false fun h => by
        obtain ⟨⟨m, e, h3⟩, -⟩ := (sl7 hK _).1 h
        have e : some x.lang = some m := e
        injection e with e
        rw [← e] at h3
        have := HQ1.out
        rw [hB_true h3] at this; cases this
      go_wp2
      go_ret
      refine ⟨?_, HB0.out ▸ H2.out.below⟩
      rw [HR.out]; rfl
    · cases ks with
      | nil =>
        have HR : Hid (hB (SHP.mk o l u tx [x]).lang t = true) := by
          show _ = _
          rw [hB7 hK t x.lang (fun _ => False) rfl (by simp), ← HQ1.out, hB_false (l := fun _ => False) id]; rfl
        simp only [List.length_nil, Nat.zero_add] at y4
        go_wp2
        go_ret
        refine ⟨?_, HB0.out ▸ H2.out.below⟩
        rw [HR.out]; rfl
      | cons y ks =>
        obtain ⟨-, a', cap', e1, g1⟩ := (HROW.out.keep (show Below w.heap.size w w2 from HB0.out ▸ H2.out.below)).at
        obtain ⟨rfl, rfl⟩ : some ⟨g, f, none⟩ = a' ∧ cap = cap' := by cases e1; exact ⟨rfl, rfl⟩
        obtain ⟨b, off, kv, e2, -, ⟨c0, c1, c2, c3, c4⟩, hC⟩ := g1 1 (by simp)
        obtain ⟨rfl, rfl⟩ : g = b ∧ f = off := by cases e2; exact ⟨rfl, rfl⟩
        simp only [List.getElem_cons_zero, List.getElem_cons_succ, Nat.one_mul, Nat.add_assoc, Nat.reduceAdd] at c0 c1 c2 c3 c4 hC
        simp only [List.length_cons] at y4 hn
        have hd2 : decide ((1 : Int) < (ks.length : Int) + 1 + 1) = true := by simp only [decide_eq_true_eq]; omega
        have hd3 : decide (1 < ks.length + 1 + 1) = true := by simp
        have he := HIH.out y (by simp) _ w2 hC
        obtain ⟨q2, hq2⟩ : ∃ q2, q2 = hB y.lang t := ⟨_, rfl⟩
        rw [← hq2] at he
        have HE := hide he
        clear he
        have HR : Hid (hB (SHP.mk o l u tx (x :: y :: ks)).lang t = !q2) := by
          show _ = _
          rw [hB7 hK t x.lang y.lang rfl (by simp), ← HQ1.out, ← hq2]; rfl
        clear hC g1 e1 e2 hq2 hd0 hd1
        unfold ShVal at HE
        go_wp2_with fail
        refine HE.out.mono ?_
        rintro e w3 ⟨rfl, hb2⟩
        have H3 := hide (H2.out.step hb2)
        clear hb2 HE H2 y4 c0 c1 c2 c3 c4
        go_wp2
        go_ret
        refine ⟨?_, HB0.out ▸ H3.out.below⟩
        rw [HR.out]; rfl
theorem shIn_any (s : SHP) : ∀ t, t.size ≤ 1000 → InAt s t := by
  refine SHP.ind (P := fun s => ∀ t, t.size ≤ 1000 → InAt s t) ?_ s
  intro o l u tx ks ih t ht
  have ho : (SHP.mk o l u tx ks).k < 9 := by unfold SHP.k; omega
  obtain h | h | h | h | h | h | h | h | h : (SHP.mk o l u tx ks).k = 0 ∨ (SHP.mk o l u tx ks).k = 1 ∨ (SHP.mk o l u tx ks).k = 2 ∨ (SHP.mk o l u tx ks).k = 3 ∨ (SHP.mk o l u tx ks).k = 4 ∨ (SHP.mk o l u tx ks).k = 5 ∨ (SHP.mk o l u tx ks).k = 6 ∨ (SHP.mk o l u tx ks).k = 7 ∨ (SHP.mk o l u tx ks).k = 8 := by omega
  · exact in0 o l u tx ks t h
  · exact in1 o l u tx ks t h
  · exact in2 o l u tx ks t h
  · exact in3 o l u tx ks t h ht fun k hk t' ht' => ih k hk t' (by omega)
  · exact in4 o l u tx ks t h fun k hk => ih k hk t ht
  · by_cases h0 : t.size = 0
    · exact in5_nil o l u tx ks t h h0
    · cases ks with
      | nil => exact in5_none o l u tx t h h0
      | cons s ks => exact in5 o l u tx s ks h (ih s (by simp)) _ t (Nat.le_refl _) ht
  · exact in6 o l u tx ks t h fun k hk => ih k hk t ht
  · exact in7 o l u tx ks t h fun k hk => ih k hk t ht
  · exact in8 o l u tx ks t h
end Go.Proofs.YthemadegffhmfaaDoor
/- A slice of ints that came in; the text of few letters. -/
namespace Go.Proofs.YthemadegffhmfaaDoor
set_option maxRecDepth 100000
set_option linter.unusedSimpArgs false
set_option linter.unusedVariables false
open Go.RowKit

theorem x_eqBoolB (ρ : Operand → Value) (d : Option Tmp) (x y : Operand) (t : TypeId) (pos : String) (af : Array Edge) (g : Option (Nat × Bool)) (u v : Bool) (h : (u == v) = true) (hx : ρ x = .bool u) (hy : ρ y = .bool v) (w : World) :
    (execOp ρ { dst := d, op := .binOp .eql 4 x y 4, type := t, pos := pos, after := af, guard := g }).run Tryd.prog w = .ok (.value (.bool true)) w := by
  rw [← h]; exact x_eqBool ρ d x y t pos af g u v hx hy w
/-- A slice of ints that came in. -/
def IntRow (w : World) (v : Value) (n : Nat) : Prop := n ≤ 9223372036854775807 ∧ ∃ a cap, v = .slice a n cap ∧ ∀ k, k < n → ∃ b off z, a = some ⟨b, off, none⟩ ∧ b < w.heap.size ∧ w.cell? ⟨b, off + k, none⟩ = some (.int .i64 z)
theorem IntRow.keep {w w' : World} {v : Value} {n : Nat} (h : IntRow w v n) (hb : Below w.heap.size w w') : IntRow w' v n := by
  obtain ⟨h0, a, cap, rfl, h1⟩ := h
  refine ⟨h0, a, cap, rfl, fun k hk => ?_⟩
  obtain ⟨b, off, z, e, hlt, hc⟩ := h1 k hk
  exact ⟨b, off, z, e, Nat.lt_of_lt_of_le hlt hb.size, (World.cell?_of_block (w := w) (hb.block b hlt)).trans hc⟩
section
open Go.ChangeShapes Go.WideShapes Go.ChangeAt Go.WideMaps Go.WideElems
theorem open_introw {H : Type} {enc : TypeId × Value → H} {w : World} {r : Reach} {b0 base : Nat} {sp : Nat → Bool} {held : Bool} {v : Value} {d : DataW H} {p : List MemPlace}
    (hv : Value.okWide Tryd.prog w r b0 25 v) (h : DataW.Trod enc Tryd.prog w base sp held 25 v d p) : ∃ n, IntRow w v n := by
  obtain ⟨a, len, cap, rfl⟩ := okWide_slice Tryd.underlying25 hv
  obtain ⟨fuel, hf⟩ := h
  rcases open_ints Tryd.underlying25 Tryd.underlying3 cellsI hf with ⟨hcs, _⟩ | ⟨x, l, c, zs, hcs, _, hl, hm, hz, _, hcell, hwz⟩
  · simp [Value.cells] at hcs
    obtain ⟨rfl, rfl, rfl⟩ := hcs
    exact ⟨0, by omega, none, 0, rfl, fun k hk => by omega⟩
  · simp [Value.cells] at hcs
    obtain ⟨rfl, rfl, rfl⟩ := hcs
    have hlen : len ≤ zs.length := by rw [hz]; split <;> omega
    unfold maxLen at hm
    refine ⟨len, by omega, some x, cap, rfl, fun k hk => ?_⟩
    obtain ⟨b, off, rfl, hc⟩ := ints_at hcell (show 0 < zs.length by omega)
    exact ⟨b, off, _, rfl, World.block_lt_of_cell? _ _ (hc k (by omega)), hc k (by omega)⟩
end
theorem i64_and3 (n : Int) : bits .and .i64 n 3 = n % 4 := by
  have h3 : (BitVec.ofInt 64 3).toNat = 2 ^ 2 - 1 := by decide
  have key : (BitVec.ofInt 64 n &&& BitVec.ofInt 64 3).toNat = (n % ((2 ^ 64 : Nat) : Int)).toNat % 2 ^ 2 := by
    rw [BitVec.toNat_and, BitVec.toNat_ofInt, h3, Nat.and_two_pow_sub_one_eq_mod]
  show IntKind.i64.wrap ((BitVec.ofInt 64 n &&& BitVec.ofInt 64 3).toNat : Nat) = n % 4
  rw [key, IntKind.wrap_i64]
  omega
theorem one_byte (W : World) (a : Int) : (convert 33 9 (.slice (some ⟨W.heap.size, 0, none⟩) 1 1)).run Tryd.prog (W.alloc (.cells #[.int .u8 a] 5)) = .ok (.string (strOfNums [a])) (W.alloc (.cells #[.int .u8 a] 5)) := by
  refine run_convert_bytes_arg _ 33 5 Tryd.underlying33 Tryd.underlying5 _ 0 1 1 [a] rfl ?_ 9 Tryd.underlying9
  intro i hi
  rw [(Blk.new W _ _).cell]
  match i, hi with
  | 0, _ => rfl

set_option maxHeartbeats 1000000 in
theorem some_any (n : Nat) (v : Value) (w : World) (hn : n ≤ 6) (h : IntRow w v n) : Calls Tryd.prog 9 #[v] w fun e w' => ∃ t : ByteArray, e = .returned (.string t) ∧ t.size = n ∧ Below w.heap.size w w' := by
  have HI := hide h
  obtain ⟨-, a, cap, rfl, -⟩ := h
  obtain ⟨B, hB⟩ : ∃ B, B = w.heap.size := ⟨_, rfl⟩
  have HB := hide hB
  rw [← hB]
  clear hB
  go_enter Tryd.func9, Tryd.ntmps9
  go_wp2
  go_loopw [3, 8] (fun q i wr => ∃ (k : Nat) (t : ByteArray), k ≤ n ∧ i = .int .i64 k ∧ q = .string t ∧ t.size = k ∧ Hid (Below B w wr)) (fun _ i _ => n - (intOf i).toNat)
  case atStart => exact ⟨0, ⟨#[]⟩, by omega, rfl, rfl, rfl, Below.refl _ _⟩
  case round =>
    obtain ⟨k, t, hk, rfl, rfl, ht, HW⟩ := hrel
    have hBW : B ≤ wr.heap.size := by rw [HB.out]; exact (HB.out ▸ HW.out).size
    by_cases hlt : k < n
    · have hkd : decide (k < n) = true := by simp [hlt]
      obtain ⟨-, a', cap', e1, g1⟩ := HI.out.keep (show Below w.heap.size w wr from HB.out ▸ HW.out)
      obtain ⟨rfl, rfl⟩ : a = a' ∧ cap = cap' := by cases e1; exact ⟨rfl, rfl⟩
      obtain ⟨b, off, z, rfl, -, hc⟩ := g1 k hlt
      clear g1 e1
      obtain ⟨m, hm, hz⟩ : ∃ m : Nat, m < 4 ∧ bits .and .i64 z 3 = (m : Int) := ⟨(z % 4).toNat, by omega, by rw [i64_and3]; omega⟩
      have e8 : IntKind.u8.wrap (m : Int) = (m : Int) := by simp [IntKind.wrap, IntKind.signed, IntKind.bits]; omega
      have e9 : IntKind.u8.wrap (97 + (m : Int)) = ((97 + m : Nat) : Int) := by simp [IntKind.wrap, IntKind.signed, IntKind.bits]; omega
      obtain ⟨d, hd⟩ : ∃ d : Nat, d = 97 + m := ⟨_, rfl⟩
      rw [← hd] at e9
      have hcv := one_byte wr (d : Int)
      have hst : (strOfNums [(d : Int)]).size = 1 := by rw [strOfNums_size]; rfl
      generalize strOfNums [(d : Int)] = tt at *
      have HT : Hid ((t ++ tt).size = k + 1) := by show _ = _; rw [ByteArray.size_append, hst, ht]
      have ht6 : t.size ≤ 6 := by omega
      have htt : tt.size ≤ 1 := by omega
      clear ht hst hd
      go_wp2
      refine ⟨⟨k + 1, t ++ tt, by omega, by go_num, rfl, HT.out, HW.out.alloc hBW _⟩, by simp [intOf]; omega⟩
    · obtain rfl : k = n := by omega
      have HT := hide ht
      clear ht
      go_wp2
      go_ret
      exact ⟨t, rfl, HT.out, HW.out⟩

end Go.Proofs.YthemadegffhmfaaDoor
/- DerivTexts, walked. -/
namespace Go.Proofs.YthemadegffhmfaaDoor
set_option maxRecDepth 100000
set_option linter.unusedSimpArgs false
set_option linter.unusedVariables false
open Go.RowKit

theorem x_buildT (ρ : Operand → Value) (d : Option Tmp) (x : Operand) (t : TypeId) (pos : String) (af : Array Edge) (g : Option (Nat × Bool)) (c : Int) (w : World) (hx : ρ x = .int .u8 c) :
    (execOp ρ { dst := d, op := .buildSlice 33 1 #[(0, x)], type := t, pos := pos, after := af, guard := g }).run Tryd.prog w = .ok (.value (.slice (some ⟨w.heap.size, 0, none⟩) 1 1)) (w.alloc (.cells #[.int .u8 c] 5)) := by
  simp [go_sem, hx]
theorem x_strT (ρ : Operand → Value) (d : Option Tmp) (x : Operand) (t : TypeId) (pos : String) (af : Array Edge) (g : Option (Nat × Bool)) (c : Int) (b n : Nat) (hn : c = (n : Int)) (hx : ρ x = .slice (some ⟨b, 0, none⟩) 1 1) (w : World) (hB : Blk w b #[.int .u8 c] 5) :
    (execOp ρ { dst := d, op := .convert 33 9 x, type := t, pos := pos, after := af, guard := g }).run Tryd.prog w = .ok (.value (.string (strB [n]))) w := by
  subst hn
  have h : (convert 33 9 (.slice (some ⟨b, 0, none⟩) 1 1)).run Tryd.prog w = .ok (.string (strOfNums [(n : Int)])) w := by
    refine run_convert_bytes_arg _ 33 5 Tryd.underlying33 Tryd.underlying5 _ 0 1 1 [(n : Int)] rfl ?_ 9 Tryd.underlying9
    intro i hi
    rw [hB.cell]
    match i, hi with
    | 0, _ => rfl
  simp [go_sem, hx, h]
  rfl
theorem x_addT (ρ : Operand → Value) (d : Option Tmp) (x y : Operand) (t : TypeId) (pos : String) (af : Array Edge) (g : Option (Nat × Bool)) (u v : ByteArray) (hx : ρ x = .string u) (hy : ρ y = .string v) (hs : u.size + v.size ≤ 1000000) (w : World) :
    (execOp ρ { dst := d, op := .binOp .add 9 x y 9, type := t, pos := pos, after := af, guard := g }).run Tryd.prog w = .ok (.value (.string (u ++ v))) w := by
  have h : ¬ (u ++ v).size > 9223372036854775807 := by rw [ByteArray.size_append]; omega
  simp [go_sem, hx, hy]
  omega
section
variable {ops : Array Oper} {S S' : World → Prop} {Q : Exit → Act → World → Prop} {fuel : Nat} {listed : Array Bool} {a : Act} {w : World} {oi oj : Oper} {ri rj : List Oper}
theorem wpAnyH_weaken2 (hS : ∀ w, S' w → S w) : ∀ (fuel : Nat) (listed : Array Bool) (a : Act) (w : World), wpAnyH Tryd.prog .any ops Q S' fuel listed a w → wpAnyH Tryd.prog .any ops Q S fuel listed a w
  | 0, _, _, _, h => h
  | fuel + 1, _, _, _, h => ⟨h.1, fun i hi => wpOp_mono (fun a' w' h' => ⟨hS w' h'.1, wpAnyH_weaken2 hS fuel _ a' w' h'.2⟩) (h.2 i hi)⟩
/-- A call, and what is laid, in either order. -/
theorem h_two (i j : Nat) (f : FuncId) (vs : Array Value) (v v2 : Value) (w2 : World) (hi : ops.toList.drop i = oi :: ri) (hj : ops.toList.drop j = oj :: rj) (hr : Region.ready .any ops listed = [i, j])
    (hwi : Region.wanted oi (yielded ops a.tmps) = true) (hwj : Region.wanted oj (yielded ops a.tmps) = true) (hv : (execOp a.eval oi).run Tryd.prog w = .ok (.enter f vs) w)
    (hc : Calls Tryd.prog f vs w fun e w' => e = .returned v ∧ S w') (h1 : ∀ w', S w' → wpAnyH Tryd.prog .any ops (NoPanic Q) S fuel (listed.setIfInBounds i true) (a.put oi.dst v) w')
    (ha : (execOp a.eval oj).run Tryd.prog w = .ok (.value v2) w2) (hS2 : S w2) (h2 : wpAnyH Tryd.prog .any ops (NoPanic Q) S fuel (listed.setIfInBounds j true) (a.put oj.dst v2) w2) : wpAnyH Tryd.prog .any ops (NoPanic Q) S (fuel + 1) listed a w := by
  refine wpAnyH_all hr (by simp) ?_
  intro n hn
  rcases List.mem_cons.1 hn with rfl | hn
  · unfold wpOp
    simp only [at_drop hi, hwi, if_true]
    refine .inl ?_
    unfold Oper.wp
    rw [hv, Oper.upon_enter]
    refine hc.mono ?_
    rintro e w' ⟨rfl, hS⟩
    exact ⟨hS, h1 w' hS⟩
  · obtain rfl : n = j := by simpa using hn
    unfold wpOp
    simp only [at_drop hj, hwj, if_true]
    refine .inl ?_
    unfold Oper.wp
    rw [ha, Oper.upon_value]
    exact ⟨hS2, h2⟩
end

set_option maxHeartbeats 4000000 in
theorem derivTexts_any (cs : List Value) (s : SHP) (n : Nat) (hn : n < 256) (v : Value) (ln : Nat) (w : World) (hs : ShC w cs s) (hv : IntRow w v ln) (hT : TabAt w) :
    Calls Tryd.prog 3 #[ShVal cs, .int .u8 n, v] w fun e w' => e = .returned (.bool true) ∧ Below w.heap.size w w' := by
  have HC := hide hs
  have HT := hide hT
  have HV := hide hv
  have HLEN := hide hs.len
  obtain ⟨hln, la, lcap, rfl, -⟩ := hv
  obtain ⟨kv, hcs, hrow, -⟩ := hs.open
  obtain ⟨-, a, cap, rfl, -⟩ := hrow.at
  have HCS := hide hcs
  have hv0 : ShVal cs = .agg #[.int .i64 s.op, .int .u8 s.lo, .int .u8 s.hi, .string s.text, .slice a s.kids.length cap] := by rw [hcs]; rfl
  rw [hv0]
  have HV0 := hide hv0
  clear hs hT hrow hcs hv0
  obtain ⟨B, hB⟩ : ∃ B, B = w.heap.size := ⟨_, rfl⟩
  go_enter Tryd.func3, Tryd.ntmps3
  go_wp2_with fail
  have hb0 : Below B w (w.alloc (.cells #[.int .i64 s.op, .int .u8 s.lo, .int .u8 s.hi, .string s.text, .slice a s.kids.length cap] 24)) := (Below.refl _ _).alloc (Nat.le_of_eq hB) _
  have hbx : Blk (w.alloc (.cells #[.int .i64 s.op, .int .u8 s.lo, .int .u8 s.hi, .string s.text, .slice a s.kids.length cap] 24)) B #[.int .i64 s.op, .int .u8 s.lo, .int .u8 s.hi, .string s.text, .slice a s.kids.length cap] 24 := Blk.newAt hB _ _
  refine (head5_any _ (HT.out.agree (Agree.of_all (K := fun _ => True) (hB ▸ hb0)) trivial)).mono ?_
  rintro e w1 ⟨rfl, hb1⟩
  have hbx1 := hbx.below hb1 hbx.lt
  have HX1 := hide hbx1
  have HB1 := hide (hb0.trans (hb1.mono (by simp; omega)))
  have HB := hide hB
  rw [← hB]
  clear hb0 hbx hb1 hB
  have xB := hbx1
  have x0 := xB.cell 0; have x1 := xB.cell 1; have x2 := xB.cell 2; have x3 := xB.cell 3; have x4 := xB.cell 4
  simp only [List.getElem?_toArray, List.getElem?_cons_zero, List.getElem?_cons_succ] at x0 x1 x2 x3 x4
  clear xB
  clear hbx1
  have hfew := few_any s _ w1 (HC.out.keep (HB.out ▸ HB1.out))
  rw [HV0.out] at hfew
  have HFEW := hide hfew
  clear hfew
  go_wp2_with fail
  refine HFEW.out.mono ?_
  rintro e w2 ⟨few, rfl, hfw, hb2⟩
  have hsB1 : B ≤ w1.heap.size := by have := HX1.out.lt; omega
  have HB2 := hide (HB1.out.trans (hb2.mono hsB1))
  have hbx2 := HX1.out.below hb2 HX1.out.lt
  have HX2 := hide hbx2
  have HFW := hide hfw
  clear hb2 hfw HFEW x0 x1 x2 x3 x4 HX1 HB1
  cases few
  · clear hbx2
    go_wp2
    go_ret
    exact ⟨rfl, HB.out ▸ HB2.out⟩
  obtain ⟨htx, hnd⟩ := HFW.out rfl
  clear HFW
  by_cases h5 : 5 < ln
  · have hd5 : decide ((5 : Int) < ln) = true := decide_eq_true (by omega)
    have hd5' : decide (5 < ln) = true := decide_eq_true h5
    clear hbx2
    go_wp2
    go_ret
    exact ⟨rfl, HB.out ▸ HB2.out⟩
  have hd5 : decide ((5 : Int) < ln) = false := decide_eq_false (by omega)
  have hd5' : decide (5 < ln) = false := decide_eq_false h5
  have xB := hbx2
  have x0 := xB.cell 0; have x1 := xB.cell 1; have x2 := xB.cell 2; have x3 := xB.cell 3; have x4 := xB.cell 4
  simp only [List.getElem?_toArray, List.getElem?_cons_zero, List.getElem?_cons_succ] at x0 x1 x2 x3 x4
  clear xB
  clear hbx2
  have hsB2 : B ≤ w2.heap.size := by have := HX2.out.lt; omega
  have hmk := make_any s _ w2 (HC.out.keep (HB.out ▸ HB2.out)) htx hnd (HT.out.agree (Agree.of_all (K := fun _ => True) (HB.out ▸ HB2.out)) trivial)
  rw [HV0.out] at hmk
  have HMK := hide hmk
  clear hmk
  go_wp2_with fail
  refine HMK.out.mono ?_
  rintro e w3 ⟨rb, rfl, hr3, hb3⟩
  have HB3 := hide (HB2.out.trans (hb3.mono hsB2))
  have HR3 := hide hr3
  have HX3 := hide (HX2.out.below hb3 HX2.out.lt)
  have hsB3 : B ≤ w3.heap.size := by have := hb3.size; omega
  have HSO := hide (some_any ln (.slice la ln lcap) w3 (by omega) (HV.out.keep (HB.out ▸ HB3.out)))
  clear x0 x1 x2 x3 x4 HX2 HB2 HMK hsB2 hsB1 hb3 hr3
  try unfold PT
  go_wp2_with fail
  refine HSO.out.mono ?_
  rintro e w4 ⟨t, rfl, hts, hb4⟩
  have HB4 := hide (HB3.out.trans (hb4.mono hsB3))
  have HR4 := hide (HR3.out.keep hb4)
  have HX4 := hide (HX3.out.below hb4 HX3.out.lt)
  have HT4 := hide (HT.out.agree (Agree.of_all (K := fun _ => True) (HB.out ▸ HB4.out)) trivial)
  have hsB4 : B ≤ w4.heap.size := by have := hb4.size; omega
  have ht5 : t.size ≤ 5 := by omega
  have HTL := hide hts
  have hwf := s.wf
  have hcnt : s.re.cnt ≤ 660 := by have := s.cnt htx; omega
  have hbits := u8_and3 n hn
  have hm4 : n % 4 < 4 := Nat.mod_lt _ (by omega)
  obtain ⟨b, hb⟩ : ∃ b, b = 97 + n % 4 := ⟨_, rfl⟩
  have hb256 : b < 256 := by omega
  have hb3i : (97 : Int) + (n : Int) % 4 = (b : Int) := by omega
  have HBY := hide (By_any b hb256 s.re rb w4 hwf (fits_cnt b _ hwf (by omega)) HR4.out HT4.out)
  have HWF := hide hwf
  have HMF := hide (mfits_few s htx hnd (bytesN t) (by rw [bytesN_length]; exact ht5))
  have HWB := hide (wf_by b hwf)
  clear hts hb4 HSO HX3 HR3 hwf hcnt htx hnd hm4 hb
  unfold PT at HBY
  go_wp2_with (first | rw [hb3i] | fail)
  try rw [hb3i]
  refine HBY.out.mono ?_
  rintro e w5 ⟨db, rfl, h5b, hb5⟩
  have HD5 := hide h5b
  have HB5 := hide (HB4.out.trans (hb5.mono hsB4))
  have HR5 := hide (HR4.out.keep hb5)
  have HX5 := hide (HX4.out.below hb5 HX4.out.lt)
  have HT5 := hide (HT4.out.agree (Agree.of_all (K := fun _ => True) hb5) trivial)
  clear h5b hb5 HBY HX4 HR4 hbits hb3i
  obtain ⟨tb, htb⟩ : ∃ tb : ByteArray, tb = strB [b] := ⟨_, rfl⟩
  have HTB := hide (show bytesN tb = [b] from by
    rw [htb]
    simp [bytesN, strB, strOfNums]; omega)
  have htbs : tb.size = 1 := by rw [← bytesN_length, HTB.out]; rfl
  have HTBD := hide htb
  have hby : By (bytesN t) := by_bytes t
  obtain ⟨q1, hq1⟩ : ∃ q1, q1 = hB s.lang (tb ++ t) := ⟨_, rfl⟩
  obtain ⟨q2, hq2⟩ : ∃ q2, q2 = hB s.lang t := ⟨_, rfl⟩
  have h1a : hB (rBy b s.re).lang t = q1 := by
    rw [hq1]
    have e : bytesN (tb ++ t) = b :: bytesN t := by
      have : bytesN (tb ++ t) = bytesN tb ++ bytesN t := by simp [bytesN]
      rw [this, HTB.out]; rfl
    have e2 : (rBy b s.re).lang (bytesN t) ↔ s.lang (bytesN (tb ++ t)) := by
      rw [e, lang_by b hb256 s.re HWF.out _ hby]
      exact shape_lang s _ (by_head hb256 hby)
    rw [Bool.eq_iff_iff, hB_iff, hB_iff]
    exact e2
  have h2a : matchB (bytesN t) s.re = q2 := by
    rw [hq2, Bool.eq_iff_iff, match_lang _ _ HWF.out hby, hB_iff]
    exact shape_lang s _ hby
  obtain ⟨S0, hS0⟩ : ∃ S0 : Nat → World → Prop, S0 = fun g W => Below w5.heap.size w5 W ∧ Blk W g #[.int .u8 b] 5 := ⟨_, rfl⟩
  obtain ⟨S1, hS1⟩ : ∃ S1 : World → Prop, S1 = fun W => Below w5.heap.size w5 W := ⟨_, rfl⟩
  have h1b : ∀ W, S1 W → Below w5.heap.size w5 W := fun W h => by rw [hS1] at h; exact h
  have hb1 : ∀ W, Below w5.heap.size w5 W → S1 W := fun W h => by rw [hS1]; exact h
  have h01 : ∀ g W, S0 g W → S1 W := fun g W h => by rw [hS0] at h; exact hb1 W h.1
  have h0c : ∀ g W, S0 g W → Blk W g #[.int .u8 b] 5 := fun g W h => by rw [hS0] at h; exact h.2
  have h0i : ∀ g W, Below w5.heap.size w5 W → Blk W g #[.int .u8 b] 5 → S0 g W := fun g W h1 h2 => by rw [hS0]; exact ⟨h1, h2⟩
  have h0k : ∀ g W W', S0 g W → Below W.heap.size W W' → S0 g W' := fun g W W' h hb => h0i g W' ((h1b W (h01 g W h)).trans (hb.mono (h1b W (h01 g W h)).size)) ((h0c g W h).below hb (h0c g W h).lt)
  have HQS : Hid (∀ W, S1 W → ∀ j u, cs[j]? = some u → W.cell? ⟨B, 0 + j, none⟩ = some u) := fun W hW j u hu => by
    have hx := HX5.out.below (h1b W hW) HX5.out.lt
    rw [Nat.zero_add, hx.cell j]
    rw [HCS.out] at hu
    simpa using hu
  have HSW : Hid (∀ W, S1 W → ShC W cs s) := fun W hW => HC.out.keep (HB.out ▸ (HB5.out.trans ((h1b W hW).mono (by have := HX5.out.lt; omega))))
  have HQ1 : Hid (∀ W, S1 W → Calls Tryd.prog 11 #[PT db, .string t] W fun e w' => e = .returned (.bool q1) ∧ Below W.heap.size W w') := fun W hW => by
    rw [← h1a]
    exact reHas_any (rBy b s.re) HWB.out t (by omega) db W (HD5.out.keep (h1b W hW))
  have HQ2 : Hid (∀ W, S1 W → Calls Tryd.prog 12 #[ShVal cs, .string (tb ++ t)] W fun e w' => e = .returned (.bool q1) ∧ Below W.heap.size W w') := fun W hW => by
    rw [hq1]; exact shIn_any s (tb ++ t) (by rw [ByteArray.size_append]; omega) cs W (HSW.out W hW)
  have HQ3 : Hid (∀ W, S1 W → Calls Tryd.prog 13 #[PT rb, .string t] W fun e w' => e = .returned (.bool q2) ∧ Below W.heap.size W w') := fun W hW => by
    rw [← h2a]
    exact match_any rb s.re t W (by omega) HWF.out HMF.out (HR5.out.keep (h1b W hW)) (HT5.out.agree (Agree.of_all (K := fun _ => True) (h1b W hW)) trivial)
  have HQ4 : Hid (∀ W, S1 W → Calls Tryd.prog 12 #[ShVal cs, .string t] W fun e w' => e = .returned (.bool q2) ∧ Below W.heap.size W w') := fun W hW => by
    rw [hq2]; exact shIn_any s t (by omega) cs W (HSW.out W hW)
  have HQ5 : Hid (∀ W, S1 W → Calls Tryd.prog 13 #[.pointer none, .string t] W fun e w' => e = .returned (.bool false) ∧ Below W.heap.size W w') := fun W hW =>
    match_nil t W (by omega) (HT5.out.agree (Agree.of_all (K := fun _ => True) (h1b W hW)) trivial)
  have HFIN : Hid (∀ W, S1 W → Below w.heap.size w W) := fun W hW => HB.out ▸ (HB5.out.trans ((h1b W hW).mono (by have := HX5.out.lt; omega)))
  clear hq1 hq2 h1a h2a hby htb HV hS0 hS1
  go_wp2
  rw [show Value.pointer (some ⟨db, 0, none⟩) = PT db from rfl, show Value.pointer (some ⟨rb, 0, none⟩) = PT rb from rfl]
  have hS : S1 { w5 with drawn := w5.drawn + 1 } := hb1 _ ⟨rfl, rfl, rfl, Nat.le_refl _, fun _ _ => rfl⟩
  have hqS := HQS.out
  refine wp_region_noPanic (wp_region_held (S := S1) (by kernel_rfl) ?_)
  show wpAnyH _ _ _ _ _ 26 #[false, false, false, false, false, false, false, false, false, false, false, false, false, false, false, false, false, false, false, false, false, false, false, false, false, false] _ _
  generalize ({ w5 with drawn := w5.drawn + 1 } : World) = W at hS ⊢
  refine h_take 0 (PT db) rfl (by kernel_rfl) (by kernel_rfl) (by kernel_rfl) rfl (fun w hw => x_move _ _ _ _ _ _ _ _ rfl w) hS ?_
  simp only [Act.put, List.setIfInBounds_toArray, List.set_cons_succ, List.set_cons_zero]
  refine h_take 1 (.string t) rfl (by kernel_rfl) (by kernel_rfl) (by kernel_rfl) rfl (fun w hw => x_move _ _ _ _ _ _ _ _ rfl w) hS ?_
  simp only [Act.put, List.setIfInBounds_toArray, List.set_cons_succ, List.set_cons_zero]
  refine h_take 3 (ShVal cs) rfl (by kernel_rfl) (by kernel_rfl) (by kernel_rfl) rfl (fun w hw => x_loadSh _ _ _ _ _ _ _ B 0 cs rfl w HLEN.out (hqS w (hw))) hS ?_
  simp only [Act.put, List.setIfInBounds_toArray, List.set_cons_succ, List.set_cons_zero]
  refine h_take 4 (.int .u8 b) rfl (by kernel_rfl) (by kernel_rfl) (by kernel_rfl) rfl (fun w hw => x_move _ _ _ _ _ _ _ _ rfl w) hS ?_
  simp only [Act.put, List.setIfInBounds_toArray, List.set_cons_succ, List.set_cons_zero]
  refine h_take 7 (.string t) rfl (by kernel_rfl) (by kernel_rfl) (by kernel_rfl) rfl (fun w hw => x_move _ _ _ _ _ _ _ _ rfl w) hS ?_
  simp only [Act.put, List.setIfInBounds_toArray, List.set_cons_succ, List.set_cons_zero]
  refine h_two 2 5 11 #[PT db, .string t] (.bool q1) (.slice (some ⟨W.heap.size, 0, none⟩) 1 1) (W.alloc (.cells #[.int .u8 (b : Int)] 5)) rfl rfl (by kernel_rfl) rfl rfl (x_call2 _ _ _ _ _ _ _ _ _ _ _ _ _ rfl rfl rfl (enters_of Tryd.func11 (by kernel_rfl) rfl) _)
    ((HQ1.out W hS).mono fun e w' h => ⟨h.1, hb1 w' ((h1b W hS).trans (h.2.mono (h1b W hS).size))⟩) ?_ (x_buildT _ _ _ _ _ _ _ (b : Int) W rfl) (hb1 _ ((h1b W hS).alloc (h1b W hS).size _)) ?_
  · intro W6 hW6
    simp only [Act.put, List.setIfInBounds_toArray, List.set_cons_succ, List.set_cons_zero]
    obtain ⟨g, hg⟩ : ∃ g, g = W6.heap.size := ⟨_, rfl⟩
    have hA := hb1 _ ((h1b W6 hW6).alloc (h1b W6 hW6).size (.cells #[.int .u8 (b : Int)] 5))
    refine h_alloc 5 (.slice (some ⟨g, 0, none⟩) 1 1) (W6.alloc (.cells #[.int .u8 (b : Int)] 5)) rfl (by kernel_rfl) rfl (by rw [hg]; exact x_buildT _ _ _ _ _ _ _ (b : Int) W6 rfl) hA ?_
    simp only [Act.put, List.setIfInBounds_toArray, List.set_cons_succ, List.set_cons_zero]
    have hG : S0 g (W6.alloc (.cells #[.int .u8 (b : Int)] 5)) := h0i g _ (h1b _ hA) (Blk.newAt hg _ _)
    refine wpAnyH_weaken2 (h01 g) _ _ _ _ ?_
    generalize (W6.alloc (.cells #[.int .u8 (b : Int)] 5)) = W7 at hG ⊢
    clear hA hg hW6 hS
    refine h_take 6 (.string tb) rfl (by kernel_rfl) (by kernel_rfl) (by kernel_rfl) rfl (fun w hw => by rw [HTBD.out]; exact x_strT _ _ _ _ _ _ _ (b : Int) g b rfl rfl w (h0c g w hw)) hG ?_
    simp only [Act.put, List.setIfInBounds_toArray, List.set_cons_succ, List.set_cons_zero]
    refine h_take 8 (.string (tb ++ t)) rfl (by kernel_rfl) (by kernel_rfl) (by kernel_rfl) rfl (fun w hw => x_addT _ _ _ _ _ _ _ _ tb t rfl rfl (by omega) w) hG ?_
    simp only [Act.put, List.setIfInBounds_toArray, List.set_cons_succ, List.set_cons_zero]
    refine h_call 9 12 #[ShVal cs, .string (tb ++ t)] (.bool q1) rfl (by kernel_rfl) rfl (x_call2 _ _ _ _ _ _ _ _ _ _ _ _ _ rfl rfl rfl (enters_of Tryd.func12 (by kernel_rfl) rfl) _) ((HQ2.out W7 (h01 g W7 hG)).mono fun e w' h => ⟨h.1, h0k g W7 w' hG h.2⟩) ?_
    intro V1 hV1
    simp only [Act.put, List.setIfInBounds_toArray, List.set_cons_succ, List.set_cons_zero]
    refine h_take 10 (.bool true) rfl (by kernel_rfl) (by kernel_rfl) (by kernel_rfl) rfl (fun w hw => x_eqBoolB _ _ _ _ _ _ _ _ q1 q1 (by simp) rfl rfl w) hV1 ?_
    simp only [Act.put, List.setIfInBounds_toArray, List.set_cons_succ, List.set_cons_zero]
    refine h_take 11 (.bool true) rfl (by kernel_rfl) (by kernel_rfl) (by kernel_rfl) rfl (fun w hw => x_move _ _ _ _ _ _ _ _ rfl w) hV1 ?_
    simp only [Act.put, List.setIfInBounds_toArray, List.set_cons_succ, List.set_cons_zero]
    refine h_take 12 (PT rb) rfl (by kernel_rfl) (by kernel_rfl) (by kernel_rfl) rfl (fun w hw => x_move _ _ _ _ _ _ _ _ rfl w) hV1 ?_
    simp only [Act.put, List.setIfInBounds_toArray, List.set_cons_succ, List.set_cons_zero]
    refine h_take 13 (.string t) rfl (by kernel_rfl) (by kernel_rfl) (by kernel_rfl) rfl (fun w hw => x_move _ _ _ _ _ _ _ _ rfl w) hV1 ?_
    simp only [Act.put, List.setIfInBounds_toArray, List.set_cons_succ, List.set_cons_zero]
    refine h_take 15 (ShVal cs) rfl (by kernel_rfl) (by kernel_rfl) (by kernel_rfl) rfl (fun w hw => x_loadSh _ _ _ _ _ _ _ B 0 cs rfl w HLEN.out (hqS w (h01 g w hw))) hV1 ?_
    simp only [Act.put, List.setIfInBounds_toArray, List.set_cons_succ, List.set_cons_zero]
    refine h_take 16 (.string t) rfl (by kernel_rfl) (by kernel_rfl) (by kernel_rfl) rfl (fun w hw => x_move _ _ _ _ _ _ _ _ rfl w) hV1 ?_
    simp only [Act.put, List.setIfInBounds_toArray, List.set_cons_succ, List.set_cons_zero]
    refine h_call 14 13 #[PT rb, .string t] (.bool q2) rfl (by kernel_rfl) rfl (x_call2 _ _ _ _ _ _ _ _ _ _ _ _ _ rfl rfl rfl (enters_of Tryd.func13 (by kernel_rfl) rfl) _) ((HQ3.out V1 (h01 g V1 hV1)).mono fun e w' h => ⟨h.1, h0k g V1 w' hV1 h.2⟩) ?_
    intro V2 hV2
    simp only [Act.put, List.setIfInBounds_toArray, List.set_cons_succ, List.set_cons_zero]
    refine h_call 17 12 #[ShVal cs, .string t] (.bool q2) rfl (by kernel_rfl) rfl (x_call2 _ _ _ _ _ _ _ _ _ _ _ _ _ rfl rfl rfl (enters_of Tryd.func12 (by kernel_rfl) rfl) _) ((HQ4.out V2 (h01 g V2 hV2)).mono fun e w' h => ⟨h.1, h0k g V2 w' hV2 h.2⟩) ?_
    intro V3 hV3
    simp only [Act.put, List.setIfInBounds_toArray, List.set_cons_succ, List.set_cons_zero]
    refine h_take 18 (.bool true) rfl (by kernel_rfl) (by kernel_rfl) (by kernel_rfl) rfl (fun w hw => x_eqBoolB _ _ _ _ _ _ _ _ q2 q2 (by simp) rfl rfl w) hV3 ?_
    simp only [Act.put, List.setIfInBounds_toArray, List.set_cons_succ, List.set_cons_zero]
    refine h_take 19 (.bool true) rfl (by kernel_rfl) (by kernel_rfl) (by kernel_rfl) rfl (fun w hw => x_pick _ _ _ _ _ _ _ _ _ true (.bool true) (.bool false) rfl rfl rfl w) hV3 ?_
    simp only [Act.put, List.setIfInBounds_toArray, List.set_cons_succ, List.set_cons_zero]
    refine h_take 20 (.bool true) rfl (by kernel_rfl) (by kernel_rfl) (by kernel_rfl) rfl (fun w hw => x_move _ _ _ _ _ _ _ _ rfl w) hV3 ?_
    simp only [Act.put, List.setIfInBounds_toArray, List.set_cons_succ, List.set_cons_zero]
    refine h_take 21 (.string t) rfl (by kernel_rfl) (by kernel_rfl) (by kernel_rfl) rfl (fun w hw => x_move _ _ _ _ _ _ _ _ rfl w) hV3 ?_
    simp only [Act.put, List.setIfInBounds_toArray, List.set_cons_succ, List.set_cons_zero]
    refine h_call 22 13 #[.pointer none, .string t] (.bool false) rfl (by kernel_rfl) rfl (x_call2 _ _ _ _ _ _ _ _ _ _ _ _ _ rfl rfl rfl (enters_of Tryd.func13 (by kernel_rfl) rfl) _) ((HQ5.out V3 (h01 g V3 hV3)).mono fun e w' h => ⟨h.1, h0k g V3 w' hV3 h.2⟩) ?_
    intro V4 hV4
    simp only [Act.put, List.setIfInBounds_toArray, List.set_cons_succ, List.set_cons_zero]
    refine h_take 23 (.bool true) rfl (by kernel_rfl) (by kernel_rfl) (by kernel_rfl) rfl (fun w hw => x_eqBoolB _ _ _ _ _ _ _ _ false false (by simp) rfl rfl w) hV4 ?_
    simp only [Act.put, List.setIfInBounds_toArray, List.set_cons_succ, List.set_cons_zero]
    refine h_take 24 (.bool true) rfl (by kernel_rfl) (by kernel_rfl) (by kernel_rfl) rfl (fun w hw => x_pick _ _ _ _ _ _ _ _ _ true (.bool true) (.bool false) rfl rfl rfl w) hV4 ?_
    simp only [Act.put, List.setIfInBounds_toArray, List.set_cons_succ, List.set_cons_zero]
    refine h_take 25 (.bool true) rfl (by kernel_rfl) (by kernel_rfl) (by kernel_rfl) rfl (fun w hw => x_assign _ _ _ _ _ _ _ _ rfl w) hV4 ?_
    simp only [Act.put, List.setIfInBounds_toArray, List.set_cons_succ, List.set_cons_zero]
    refine wpAnyH_done (by kernel_rfl) ?_ _
    refine NoPanic.normal ?_
    have HF := hide (HFIN.out V4 (h01 g V4 hV4))
    clear hV4
    go_wp2
    go_ret
    exact ⟨rfl, HF.out⟩
  · simp only [Act.put, List.setIfInBounds_toArray, List.set_cons_succ, List.set_cons_zero]
    obtain ⟨g, hg⟩ : ∃ g, g = W.heap.size := ⟨_, rfl⟩
    have hA := hb1 _ ((h1b W hS).alloc (h1b W hS).size (.cells #[.int .u8 (b : Int)] 5))
    have hG : S0 g (W.alloc (.cells #[.int .u8 (b : Int)] 5)) := h0i g _ (h1b _ hA) (Blk.newAt hg _ _)
    rw [← hg]
    refine wpAnyH_weaken2 (h01 g) _ _ _ _ ?_
    generalize (W.alloc (.cells #[.int .u8 (b : Int)] 5)) = W7 at hG ⊢
    clear hA hg hS
    refine h_take 6 (.string tb) rfl (by kernel_rfl) (by kernel_rfl) (by kernel_rfl) rfl (fun w hw => by rw [HTBD.out]; exact x_strT _ _ _ _ _ _ _ (b : Int) g b rfl rfl w (h0c g w hw)) hG ?_
    simp only [Act.put, List.setIfInBounds_toArray, List.set_cons_succ, List.set_cons_zero]
    refine h_take 8 (.string (tb ++ t)) rfl (by kernel_rfl) (by kernel_rfl) (by kernel_rfl) rfl (fun w hw => x_addT _ _ _ _ _ _ _ _ tb t rfl rfl (by omega) w) hG ?_
    simp only [Act.put, List.setIfInBounds_toArray, List.set_cons_succ, List.set_cons_zero]
    refine h_call 2 11 #[PT db, .string t] (.bool q1) rfl (by kernel_rfl) rfl (x_call2 _ _ _ _ _ _ _ _ _ _ _ _ _ rfl rfl rfl (enters_of Tryd.func11 (by kernel_rfl) rfl) _) ((HQ1.out W7 (h01 g W7 hG)).mono fun e w' h => ⟨h.1, h0k g W7 w' hG h.2⟩) ?_
    intro V0 hV0
    simp only [Act.put, List.setIfInBounds_toArray, List.set_cons_succ, List.set_cons_zero]
    refine h_call 9 12 #[ShVal cs, .string (tb ++ t)] (.bool q1) rfl (by kernel_rfl) rfl (x_call2 _ _ _ _ _ _ _ _ _ _ _ _ _ rfl rfl rfl (enters_of Tryd.func12 (by kernel_rfl) rfl) _) ((HQ2.out V0 (h01 g V0 hV0)).mono fun e w' h => ⟨h.1, h0k g V0 w' hV0 h.2⟩) ?_
    intro V1 hV1
    simp only [Act.put, List.setIfInBounds_toArray, List.set_cons_succ, List.set_cons_zero]
    refine h_take 10 (.bool true) rfl (by kernel_rfl) (by kernel_rfl) (by kernel_rfl) rfl (fun w hw => x_eqBoolB _ _ _ _ _ _ _ _ q1 q1 (by simp) rfl rfl w) hV1 ?_
    simp only [Act.put, List.setIfInBounds_toArray, List.set_cons_succ, List.set_cons_zero]
    refine h_take 11 (.bool true) rfl (by kernel_rfl) (by kernel_rfl) (by kernel_rfl) rfl (fun w hw => x_move _ _ _ _ _ _ _ _ rfl w) hV1 ?_
    simp only [Act.put, List.setIfInBounds_toArray, List.set_cons_succ, List.set_cons_zero]
    refine h_take 12 (PT rb) rfl (by kernel_rfl) (by kernel_rfl) (by kernel_rfl) rfl (fun w hw => x_move _ _ _ _ _ _ _ _ rfl w) hV1 ?_
    simp only [Act.put, List.setIfInBounds_toArray, List.set_cons_succ, List.set_cons_zero]
    refine h_take 13 (.string t) rfl (by kernel_rfl) (by kernel_rfl) (by kernel_rfl) rfl (fun w hw => x_move _ _ _ _ _ _ _ _ rfl w) hV1 ?_
    simp only [Act.put, List.setIfInBounds_toArray, List.set_cons_succ, List.set_cons_zero]
    refine h_take 15 (ShVal cs) rfl (by kernel_rfl) (by kernel_rfl) (by kernel_rfl) rfl (fun w hw => x_loadSh _ _ _ _ _ _ _ B 0 cs rfl w HLEN.out (hqS w (h01 g w hw))) hV1 ?_
    simp only [Act.put, List.setIfInBounds_toArray, List.set_cons_succ, List.set_cons_zero]
    refine h_take 16 (.string t) rfl (by kernel_rfl) (by kernel_rfl) (by kernel_rfl) rfl (fun w hw => x_move _ _ _ _ _ _ _ _ rfl w) hV1 ?_
    simp only [Act.put, List.setIfInBounds_toArray, List.set_cons_succ, List.set_cons_zero]
    refine h_call 14 13 #[PT rb, .string t] (.bool q2) rfl (by kernel_rfl) rfl (x_call2 _ _ _ _ _ _ _ _ _ _ _ _ _ rfl rfl rfl (enters_of Tryd.func13 (by kernel_rfl) rfl) _) ((HQ3.out V1 (h01 g V1 hV1)).mono fun e w' h => ⟨h.1, h0k g V1 w' hV1 h.2⟩) ?_
    intro V2 hV2
    simp only [Act.put, List.setIfInBounds_toArray, List.set_cons_succ, List.set_cons_zero]
    refine h_call 17 12 #[ShVal cs, .string t] (.bool q2) rfl (by kernel_rfl) rfl (x_call2 _ _ _ _ _ _ _ _ _ _ _ _ _ rfl rfl rfl (enters_of Tryd.func12 (by kernel_rfl) rfl) _) ((HQ4.out V2 (h01 g V2 hV2)).mono fun e w' h => ⟨h.1, h0k g V2 w' hV2 h.2⟩) ?_
    intro V3 hV3
    simp only [Act.put, List.setIfInBounds_toArray, List.set_cons_succ, List.set_cons_zero]
    refine h_take 18 (.bool true) rfl (by kernel_rfl) (by kernel_rfl) (by kernel_rfl) rfl (fun w hw => x_eqBoolB _ _ _ _ _ _ _ _ q2 q2 (by simp) rfl rfl w) hV3 ?_
    simp only [Act.put, List.setIfInBounds_toArray, List.set_cons_succ, List.set_cons_zero]
    refine h_take 19 (.bool true) rfl (by kernel_rfl) (by kernel_rfl) (by kernel_rfl) rfl (fun w hw => x_pick _ _ _ _ _ _ _ _ _ true (.bool true) (.bool false) rfl rfl rfl w) hV3 ?_
    simp only [Act.put, List.setIfInBounds_toArray, List.set_cons_succ, List.set_cons_zero]
    refine h_take 20 (.bool true) rfl (by kernel_rfl) (by kernel_rfl) (by kernel_rfl) rfl (fun w hw => x_move _ _ _ _ _ _ _ _ rfl w) hV3 ?_
    simp only [Act.put, List.setIfInBounds_toArray, List.set_cons_succ, List.set_cons_zero]
    refine h_take 21 (.string t) rfl (by kernel_rfl) (by kernel_rfl) (by kernel_rfl) rfl (fun w hw => x_move _ _ _ _ _ _ _ _ rfl w) hV3 ?_
    simp only [Act.put, List.setIfInBounds_toArray, List.set_cons_succ, List.set_cons_zero]
    refine h_call 22 13 #[.pointer none, .string t] (.bool false) rfl (by kernel_rfl) rfl (x_call2 _ _ _ _ _ _ _ _ _ _ _ _ _ rfl rfl rfl (enters_of Tryd.func13 (by kernel_rfl) rfl) _) ((HQ5.out V3 (h01 g V3 hV3)).mono fun e w' h => ⟨h.1, h0k g V3 w' hV3 h.2⟩) ?_
    intro V4 hV4
    simp only [Act.put, List.setIfInBounds_toArray, List.set_cons_succ, List.set_cons_zero]
    refine h_take 23 (.bool true) rfl (by kernel_rfl) (by kernel_rfl) (by kernel_rfl) rfl (fun w hw => x_eqBoolB _ _ _ _ _ _ _ _ false false (by simp) rfl rfl w) hV4 ?_
    simp only [Act.put, List.setIfInBounds_toArray, List.set_cons_succ, List.set_cons_zero]
    refine h_take 24 (.bool true) rfl (by kernel_rfl) (by kernel_rfl) (by kernel_rfl) rfl (fun w hw => x_pick _ _ _ _ _ _ _ _ _ true (.bool true) (.bool false) rfl rfl rfl w) hV4 ?_
    simp only [Act.put, List.setIfInBounds_toArray, List.set_cons_succ, List.set_cons_zero]
    refine h_take 25 (.bool true) rfl (by kernel_rfl) (by kernel_rfl) (by kernel_rfl) rfl (fun w hw => x_assign _ _ _ _ _ _ _ _ rfl w) hV4 ?_
    simp only [Act.put, List.setIfInBounds_toArray, List.set_cons_succ, List.set_cons_zero]
    refine wpAnyH_done (by kernel_rfl) ?_ _
    refine NoPanic.normal ?_
    have HF := hide (HFIN.out V4 (h01 g V4 hV4))
    clear hV4
    go_wp2
    go_ret
    exact ⟨rfl, HF.out⟩
theorem derivTexts_all (v v2 : Value) (s : SHP) (n : Nat) (hn : n < 256) (w : World) (hv : ∃ cs, v = ShVal cs ∧ ShC w cs s) (ln : Nat) (hi : IntRow w v2 ln) (hT : TabAt w) :
    Calls Tryd.prog 3 #[v, .int .u8 n, v2] w fun e w' => e = .returned (.bool true) ∧ Below w.heap.size w w' := by
  obtain ⟨cs, rfl, hs⟩ := hv
  exact derivTexts_any cs s n hn v2 ln w hs hi hT
end Go.Proofs.YthemadegffhmfaaDoor
/- DerivTexts answers true for every shape, byte and row of numbers: what stands behind a byte has just those texts, and Match tells just the texts. Conditions: the table of math/bits holds what its initialiser lays (the card ties that to the program's text). -/
namespace Go.Proofs.YthemadegffhmfaaDoor
set_option maxRecDepth 100000
open Go.ChangeShapes Go.WideShapes Go.ChangeAt Go.WideMaps Go.WideElems Go.RowKit

set_option maxRecDepth 100000 in
theorem derivTexts_lifted (os : Os) (started : os.Started) (H : Type) (enc : TypeId × Value → H) :
    ReturnsInHanded {} Tryd.checked os 3 .any (fun w args => (Rows.derivTextsSpec.pre enc Tryd.prog Tryd.f3 [] false w args ∧ laidMetH Tryd.prog [("math/bits.deBruijn64tab", Rows.laid_math_bits_deBruijn64tab)] w) ∧ sizedMet enc Tryd.prog Tryd.f3 (OpenSpec.ofChange Rows.derivTextsSpec) false w args)
      (Rows.derivTextsSpec.post enc Tryd.prog Tryd.f3 false true false false) := by
  refine returnsInHanded_of_change_and (C := Tryd.checked) (X := fun w _ => laidMetH Tryd.prog [("math/bits.deBruijn64tab", Rows.laid_math_bits_deBruijn64tab)] w) (fun _ _ _ hh h => h.of_heap hh) own started (by kernel_rfl) Tryd.func3
    (ChangeSpec.witness_shaped (enc := enc) (C := Tryd.checked) (os := os) (X := fun w _ => laidMetH Tryd.prog [("math/bits.deBruijn64tab", Rows.laid_math_bits_deBruijn64tab)] w) false (World.doorLaid Tryd.prog 400 os)
      #[.agg #[.int .i64 0, .int .u8 0, .int .u8 0, .string ⟨#[]⟩, .slice none 0 0], .int .u8 0, .slice none 0 0] 8 rfl (World.shaped_of_RefB (by kernel_rfl) (by kernel_rfl)) (by kernel_rfl) (by kernel_rfl) (by kernel_rfl) (door_met os _)) ?_
  intro W base args ds gs before hval0 hW _ _ hL _
  have hval : ∀ (j : Nat) t v, Tryd.f3.params[j]? = some t → args[j]? = some v → Value.okWide Tryd.prog W .any base t v := hval0
  have hW' := hW
  obtain ⟨p, q, hA0, hV, rfl, hfz, hnd⟩ := hW
  have hA : DataW.TrodAll enc Tryd.prog W 0 (fun _ => true) true Tryd.f3.params.toList args.toList ds p := hA0
  rw [Tryd.params3] at hA hval
  obtain ⟨v0, v1, v2, d0, d1, d2, p0, p1, p2, rfl, rfl, rfl, h0, h1, h2⟩ := trodAll_three hA
  obtain ⟨rfl, rfl⟩ := trodVars_none hV
  have k0 := h0
  have lt0 : ∀ x ∈ p0, x.block < W.heap.size := by obtain ⟨m, hm⟩ := k0; exact DataW.trod_lt m _ _ _ hm
  obtain ⟨z0, hz0⟩ := open_shape (hval 0 24 v0 rfl rfl) h0
  have k1 := h1
  obtain ⟨i1, rfl, rfl, rfl, w1⟩ := open_int Tryd.underlying5 (hval 1 5 v1 rfl rfl) h1
  have b1 := bounds_u8 w1
  obtain ⟨n1, rfl⟩ := Int.eq_ofNat_of_zero_le b1.1
  have g1 : n1 < 256 := by omega
  have k2 := h2
  have lt2 : ∀ x ∈ p2, x.block < W.heap.size := by obtain ⟨m, hm⟩ := k2; exact DataW.trod_lt m _ _ _ hm
  obtain ⟨z2, hz2⟩ := open_introw (hval 2 25 v2 rfl rfl) h2
  have hT := tab_of_laid hL
  clear hA0 hval0
  refine (derivTexts_all v0 v2 z0 n1 g1 W hz0 z2 hz2 hT).mono fun e W' ⟨he, hb⟩ => ?_
  subst he
  exact ⟨_, rfl, _, _, _, [], _, [], hW', trodAll_mk1 (shut_bool Tryd.underlying4 _), trodAll_mk3 (Below.trod laidOut (by kernel_rfl) (of_decide_eq_true (by kernel_rfl)) k0 hb lt0) (shut_int Tryd.underlying5 w1) (Below.trod laidOut (by kernel_rfl) (of_decide_eq_true (by kernel_rfl)) k2 hb lt2), rfl, hb.frame _, fun h => by cases h⟩

theorem derivTexts_said : Rows.DerivTextsSaid :=
  OpenClaim.holds_of_wide 3 Tryd.f3 rfl rfl rfl rfl rfl rfl rfl ⟨rfl, rfl, rfl, rfl, rfl⟩ rfl rfl rfl rfl rfl (by kernel_rfl) Tryd.func3 (by kernel_rfl)
    (of_decide_eq_true (by kernel_rfl)) (by unfold Func.isWrapper; first | (rw [if_pos (by decide +kernel)]; kernel_rfl) | (rw [if_neg (by decide +kernel)]; exact ⟨rfl, rfl⟩))
    (fun os started H enc _ => derivTexts_lifted os started H enc)

theorem derivTexts_card : Rows.DerivTextsCardSaid :=
  Claim7.holds_tied_plain_at .later [] [.data] true Rows.derivTextsCard.stood.harness false
    derivTexts_said (fun _ h => by cases h) (by kernel_rfl) (fun _ h => by cases h) derivTexts_row_tie rfl ⟨rfl, rfl⟩ (by kernel_rfl) rfl
    (fun f fn hf hfn => by
      obtain rfl : f = 3 := Option.some.inj ((show Tryd.prog.funcNamed "periscope/periscopelaw05.DerivTexts" = some 3 by kernel_rfl).symm.trans hf) |>.symm
      obtain rfl : fn = Tryd.f3 := (Option.some.inj (Tryd.func3.symm.trans hfn)).symm
      exact ⟨by kernel_rfl, fun j t ht => by
        rw [Tryd.params3] at ht
        have hm : t ∈ [24, 5, 25] := by simpa using Array.mem_of_getElem? ht
        have hall : ([24, 5, 25].all fun u => !Tryd.prog.wantsStandIn u) = true := by kernel_rfl
        exact (show Tryd.prog.wantsStandIn t = false by simpa using List.all_eq_true.1 hall t hm)⟩)
    (by kernel_rfl)
#print axioms derivTexts_card
end Go.Proofs.YthemadegffhmfaaDoor
