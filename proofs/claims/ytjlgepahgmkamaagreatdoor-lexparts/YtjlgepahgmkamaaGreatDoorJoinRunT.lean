/- Texts of this claim put together: RunT. -/
import Derived.Test.YtjlgepahgmkamaaGreatDoorJoinRunG
/- How long the text of an expression is, by the bytes in its sets. -/
namespace Go.Proofs.YtjlgepahgmkamaaGreatDoor
set_option maxRecDepth 100000
set_option linter.unusedSimpArgs false
set_option linter.unusedVariables false
open Go.RowKit Go.Shelf St

/-- How many of the first k bytes are in a set. -/
def cnB (s : BitVec 256) (k : Nat) : Nat := ((List.range k).filter fun b => s.getLsbD b).length
theorem cnB_succ (s : BitVec 256) (k : Nat) : cnB s (k + 1) = cnB s k + if s.getLsbD k then 1 else 0 := by
  unfold cnB; rw [List.range_succ, List.filter_append, List.length_append]
  cases h : s.getLsbD k <;> simp [h]
theorem cnB_le (s : BitVec 256) (k : Nat) : cnB s k ≤ k := by
  unfold cnB; have := List.length_filter_le (fun b => s.getLsbD b) (List.range k); simpa using this
theorem cnB_two (a b : BitVec 256) (k : Nat) (hk : k ≤ 256) : cnB (a ||| b) k + cnB (a &&& b) k = cnB a k + cnB b k ∧ cnB (a &&& b) k ≤ cnB a k ∧ cnB (a &&& b) k ≤ cnB b k := by
  induction k with
  | zero => simp [cnB]
  | succ k ih =>
    obtain ⟨h1, h2, h3⟩ := ih (by omega)
    simp only [cnB_succ, BitVec.getLsbD_or, BitVec.getLsbD_and]
    cases a.getLsbD k <;> cases b.getLsbD k <;> simp <;> omega
theorem cnB_not (a : BitVec 256) (k : Nat) (hk : k ≤ 256) : cnB (~~~a) k + cnB a k = k := by
  induction k with
  | zero => simp [cnB]
  | succ k ih =>
    have h1 := ih (by omega)
    simp only [cnB_succ, BitVec.getLsbD_not]
    have : decide (k < 256) = true := by simp; omega
    rw [this]
    cases a.getLsbD k <;> simp <;> omega
theorem card_cnB (s : BitVec 256) : card s = cnB s 256 := by
  have hd : ∀ n x, ds 2 n x = ((List.range n).filter fun j => x.testBit j).length := by
    intro n
    induction n with
    | zero => intro x; rfl
    | succ n ih =>
      intro x
      rw [ds, ih, List.range_succ_eq_map, List.filter_cons, List.filter_map]
      have e0 : x.testBit 0 = decide (x % 2 = 1) := Nat.testBit_zero x
      have e1 : ((fun j => x.testBit j) ∘ Nat.succ) = fun j => (x / 2).testBit j := by funext j; simp [Function.comp, Nat.testBit_succ]
      rw [e0, e1]
      rcases Nat.mod_two_eq_zero_or_one x with h | h <;> simp [h] <;> omega
  have h : ∀ i, (wb s i).length = ds 2 64 (wd s i) := fun i => by rw [hd]; simp [wb, bitsL]
  have h2 : cnB s 256 = (bytesOf s).length := by rw [bytesOf_filter]; rfl
  rw [h2]
  simp only [bytesOf, upto, List.length_append, List.length_nil, h, card]
  omega
/-- How many bytes a set has, or lacks. -/
def mu (s : BitVec 256) : Nat := min (cnB s 256) (256 - cnB s 256)
theorem mu_zero : mu 0#256 = 0 := by decide +kernel
theorem mu_all : mu allB = 0 := by decide +kernel
theorem mu_not (a : BitVec 256) : mu (~~~a) = mu a := by
  have := cnB_not a 256 (Nat.le_refl _)
  unfold mu
  omega
theorem mu_or (a b : BitVec 256) : mu (a ||| b) ≤ mu a + mu b := by
  have h := cnB_two a b 256 (Nat.le_refl _)
  have := cnB_le (a ||| b) 256
  unfold mu
  omega
theorem mu_and (a b : BitVec 256) : mu (a &&& b) ≤ mu a + mu b := by
  have h := cnB_two a b 256 (Nat.le_refl _)
  have := cnB_le (a ||| b) 256
  unfold mu
  omega
def RE.mw : RE → Nat
  | .mk _ s ks => mu s + (ks.map fun k => k.mw).sum
def mwL (l : List RE) : Nat := (l.map (RE.mw)).sum
theorem RE.mw_mk (o : Nat) (s : BitVec 256) (ks : List RE) : (RE.mk o s ks).mw = mu s + mwL ks := by rw [RE.mw, mwL]
theorem RE.mw_kids (r : RE) : r.mw = mu r.set + mwL r.kids := by cases r; exact RE.mw_mk _ _ _
section
theorem mwL_cons (x : RE) (l : List RE) : mwL (x :: l) = x.mw + mwL l := by simp [mwL]
theorem mwL_append (a b : List RE) : mwL (a ++ b) = mwL a + mwL b := by simp [mwL]
theorem mwL_flatMap (f : RE → List RE) (hf : ∀ r, mwL (f r) ≤ r.mw) (l : List RE) : mwL (l.flatMap f) ≤ mwL l := by
  induction l with
  | nil => simp [mwL]
  | cons x l ih => rw [List.flatMap_cons, mwL_append, mwL_cons]; have := hf x; omega
theorem mwL_catL (l : List RE) : mwL (catL l) ≤ mwL l := mwL_flatMap _ (fun r => by
  have := r.mw_kids
  unfold catK
  split
  · simp [mwL]
  · split
    · omega
    · rw [mwL_cons]; simp [mwL]) l
theorem mwL_flatL (o : Nat) (l : List RE) : mwL (flatL o l) ≤ mwL l := mwL_flatMap _ (fun r => by
  have := r.mw_kids
  split
  · omega
  · rw [mwL_cons]; simp [mwL]) l
theorem mwL_insK (x : RE) (l : List RE) : mwL (insK x l) ≤ x.mw + mwL l := by
  induction l with
  | nil => simp [insK, mwL]
  | cons y l ih =>
    simp only [insK]
    split
    · simp only [mwL_cons]; omega
    · split
      · simp only [mwL_cons]; omega
      · simp only [mwL_cons]; omega
theorem mwL_ordL (l : List RE) : mwL (ordL l) ≤ mwL l := by
  induction l with
  | nil => simp [ordL]
  | cons x l ih =>
    have := mwL_insK x (ordL l)
    rw [mwL_cons]
    have e : ordL (x :: l) = insK x (ordL l) := rfl
    rw [e]; omega
theorem mw_join (o : Nat) (l : List RE) : (rJoin o l).mw ≤ mwL l := by
  unfold rJoin
  split
  · simp [mwL]
  · rw [RE.mw_mk, mu_zero]; omega
theorem mw_nothing : rNothing.mw = 0 := by rw [RE.mw_kids]; show mu 0#256 + mwL [] = 0; rw [mu_zero]; rfl
theorem mw_empty : rEmpty.mw = 0 := by rw [RE.mw_kids]; show mu 0#256 + mwL [] = 0; rw [mu_zero]; rfl
theorem mw_one (s : BitVec 256) : (rOne s).mw = mu s := by
  unfold rOne
  split
  · rename_i h; rw [h, mu_zero, mw_nothing]
  · rw [RE.mw_mk]; simp [mwL]
theorem mw_then (l : List RE) : (rThen l).mw ≤ mwL l := by
  unfold rThen
  split
  · rw [mw_nothing]; omega
  · split
    · rw [mw_empty]; omega
    · have h1 := mw_join 3 (catL l); have h2 := mwL_catL l; omega
/-- What is kept of some, and the classes put together. -/
theorem mw_sets (op : BitVec 256 → BitVec 256 → BitVec 256) (hop : ∀ a b, mu (op a b) ≤ mu a + mu b) (l : List RE) (s0 : BitVec 256) :
    mwL (orKeep l) + mu (l.foldl (fun s r => if r.op = 2 then op s r.set else s) s0) ≤ mu s0 + mwL l := by
  induction l generalizing s0 with
  | nil => simp [orKeep, mwL]
  | cons x l ih =>
    rw [List.foldl_cons, mwL_cons]
    have hx := x.mw_kids
    by_cases h2 : x.op = 2
    · have e : orKeep (x :: l) = orKeep l := by unfold orKeep; rw [List.filter_cons, if_neg (by simp [h2])]
      rw [e, if_pos h2]
      have := ih (op s0 x.set)
      have := hop s0 x.set
      omega
    · rw [if_neg h2]
      have := ih s0
      have e : mwL (orKeep (x :: l)) ≤ x.mw + mwL (orKeep l) := by
        unfold orKeep; rw [List.filter_cons]; split
        · rw [mwL_cons]; omega
        · omega
      omega
theorem mw_any (l : List RE) : (rAny l).mw ≤ mwL l := by
  unfold rAny
  simp only
  have h0 := mw_sets (· ||| ·) (mu_or) (flatL 4 l) 0#256
  rw [mu_zero] at h0
  have h4 := mwL_flatL 4 l
  have h0 : mwL (orKeep (flatL 4 l)) + mu (orSet (flatL 4 l)) ≤ 0 + mwL (flatL 4 l) := h0
  generalize hk : (orKeep (flatL 4 l) ++ if orSet (flatL 4 l) = 0#256 then [] else [rOne (orSet (flatL 4 l))]) = ks
  have h5 : mwL ks ≤ mwL (orKeep (flatL 4 l)) + mu (orSet (flatL 4 l)) := by
    rw [← hk, mwL_append]
    split
    · simp [mwL]
    · rw [mwL_cons, mw_one]; simp [mwL]
  split
  · rw [mw_nothing]; omega
  · have h1 := mw_join 4 (ordL ks)
    have h2 := mwL_ordL ks
    omega
theorem mw_many (r : RE) : (rMany r).mw ≤ r.mw := by
  unfold rMany
  split
  · rw [mw_empty]; omega
  · split
    · omega
    · rw [RE.mw_mk, mu_zero]; simp [mwL]
theorem mw_both (l : List RE) : (rBoth l).mw ≤ mwL l := by
  unfold rBoth
  simp only
  have h0 := mw_sets (· &&& ·) (mu_and) (flatL 6 l) allB
  rw [mu_all] at h0
  have h4 := mwL_flatL 6 l
  have h0 : mwL (orKeep (flatL 6 l)) + mu (andSet (flatL 6 l)) ≤ 0 + mwL (flatL 6 l) := h0
  split
  · rw [mw_nothing]; omega
  · split
    · rw [mw_nothing]; omega
    · generalize hk : (orKeep (flatL 6 l) ++ if met (flatL 6 l) = true then [rOne (andSet (flatL 6 l))] else []) = ks
      have h5 : mwL ks ≤ mwL (orKeep (flatL 6 l)) + mu (andSet (flatL 6 l)) := by
        rw [← hk, mwL_append]
        split
        · rw [mwL_cons, mw_one]; simp [mwL]
        · simp [mwL]
      split
      · have := mw_many (rOne allB); rw [mw_one, mu_all] at this; omega
      · have h1 := mw_join 6 (ordL ks)
        have h2 := mwL_ordL ks
        omega
theorem mw_but (a b : RE) : (rBut a b).mw ≤ a.mw + b.mw := by
  have ha := a.mw_kids
  have hb := b.mw_kids
  unfold rBut
  split
  · omega
  · split
    · rw [mw_one]
      have h1 := mu_and a.set (~~~b.set)
      rw [mu_not] at h1
      omega
    · split
      · rw [mw_nothing]; omega
      · rw [RE.mw_mk, mu_zero]; simp [mwL]
end

/-- What runs take. -/
def RnI (n : Nat) (st : List (Nat × Nat) × Option (Nat × Nat)) : Prop := match st.2 with
  | none => st.1 = [] ∧ n = 0
  | some (f, l) => f ≤ l ∧ (runsW st.1).length + (if f = l then 4 else 9) ≤ 5 * n
theorem runW_49 (f l : Nat) : (runW (f, l)).length ≤ if f < l then 9 else 4 := by
  have h1 := (byteW_len f).2
  have h2 := (byteW_len l).2
  unfold runW
  rw [List.length_append]
  split <;> simp <;> omega
theorem rnI_step {n : Nat} {st : List (Nat × Nat) × Option (Nat × Nat)} (h : RnI n st) (b : Nat) : RnI (n + 1) (runStep st b) := by
  obtain ⟨em, cur⟩ := st
  cases cur with
  | none =>
    obtain ⟨h1, h2⟩ := h
    have h1 : em = [] := h1
    subst h1 h2
    exact ⟨Nat.le_refl _, by simp [runStep, runsW]⟩
  | some r =>
    obtain ⟨f, l⟩ := r
    obtain ⟨h1, h2⟩ := h
    simp only at h2
    simp only [runStep]
    split
    · rename_i hb
      refine ⟨by omega, ?_⟩
      simp only
      rw [if_neg (by omega)]
      split at h2 <;> omega
    · refine ⟨Nat.le_refl _, ?_⟩
      simp only [if_true]
      have h3 := runW_49 f l
      rw [runsW_snoc, List.length_append]
      by_cases e : f = l
      · rw [if_pos e] at h2; rw [if_neg (by omega)] at h3; omega
      · rw [if_neg e] at h2; rw [if_pos (by omega)] at h3; omega
theorem runs5 (l : List Nat) : RnI l.length (runSt l) := by
  have key : ∀ n, n ≤ l.length → RnI n (runSt (l.take n)) := fun n => by
    induction n with
    | zero => intro _; exact ⟨rfl, rfl⟩
    | succ n ih =>
      intro hn
      rw [List.take_succ_eq_append_getElem (by omega), runSt_snoc]
      exact rnI_step (ih (by omega)) _
  have := key l.length (Nat.le_refl _)
  rwa [List.take_length] at this
theorem runsW5 (s : BitVec 256) : (runsW (runsOf s)).length ≤ 5 * cnB s 256 := by
  have h := runs5 (bytesOf s)
  have h2 : cnB s 256 = (bytesOf s).length := by rw [bytesOf_filter]; rfl
  have e : runsOf s = (runSt (bytesOf s)).1 ++ (runSt (bytesOf s)).2.toList := rfl
  rw [h2, e]
  generalize runSt (bytesOf s) = st at h ⊢
  obtain ⟨em, cur⟩ := st
  cases cur with
  | none =>
    obtain ⟨h1, h3⟩ := h
    have h1 : em = [] := h1
    subst h1
    simp [runsW]
  | some r =>
    obtain ⟨f, l⟩ := r
    obtain ⟨h1, h3⟩ := h
    simp only at h3
    have h4 := runW_49 f l
    show (runsW (em ++ [(f, l)])).length ≤ _
    rw [runsW_snoc, List.length_append]
    by_cases e : f = l
    · rw [if_pos e] at h3; rw [if_neg (by omega)] at h4; omega
    · rw [if_neg e] at h3; rw [if_pos (by omega)] at h4; omega
theorem classW5 (s : BitVec 256) : (classW s).length ≤ 3 + 5 * mu s := by
  have h1 := runsW5 s
  have h2 := runsW5 (~~~s)
  have h3 := cnB_not s 256 (Nat.le_refl _)
  have h4 := card_cnB s
  have h5 := cnB_le s 256
  unfold classW mu
  rw [h4]
  repeat' split
  all_goals simp; try omega
theorem kidsT5 (o : Nat) (ks : List RE) (hc : ∀ k ∈ ks, k.txt.length + 3 ≤ 6 * k.cnt + 5 * k.mw) (i : Nat) : (kidsT o i (kidL ks)).length ≤ 6 * cntL ks + 5 * mwL ks := by
  induction ks generalizing i with
  | nil => exact Nat.zero_le _
  | cons k ks ih =>
    have h1 := hc k (by simp)
    have h2 := ih (fun x hx => hc x (by simp [hx])) (i + 1)
    have h3 := grpT_len (needN o i) (holdN k.op) k.txt
    have h4 := sepB_len o
    have h5 : (if 0 < i then sepB o else []).length ≤ 1 := by
      split
      · exact h4
      · simp
    rw [kidsT_cons, cntL_cons, mwL_cons, List.length_append, List.length_append]
    omega
theorem txt_len5 (r : RE) : r.txt.length + 3 ≤ 6 * r.cnt + 5 * r.mw := by
  refine RE.ind (P := fun r => r.txt.length + 3 ≤ 6 * r.cnt + 5 * r.mw) ?_ r
  intro o s ks ih
  have h := kidsT5 o ks ih 0
  have h2 := classW5 s
  rw [RE.txt_mk, RE.cnt_mk, RE.mw_mk]
  unfold opT
  repeat' split
  all_goals simp; try omega
theorem mu_one : ∀ a < 256, mu (setOf [a]) ≤ 1 := by decide +kernel
theorem mw_word (t : List Nat) (ht : ∀ x ∈ t, x < 256) : (rWord t).mw ≤ t.length := by
  have h := mw_then (t.map rLetter)
  have key : ∀ t : List Nat, (∀ x ∈ t, x < 256) → mwL (t.map rLetter) ≤ t.length := fun t => by
    induction t with
    | nil => intro _; simp [mwL]
    | cons x t ih =>
      intro ht
      have h1 : (rLetter x).mw ≤ 1 := by
        show (rOne _).mw ≤ 1
        rw [mw_one]
        exact mu_one x (ht x (by simp))
      have := ih fun y hy => ht y (by simp [hy])
      rw [List.map_cons, mwL_cons, List.length_cons]; omega
  have := key t ht
  unfold rWord; omega
theorem mu_span4 : ∀ a < 4, ∀ b < 4, mu (span (97 + a) (97 + b + 1)) ≤ 4 := by decide +kernel
theorem mw_mkAt (k a b : Nat) (t : List Nat) (ks : List RE) (ht : t.length ≤ 20) (ht2 : ∀ x ∈ t, x < 256) (hs : mu (span a (b + 1)) ≤ 4) : (mkAt k a b t ks).mw ≤ 20 + mwL ks := by
  have hg : ∀ i, (ks.getD i rNothing).mw ≤ mwL ks := fun i => by
    by_cases hi : i < ks.length
    · rw [show ks.getD i rNothing = ks[i] from by simp [List.getD_eq_getElem?_getD, hi]]
      have : mwL ks = mwL (ks.take i) + mwL (ks.drop i) := by rw [← mwL_append, List.take_append_drop]
      rw [← List.getElem_cons_drop hi, mwL_cons] at this
      omega
    · rw [show ks.getD i rNothing = rNothing from by simp [List.getD_eq_getElem?_getD, hi], mw_nothing]; omega
  have h01 : (ks.getD 0 rNothing).mw + (ks.getD 1 rNothing).mw ≤ mwL ks := by
    match ks with
    | [] => simp [mw_nothing, mwL]
    | [x] => simp [mw_nothing, mwL]
    | x :: y :: r => simp [mwL] <;> omega
  have g0 := hg 0
  have q1 := mw_then ks; have q2 := mw_any ks; have q3 := mw_both ks; have q4 := mw_many (ks.getD 0 rNothing); have q5 := mw_but (ks.getD 0 rNothing) (ks.getD 1 rNothing); have q6 := mw_word t ht2
  unfold mkAt
  repeat' split
  · rw [mw_nothing]; omega
  · rw [mw_empty]; omega
  · rw [mw_one]; omega
  all_goals omega
theorem SHP.mw (s : SHP) : Tx s → s.re.mw ≤ 20 * s.nodes := by
  refine SHP.ind (P := fun s => Tx s → s.re.mw ≤ 20 * s.nodes) ?_ s
  intro o l u t ks ih h
  cases h with
  | mk _ _ _ _ _ ht hk =>
    rw [SHP.re_mk, SHP.nodes_mk]
    have h1 := mw_mkAt (SHP.mk o l u t ks).k (97 + l % 4) (97 + u % 4) (bytesN t) (ks.map SHP.re) (by simpa [bytesN] using ht) (bN_lt t) (mu_span4 _ (by omega) _ (by omega))
    have h2 : mwL (ks.map SHP.re) ≤ 20 * (ks.map SHP.nodes).sum := by
      clear h1
      induction ks with
      | nil => simp [mwL]
      | cons x ks ihk =>
        have e1 := ih x (by simp) (hk x (by simp))
        have e2 := ihk (fun k hk' => ih k (by simp [hk'])) (fun k hk' => hk k (by simp [hk']))
        rw [List.map_cons, mwL_cons, List.map_cons, List.sum_cons]
        omega
    omega
/-- What fifteen parts make has no long text. -/
theorem txt_15 {s : SHP} (ht : Tx s) (hn : s.nodes ≤ 15) : s.re.txt.length ≤ 3500 := by
  have h1 := txt_len5 s.re
  have h2 := s.mw ht
  have h3 := s.cnt ht
  omega
end Go.Proofs.YtjlgepahgmkamaaGreatDoor
