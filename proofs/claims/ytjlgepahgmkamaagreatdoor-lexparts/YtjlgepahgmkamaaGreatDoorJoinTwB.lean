/- Texts of this claim put together: MathWf, MathRd, Open, Open2, ShA, TrA, TrB, TwA, TwB. -/
import Derived.Test.YtjlgepahgmkamaaGreatDoorJoinReO
import Derived.Test.YtjlgepahgmkamaaGreatDoorRows
import Derived.Test.YtjlgepahgmkamaaGreatDoorJoinSetG
import Derived.Test.YtjlgepahgmkamaaGreatDoorJoinReB
import Derived.ProofKit
import Derived.LaidMore
import Derived.OpenShut
import Derived.Stop.Joined
import Derived.Lib.LaidTab
import Derived.Deep.Slices
import Derived.Lib.Bytealg
import Derived.Lib.AppendStr
/- What the calls make is in the settled form, and not much greater than what went in. -/
namespace Go.Proofs.YtjlgepahgmkamaaGreatDoor
set_option maxRecDepth 100000
set_option linter.unusedSimpArgs false
set_option linter.unusedVariables false
open Go.RowKit

def RE.cnt : RE → Nat
  | .mk _ _ ks => 1 + (ks.map fun k => k.cnt).sum
def cntL (l : List RE) : Nat := (l.map RE.cnt).sum
theorem RE.cnt_mk (o : Nat) (s : BitVec 256) (ks : List RE) : (RE.mk o s ks).cnt = 1 + cntL ks := by rw [RE.cnt, cntL]
theorem RE.cnt_kids (r : RE) : r.cnt = 1 + cntL r.kids := by cases r; exact RE.cnt_mk _ _ _
theorem cntL_cons (x : RE) (l : List RE) : cntL (x :: l) = x.cnt + cntL l := by simp [cntL]
theorem cntL_append (a b : List RE) : cntL (a ++ b) = cntL a + cntL b := by simp [cntL]
theorem cntL_len (l : List RE) : l.length ≤ cntL l := by
  induction l with
  | nil => simp [cntL]
  | cons x l ih => rw [cntL_cons, RE.cnt_kids]; simp; omega
theorem cntL_flatMap (f : RE → List RE) (hf : ∀ r, cntL (f r) ≤ r.cnt) (l : List RE) : cntL (l.flatMap f) ≤ cntL l := by
  induction l with
  | nil => simp [cntL]
  | cons x l ih => rw [List.flatMap_cons, cntL_append, cntL_cons]; have := hf x; omega
theorem cntL_catL (l : List RE) : cntL (catL l) ≤ cntL l := cntL_flatMap _ (fun r => by
  have := r.cnt_kids
  unfold catK
  split
  · simp [cntL]
  · split
    · omega
    · rw [cntL_cons]; simp [cntL]) l
theorem cntL_flatL (o : Nat) (l : List RE) : cntL (flatL o l) ≤ cntL l := cntL_flatMap _ (fun r => by
  have := r.cnt_kids
  split
  · omega
  · rw [cntL_cons]; simp [cntL]) l
theorem cntL_filter (p : RE → Bool) (l : List RE) : cntL (l.filter p) ≤ cntL l := by
  induction l with
  | nil => simp
  | cons x l ih =>
    rw [List.filter_cons, cntL_cons]
    split
    · rw [cntL_cons]; omega
    · omega
theorem cntL_insK (x : RE) (l : List RE) : cntL (insK x l) ≤ x.cnt + cntL l := by
  induction l with
  | nil => simp [insK, cntL]
  | cons y l ih =>
    simp only [insK]
    split
    · simp only [cntL_cons]; omega
    · split
      · simp only [cntL_cons]; omega
      · simp only [cntL_cons]; omega
theorem cntL_ordL (l : List RE) : cntL (ordL l) ≤ cntL l := by
  induction l with
  | nil => simp [ordL]
  | cons x l ih =>
    have := cntL_insK x (ordL l)
    rw [cntL_cons]
    have e : ordL (x :: l) = insK x (ordL l) := rfl
    rw [e]; omega
theorem cnt_join (o : Nat) (l : List RE) : (rJoin o l).cnt ≤ 1 + cntL l := by
  unfold rJoin
  split
  · simp [cntL]
  · rw [RE.cnt_mk]; omega
theorem cnt_nothing : rNothing.cnt = 1 := by rw [RE.cnt_kids]; rfl
theorem cnt_empty : rEmpty.cnt = 1 := by rw [RE.cnt_kids]; rfl
theorem cnt_one (s : BitVec 256) : (rOne s).cnt = 1 := by rw [RE.cnt_kids, rOne_kids]; rfl
theorem cnt_then (l : List RE) : (rThen l).cnt ≤ 1 + cntL l := by
  unfold rThen
  split
  · rw [cnt_nothing]; omega
  · split
    · rw [cnt_empty]; omega
    · have h1 := cnt_join 3 (catL l); have h2 := cntL_catL l; omega
theorem cnt_any (l : List RE) : (rAny l).cnt ≤ 2 + cntL l := by
  unfold rAny
  simp only
  generalize hk : (orKeep (flatL 4 l) ++ if orSet (flatL 4 l) = 0#256 then [] else [rOne (orSet (flatL 4 l))]) = ks
  split
  · rw [cnt_nothing]; omega
  · have h1 := cnt_join 4 (ordL ks)
    have h2 := cntL_ordL ks
    have h3 := cntL_filter (fun r => !(r.op == 0) && !(r.op == 2)) (flatL 4 l)
    have h4 := cntL_flatL 4 l
    have h5 : cntL ks ≤ cntL (orKeep (flatL 4 l)) + 1 := by
      rw [← hk, cntL_append]
      split
      · simp [cntL]
      · simp [cntL, cnt_one]
    unfold orKeep at h5
    omega
theorem cnt_many (r : RE) : (rMany r).cnt ≤ 1 + r.cnt := by
  unfold rMany
  split
  · rw [cnt_empty]; omega
  · split
    · omega
    · rw [RE.cnt_mk]; simp [cntL]
theorem cnt_both (l : List RE) : (rBoth l).cnt ≤ 2 + cntL l := by
  unfold rBoth
  simp only
  split
  · rw [cnt_nothing]; omega
  · split
    · rw [cnt_nothing]; omega
    · generalize hk : (orKeep (flatL 6 l) ++ if met (flatL 6 l) = true then [rOne (andSet (flatL 6 l))] else []) = ks
      split
      · have := cnt_many (rOne allB); rw [cnt_one] at this; omega
      · have h1 := cnt_join 6 (ordL ks)
        have h2 := cntL_ordL ks
        have h3 := cntL_filter (fun r => !(r.op == 0) && !(r.op == 2)) (flatL 6 l)
        have h4 := cntL_flatL 6 l
        have h5 : cntL ks ≤ cntL (orKeep (flatL 6 l)) + 1 := by
          rw [← hk, cntL_append]
          split
          · simp [cntL, cnt_one]
          · simp [cntL]
        unfold orKeep at h5
        omega
theorem cnt_but (a b : RE) : (rBut a b).cnt ≤ 1 + a.cnt + b.cnt := by
  unfold rBut
  split
  · omega
  · split
    · rw [cnt_one]; omega
    · split
      · rw [cnt_nothing]; omega
      · rw [RE.cnt_mk]; simp [cntL]; omega
theorem cnt_word (t : List Nat) : (rWord t).cnt ≤ 1 + t.length := by
  have h := cnt_then (t.map rLetter)
  have key : ∀ t : List Nat, cntL (t.map rLetter) = t.length := fun t => by
    induction t with
    | nil => rfl
    | cons x t ih => rw [List.map_cons, cntL_cons, show (rLetter x).cnt = 1 from cnt_one _, ih, List.length_cons]; omega
  have := key t
  unfold rWord; omega

theorem wf_catL {l : List RE} (hw : ∀ r ∈ l, Wf r) (h0 : l.any (fun r => r.op == 0) = false) : ∀ k ∈ catL l, Wf k ∧ k.op ≠ 0 ∧ k.op ≠ 1 ∧ k.op ≠ 3 := by
  intro k hk
  obtain ⟨r, hr, hk⟩ := List.mem_flatMap.1 hk
  have hr0 : r.op ≠ 0 := fun e => by
    have := List.any_eq_false.1 h0 r hr
    simp [e] at this
  unfold catK at hk
  split at hk
  · simp at hk
  · split at hk
    · rename_i h3
      have h := ((hw r hr).shp.cat h3).2 k hk
      exact ⟨(hw r hr).kid k hk, h⟩
    · simp at hk; subst hk
      exact ⟨hw _ hr, hr0, by assumption, by assumption⟩
theorem wf_then {l : List RE} (hw : ∀ r ∈ l, Wf r) : Wf (rThen l) := by
  unfold rThen
  split
  · exact wf_nothing
  · rename_i h0
    have hc := wf_catL hw (by simpa using h0)
    split
    · exact wf_empty
    · rename_i hne
      by_cases h1 : (catL l).length = 1
      · match hl : catL l, h1 with
        | [x], _ => exact (hc x (by rw [hl]; simp)).1
      · rw [rJoin_more 3 _ h1]
        have h2 : 2 ≤ (catL l).length := by
          have := List.length_pos_iff.2 hne
          omega
        exact .mk _ _ _ (fun k hk => (hc k hk).1) ⟨by omega, fun _ => rfl, by omega, by omega, fun _ => ⟨h2, fun k hk => (hc k hk).2⟩, by omega, by omega, by omega⟩
/-- The heart of Any and Both. -/
theorem wf_ord {o : Nat} (ho : o = 4 ∨ o = 6) {ks : List RE} {c : BitVec 256} (hw : ∀ k ∈ ks, Wf k ∧ k.op ≠ 0 ∧ k.op ≠ o ∧ (k.op = 2 → k = rOne c)) (hne : ks ≠ []) : Wf (rJoin o (ordL ks)) := by
  obtain ⟨h1, h2⟩ := ordL_spec ks (fun y hy => (hw y hy).1.k)
  have hw' : ∀ k ∈ ordL ks, Wf k ∧ k.op ≠ 0 ∧ k.op ≠ o ∧ (k.op = 2 → k = rOne c) := fun k hk => hw k ((h2 k).1 hk)
  have hne' : ordL ks ≠ [] := fun e => by
    obtain ⟨x, hx⟩ := List.exists_mem_of_ne_nil ks hne
    have := (h2 x).2 hx
    rw [e] at this; simp at this
  by_cases hl : (ordL ks).length = 1
  · match hk : ordL ks, hl with
    | [x], _ => exact (hw' x (by rw [hk]; simp)).1
  · rw [rJoin_more o _ hl]
    have hl2 : 2 ≤ (ordL ks).length := by
      have := List.length_pos_iff.2 hne'
      omega
    have hcl : ((ordL ks).filter fun k => k.op == 2).length ≤ 1 := by
      have hp := h1.filter (fun k => k.op == 2)
      match hf : (ordL ks).filter (fun k => k.op == 2) with
      | [] => rw [hf]; simp
      | [x] => rw [hf]; simp
      | x :: y :: r =>
        exfalso
        rw [hf] at hp
        have hxy := (List.pairwise_cons.1 hp).1 y (by simp)
        have hx : x ∈ (ordL ks).filter (fun k => k.op == 2) := by rw [hf]; simp
        have hy : y ∈ (ordL ks).filter (fun k => k.op == 2) := by rw [hf]; simp
        have ex := (hw' x (List.mem_filter.1 hx).1).2.2.2 (by simpa using (List.mem_filter.1 hx).2)
        have ey := (hw' y (List.mem_filter.1 hy).1).2.2.2 (by simpa using (List.mem_filter.1 hy).2)
        rw [ex, ey] at hxy
        exact ltK_irrefl hxy
    exact .mk _ _ _ (fun k hk => (hw' k hk).1) ⟨by omega, fun _ => rfl, by omega, by omega, by omega, fun _ => ⟨hl2, fun k hk => ⟨(hw' k hk).2.1, (hw' k hk).2.2.1⟩, h1, hcl⟩, by omega, by omega⟩
theorem wf_flatL {o : Nat} (ho : o = 4 ∨ o = 6) {l : List RE} (hw : ∀ r ∈ l, Wf r) : ∀ k ∈ flatL o l, Wf k ∧ k.op ≠ o := by
  intro k hk
  obtain ⟨r, hr, hk⟩ := List.mem_flatMap.1 hk
  split at hk
  · rename_i h3
    have h := ((hw r hr).shp.or (by omega)).2.1 k hk
    exact ⟨(hw r hr).kid k hk, by rw [h3] at h; exact h.2⟩
  · simp at hk; subst hk
    exact ⟨hw _ hr, by assumption⟩
theorem one_op (c : BitVec 256) (h : c ≠ 0#256) : (rOne c).op = 2 := by unfold rOne; rw [if_neg h]; rfl
theorem wf_keepL {o : Nat} (ho : o = 4 ∨ o = 6) {l : List RE} (hw : ∀ r ∈ l, Wf r) (c : BitVec 256) : ∀ k ∈ orKeep (flatL o l), Wf k ∧ k.op ≠ 0 ∧ k.op ≠ o ∧ (k.op = 2 → k = rOne c) := by
  intro k hk
  obtain ⟨h1, h2⟩ := List.mem_filter.1 hk
  obtain ⟨h3, h4⟩ := wf_flatL ho hw k h1
  simp at h2
  exact ⟨h3, h2.1, h4, fun e => absurd e h2.2⟩
theorem wf_any {l : List RE} (hw : ∀ r ∈ l, Wf r) : Wf (rAny l) := by
  unfold rAny
  simp only
  generalize hks : (orKeep (flatL 4 l) ++ if orSet (flatL 4 l) = 0#256 then [] else [rOne (orSet (flatL 4 l))]) = ks
  split
  · exact wf_nothing
  · rename_i hne
    refine wf_ord (.inl rfl) (c := orSet (flatL 4 l)) (fun k hk => ?_) hne
    rw [← hks] at hk
    rcases List.mem_append.1 hk with hk | hk
    · exact wf_keepL (.inl rfl) hw _ k hk
    · split at hk
      · simp at hk
      · rename_i hc
        simp at hk; subst hk
        have := one_op _ hc
        exact ⟨wf_one _, by omega, by omega, fun _ => rfl⟩
theorem wf_many {r : RE} (hw : Wf r) : Wf (rMany r) := by
  unfold rMany
  split
  · exact wf_empty
  · split
    · exact hw
    · rename_i h1 h2
      exact .mk _ _ _ (fun k hk => by simp at hk; subst hk; exact hw) ⟨by omega, fun _ => rfl, by omega, by omega, by omega, by omega, fun _ => ⟨r, rfl, by omega, by omega, h2⟩, by omega⟩
theorem wf_both {l : List RE} (hw : ∀ r ∈ l, Wf r) : Wf (rBoth l) := by
  unfold rBoth
  simp only
  split
  · exact wf_nothing
  · split
    · exact wf_nothing
    · rename_i h0 hc
      generalize hks : (orKeep (flatL 6 l) ++ if met (flatL 6 l) = true then [rOne (andSet (flatL 6 l))] else []) = ks
      split
      · exact wf_many (wf_one _)
      · rename_i hne
        refine wf_ord (.inr rfl) (c := andSet (flatL 6 l)) (fun k hk => ?_) hne
        rw [← hks] at hk
        rcases List.mem_append.1 hk with hk | hk
        · exact wf_keepL (.inr rfl) hw _ k hk
        · split at hk
          · simp at hk; subst hk
            have := one_op _ hc
            exact ⟨wf_one _, by omega, by omega, fun _ => rfl⟩
          · simp at hk
theorem wf_but {a b : RE} (ha : Wf a) (hb : Wf b) : Wf (rBut a b) := by
  unfold rBut
  split
  · exact ha
  · split
    · exact wf_one _
    · split
      · exact wf_nothing
      · rename_i h1 h2 h3
        exact .mk _ _ _ (fun k hk => by simp at hk; rcases hk with rfl | rfl; exact ha; exact hb) ⟨by omega, fun _ => rfl, by omega, by omega, by omega, by omega, by omega, fun _ => ⟨a, b, rfl, by omega, by omega, fun e => h3 (by rw [e]; exact lexN_self _), h2⟩⟩
theorem wf_word (t : List Nat) : Wf (rWord t) := wf_then fun r hr => by
  obtain ⟨x, -, rfl⟩ := List.mem_map.1 hr
  exact wf_one _
end Go.Proofs.YtjlgepahgmkamaaGreatDoor
/- The reader of expressions, as a function: what is left of the text, and the state. -/
namespace Go.Proofs.YtjlgepahgmkamaaGreatDoor
set_option maxRecDepth 100000
set_option linter.unusedSimpArgs false
set_option linter.unusedVariables false

/-- The reader's state: what is left, how many ( are open, how many parts were counted, the first error and its place. -/
structure St where
  rest : List Nat
  deep : Nat
  cnt : Nat
  err : Nat
  wh : Nat
def isWs (b : Nat) : Bool := b == 32 || b == 9 || b == 10 || b == 13
def plainB (b : Nat) : Bool := decide (32 ≤ b) && decide (b ≤ 126)
def letterB (b : Nat) : Bool := (decide (48 ≤ b) && decide (b ≤ 57)) || (decide (97 ≤ b) && decide (b ≤ 122)) || (decide (65 ≤ b) && decide (b ≤ 90))
def signsL : List Nat := [32, 40, 41, 91, 93, 124, 38, 45, 42, 43, 63, 46, 92]
def digitsL : List Nat := [48, 49, 50, 51, 52, 53, 54, 55, 56, 57, 97, 98, 99, 100, 101, 102]
/-- The byte that is written at a text's beginning, and by how many bytes. -/
def scanN : List Nat → Nat × Nat
  | [] => (0, 0)
  | a :: r =>
    if a = 92 then
      match r with
      | [] => (0, 0)
      | b :: r2 =>
        if b = 110 then (10, 2) else if b = 116 then (9, 2) else if b = 120 then
          match r2 with
          | c :: d :: _ => if digitsL.contains c && digitsL.contains d then (16 * digitsL.idxOf c + digitsL.idxOf d, 4) else (0, 0)
          | _ => (0, 0)
        else if !plainB b || letterB b then (0, 0) else (b, 2)
    else if !plainB a || signsL.contains a then (0, 0) else (a, 1)

namespace St
def pos (n : Nat) (st : St) : Nat := n - st.rest.length
def fail (e p : Nat) (st : St) : St := ⟨[], st.deep, st.cnt, if st.err = 0 then e else st.err, if st.err = 0 then p else st.wh⟩
def to (st : St) (r : List Nat) : St := ⟨r, st.deep, st.cnt, st.err, st.wh⟩
def skip (st : St) : St := st.to (st.rest.dropWhile isWs)
/-- Whether a byte stands just here; what is left behind it. -/
def isAt (b : Nat) (st : St) : Bool := st.rest.head? == some b
def here (b : Nat) (st : St) : St := if st.isAt b then st.to st.rest.tail else st
def signB (b : Nat) (st : St) : Bool := st.skip.isAt b
def sign (b : Nat) (st : St) : St := st.skip.here b
def counted (n : Nat) (st : St) : St := if 1000 < st.cnt + 1 then St.fail 3 (st.pos n) ⟨st.rest, st.deep, st.cnt + 1, st.err, st.wh⟩ else ⟨st.rest, st.deep, st.cnt + 1, st.err, st.wh⟩
def byteV (st : St) : Nat := (scanN st.rest).1
def byte (n : Nat) (st : St) : St := if (scanN st.rest).2 = 0 then st.fail 2 (st.pos n) else st.to (st.rest.drop (scanN st.rest).2)
def deeper (n : Nat) (st : St) : St := if 60 < st.deep + 1 then St.fail 4 (st.pos n - 1) ⟨st.rest, st.deep + 1, st.cnt, st.err, st.wh⟩ else ⟨st.rest, st.deep + 1, st.cnt, st.err, st.wh⟩
def upper (st : St) : St := ⟨st.rest, st.deep - 1, st.cnt, st.err, st.wh⟩
/-- What stands behind a [. -/
def classL (n : Nat) : Nat → BitVec 256 → St → Option (BitVec 256 × St)
  | 0, _, _ => none
  | f + 1, s, st =>
    if st.isAt 93 then some (s, st.here 93) else if st.err = 0 then
      let low := st.byteV
      let st2 := st.byte n
      let high := if st2.isAt 45 then (st2.here 45).byteV else low
      let st3 := if st2.isAt 45 then (st2.here 45).byte n else st2
      let st4 := if high < low then st3.fail 2 (st3.pos n) else st3
      classL n f (s ||| span low (high + 1)) st4
    else some (s, st)
def clas (n f : Nat) (st : St) : Option (BitVec 256 × St) :=
  if st.isAt 94 then (classL n f 0#256 (st.here 94)).map fun q => (~~~q.1, q.2) else classL n f 0#256 st
/-- Which part of the grammar is read; with what was read of it. -/
inductive Md where
  | or | orL (l : List RE) | minus | minusL (r : RE) | and | andL (l : List RE) | cat | catL (l : List RE) | post | postL (r : RE) | atom | group
def sized (n : Nat) (q : RE × St) : St := if 1000 < q.1.size then (q.2.counted n).fail 3 ((q.2.counted n).pos n) else q.2.counted n
def P (n : Nat) : Nat → Md → St → Option (RE × St)
  | 0, _, _ => none
  | f + 1, .or, st => (P n f .minus st).bind fun q => P n f (.orL [q.1]) q.2
  | f + 1, .orL l, st => if st.signB 124 then (P n f .minus (st.sign 124)).bind fun q => P n f (.orL (l ++ [q.1])) q.2 else some (rAny l, st.sign 124)
  | f + 1, .minus, st => (P n f .and st).bind fun q => P n f (.minusL q.1) q.2
  | f + 1, .minusL r, st => if st.signB 45 then (P n f .and (st.sign 45)).bind fun q => P n f (.minusL (rBut r q.1)) q.2 else some (r, st.sign 45)
  | f + 1, .and, st => (P n f .cat st).bind fun q => P n f (.andL [q.1]) q.2
  | f + 1, .andL l, st => if st.signB 38 then (P n f .cat (st.sign 38)).bind fun q => P n f (.andL (l ++ [q.1])) q.2 else some (rBoth l, st.sign 38)
  | f + 1, .cat, st => (P n f .post st).bind fun q => P n f (.catL [q.1]) q.2
  | f + 1, .catL l, st => match st.skip.rest with
    | [] => some (rThen l, st.skip)
    | b :: _ => if [124, 45, 38, 41].contains b then some (rThen l, st.skip) else (P n f .post st.skip).bind fun q => P n f (.catL (l ++ [q.1])) q.2
  | f + 1, .post, st => (P n f .atom st).bind fun q => P n f (.postL q.1) q.2
  | f + 1, .postL r, st =>
    if st.signB 42 then P n f (.postL (rMany r)) (sized n (rMany r, st.sign 42))
    else if (st.sign 42).signB 43 then P n f (.postL (rThen [r, rMany r])) (sized n (rThen [r, rMany r], (st.sign 42).sign 43))
    else if ((st.sign 42).sign 43).signB 63 then P n f (.postL (rAny [r, rEmpty])) (sized n (rAny [r, rEmpty], ((st.sign 42).sign 43).sign 63))
    else some (r, ((st.sign 42).sign 43).sign 63)
  | f + 1, .atom, st =>
    if st.signB 40 then (P n f .group (st.sign 40)).map fun q => (q.1, q.2.counted n)
    else if (st.sign 40).signB 91 then (clas n f ((st.sign 40).sign 91)).map fun q => (rOne q.1, q.2.counted n)
    else if ((st.sign 40).sign 91).signB 46 then some (rOne allB, (((st.sign 40).sign 91).sign 46).counted n)
    else some (rOne (setOf [(((st.sign 40).sign 91).sign 46).byteV]), ((((st.sign 40).sign 91).sign 46).byte n).counted n)
  | f + 1, .group, st =>
    if (st.deeper n).signB 41 then some (rEmpty, ((st.deeper n).sign 41).upper)
    else (P n f .or ((st.deeper n).sign 41)).map fun q => (q.1, (if q.2.signB 41 then q.2.sign 41 else (q.2.sign 41).fail 2 ((q.2.sign 41).pos n)).upper)
end St
end Go.Proofs.YtjlgepahgmkamaaGreatDoor
/- A set that came in, opened; the table of math/bits, out of the row's condition. -/
namespace Go.Proofs.YtjlgepahgmkamaaGreatDoor
set_option maxRecDepth 100000
open Go.ChangeShapes Go.WideShapes Go.ChangeAt Go.WideMaps Go.WideElems Go.RowKit

/-- A set as data. -/
def SD {H : Type} (s : BitVec 256) : DataW H := .agg [.lit (.int .u64 (wd s 0)), .lit (.int .u64 (wd s 1)), .lit (.int .u64 (wd s 2)), .lit (.int .u64 (wd s 3))]

theorem own : ownKnob Tryz.prog.godebug = none := by kernel_rfl
theorem cellsB : Tryz.prog.cellsOf 5 = 1 := by kernel_rfl

theorem laidOut : laidOutB Tryz.prog = true := by kernel_rfl
theorem gTab : Tryz.prog.globalNamed "math/bits.deBruijn64tab" = some 1 := by kernel_rfl
theorem tTab : (Tryz.prog.globals[1]?).map (·.type) = some 152 := by kernel_rfl
theorem cells64 : Tryz.prog.cellsOf 152 = 64 := by kernel_rfl
theorem laidTab : (Rows.laid_math_bits_deBruijn64tab : DataW Unit) = Lib.tabData .u8 (Lib.deBruijn64tab.map fun n : Nat => (n : Int)) := by kernel_rfl

theorem tab_of_laid {W : World} (h : laidMetH Tryz.prog [("math/bits.deBruijn64tab", Rows.laid_math_bits_deBruijn64tab)] W) : TabAt W := by
  rw [MakeChecks.laidMetH_plain _ _ _ (by kernel_rfl), laidTab] at h
  have hT := Lib.tabIs_of_head gTab tTab Tryz.underlying152 Tryz.underlying5 cellsB cells64 h
  intro j hj
  have := hT.cell gTab j (by simpa [Lib.deBruijn64tab] using hj)
  rw [this]
  have e : ((Lib.deBruijn64tab.map fun n : Nat => (n : Int)).getD j 0) = ((Lib.deBruijn64tab.getD j 0 : Nat) : Int) := by
    rw [List.getD_eq_getElem?_getD, List.getD_eq_getElem?_getD, List.getElem?_map]
    cases Lib.deBruijn64tab[j]? <;> rfl
  rw [e]

theorem door_met (os : Os) (args : Array Value) : laidMetH Tryz.prog [("math/bits.deBruijn64tab", Rows.laid_math_bits_deBruijn64tab)] ((World.doorLaid Tryz.prog 400 os).forCall (fun _ _ => 0) ⟨#[], args, []⟩).memory :=
  laidMetH_of_parts3 (fuel := 8) (laidMet_of_run' 8 (by kernel_rfl) (by kernel_rfl)) (by kernel_rfl) (by kernel_rfl)
end Go.Proofs.YtjlgepahgmkamaaGreatDoor
/- A slice of sets that came in. -/
namespace Go.Proofs.YtjlgepahgmkamaaGreatDoor
set_option maxRecDepth 100000
open Go.ChangeShapes Go.WideShapes Go.ChangeAt Go.WideMaps Go.WideElems Go.RowKit

end Go.Proofs.YtjlgepahgmkamaaGreatDoor
/- The statements' shapes: trees that came in. -/
namespace Go.Proofs.YtjlgepahgmkamaaGreatDoor
set_option maxRecDepth 100000
set_option linter.unusedSimpArgs false
set_option linter.unusedVariables false
open Go.RowKit

inductive SHP : Type where
  | mk (op : Int) (lo hi : Nat) (text : ByteArray) (kids : List SHP) : SHP
def SHP.op : SHP → Int | .mk o _ _ _ _ => o
def SHP.lo : SHP → Nat | .mk _ l _ _ _ => l
def SHP.hi : SHP → Nat | .mk _ _ h _ _ => h
def SHP.text : SHP → ByteArray | .mk _ _ _ t _ => t
def SHP.kids : SHP → List SHP | .mk _ _ _ _ ks => ks
theorem SHP.ind {P : SHP → Prop} (h : ∀ o l u t ks, (∀ k ∈ ks, P k) → P (.mk o l u t ks)) (s : SHP) : P s := by
  cases s with
  | mk o l u t ks => exact h o l u t ks fun k hk => SHP.ind h k
termination_by SizeOf.sizeOf s
decreasing_by
  have := List.sizeOf_lt_of_mem hk
  simp; omega

/-- The elements of a slice of shapes, five cells each. -/
def ShRow (w : World) (v : Value) (n : Nat) (cells : Nat → List Value) : Prop :=
  (n ≤ 9223372036854775807 ∧ capOk v) ∧ ∃ a cap, v = .slice a n cap ∧ ∀ k, k < n → (cells k).length = 5 ∧ ∃ b off, a = some ⟨b, off, none⟩ ∧ b < w.heap.size ∧ ∀ j u, (cells k)[j]? = some u → w.cell? ⟨b, off + k * 5 + j, none⟩ = some u
theorem ShRow.keep {w w' : World} {v : Value} {n : Nat} {cells : Nat → List Value} (h : ShRow w v n cells) (hb : Below w.heap.size w w') : ShRow w' v n cells := by
  obtain ⟨h0, a, cap, rfl, h1⟩ := h
  refine ⟨h0, a, cap, rfl, fun k hk => ?_⟩
  obtain ⟨h2, b, off, e, hlt, hc⟩ := h1 k hk
  exact ⟨h2, b, off, e, Nat.lt_of_lt_of_le hlt hb.size, fun j u hu => (World.cell?_of_block (w := w) (hb.block b hlt)).trans (hc j u hu)⟩
inductive ShC (w : World) : List Value → SHP → Prop where
  | mk (o : Int) (l u : Nat) (t : ByteArray) (ks : List SHP) (v : Value) (cells : Nat → List Value) (ho : -9223372036854775808 ≤ o ∧ o ≤ 9223372036854775807) (hl : l < 256) (hu : u < 256) (ht : t.size ≤ 9223372036854775807)
      (hrow : ShRow w v ks.length cells) (hk : ∀ i k, ks[i]? = some k → ShC w (cells i) k) : ShC w [.int .i64 o, .int .u8 l, .int .u8 u, .string t, v] (.mk o l u t ks)
theorem ShC.keep {w w' : World} {cs : List Value} {s : SHP} (h : ShC w cs s) (hb : Below w.heap.size w w') : ShC w' cs s := by
  induction h with
  | mk o l u t ks v cells ho hl hu ht hrow hk ih => exact .mk o l u t ks v cells ho hl hu ht (hrow.keep hb) ih
/-- A slice of shapes. -/
def ShsRow (w : World) (v : Value) (ks : List SHP) : Prop := ∃ cells, ShRow w v ks.length cells ∧ ∀ i k, ks[i]? = some k → ShC w (cells i) k
theorem ShsRow.keep {w w' : World} {v : Value} {ks : List SHP} (h : ShsRow w v ks) (hb : Below w.heap.size w w') : ShsRow w' v ks := by
  obtain ⟨cells, h1, h2⟩ := h
  exact ⟨cells, h1.keep hb, fun i k hk => (h2 i k hk).keep hb⟩
theorem ShC.open {w : World} {cs : List Value} {s : SHP} (h : ShC w cs s) : ∃ v, cs = [.int .i64 s.op, .int .u8 s.lo, .int .u8 s.hi, .string s.text, v] ∧ ShsRow w v s.kids ∧ (-9223372036854775808 ≤ s.op ∧ s.op ≤ 9223372036854775807) ∧ s.lo < 256 ∧ s.hi < 256 ∧ s.text.size ≤ 9223372036854775807 := by
  cases h with
  | mk o l u t ks v cells ho hl hu ht hrow hk => exact ⟨v, rfl, ⟨cells, hrow, hk⟩, ho, hl, hu, ht⟩
/-- One element of a slice. -/
theorem ShsRow.at {w : World} {v : Value} {ks : List SHP} (h : ShsRow w v ks) : ks.length ≤ 9223372036854775807 ∧ ∃ a cap, v = .slice a ks.length cap ∧ ∀ k (hk : k < ks.length), ∃ b off kv, a = some ⟨b, off, none⟩ ∧ b < w.heap.size ∧
    (w.cell? ⟨b, off + k * 5, none⟩ = some (.int .i64 ks[k].op) ∧ w.cell? ⟨b, off + k * 5 + 1, none⟩ = some (.int .u8 ks[k].lo) ∧ w.cell? ⟨b, off + k * 5 + 2, none⟩ = some (.int .u8 ks[k].hi) ∧ w.cell? ⟨b, off + k * 5 + 3, none⟩ = some (.string ks[k].text) ∧ w.cell? ⟨b, off + k * 5 + 4, none⟩ = some kv) ∧
    ShC w [.int .i64 ks[k].op, .int .u8 ks[k].lo, .int .u8 ks[k].hi, .string ks[k].text, kv] ks[k] := by
  obtain ⟨cells, ⟨h0, a, cap, rfl, h1⟩, h2⟩ := h
  refine ⟨h0.1, a, cap, rfl, fun k hk => ?_⟩
  obtain ⟨h3, b, off, e, hlt, hc⟩ := h1 k hk
  have h4 := h2 k _ (List.getElem?_eq_getElem hk)
  obtain ⟨kv, e5, -⟩ := h4.open
  refine ⟨b, off, kv, e, hlt, ⟨?_, ?_, ?_, ?_, ?_⟩, by rw [← e5]; exact h4⟩
  · have := hc 0 _ (by rw [e5]; rfl); simpa using this
  · exact hc 1 _ (by rw [e5]; rfl)
  · exact hc 2 _ (by rw [e5]; rfl)
  · exact hc 3 _ (by rw [e5]; rfl)
  · exact hc 4 _ (by rw [e5]; rfl)

theorem ShsRow.cap {w : World} {v : Value} {ks : List SHP} (h : ShsRow w v ks) : capOk v := by
  obtain ⟨cells, ⟨h0, -⟩, -⟩ := h
  exact h0.2

section
open Go.ChangeShapes Go.WideShapes Go.ChangeAt Go.WideMaps Go.WideElems
theorem cells5 : Tryz.prog.cellsOf 27 = 5 := by kernel_rfl
theorem cellsI : Tryz.prog.cellsOf 3 = 1 := by kernel_rfl
theorem cellsU : Tryz.prog.cellsOf 5 = 1 := by kernel_rfl
theorem cellsT : Tryz.prog.cellsOf 9 = 1 := by kernel_rfl
theorem cellsK : Tryz.prog.cellsOf 25 = 1 := by kernel_rfl
/-- Slices of shapes, where what one element reads as is known. -/
theorem open_shapesF {H : Type} {enc : TypeId × Value → H} {w : World} {base : Nat} {sp : Nat → Bool} {held : Bool} {fuel : Nat} {v : Value} {x : DataW H × List MemPlace}
    (ih : ∀ n, n < fuel → ∀ cs y, DataW.trod enc Tryz.prog w base sp held n 27 cs = some y → ∃ s, ShC w cs s)
    (h : DataW.trod enc Tryz.prog w base sp held fuel 25 [v] = some x) : ∃ ks, ShsRow w v ks := by
  rcases DataW.trod_slice Tryz.underlying25 h with ⟨hcs, -⟩ | ⟨a, len, cap, elems, rest, n, rfl, hcs, -, hb, hl, hm, hlen, hel, -, -⟩
  · simp at hcs
    subst hcs
    exact ⟨[], fun _ => [], ⟨⟨by simp, .mk (by omega)⟩, none, 0, rfl, fun k hk => by simp at hk⟩, fun i k hk => by simp at hk⟩
  · simp at hcs
    subst hcs
    have key : ∀ i, ∃ (cs : List Value) (s : SHP), i < len → w.cells? base (a.add (i * 5)) 5 = some cs ∧ ShC w cs s := fun i => by
      by_cases hi : i < len
      · have h1 := hel i hi
        rw [cells5, List.getElem?_eq_getElem (by omega)] at h1
        obtain ⟨cs, h2, h3⟩ := Option.bind_eq_some_iff.1 h1
        obtain ⟨s, hs⟩ := ih n (by omega) cs _ h3
        exact ⟨cs, s, fun _ => ⟨h2, hs⟩⟩
      · exact ⟨[], .mk 0 0 0 .empty [], fun h => absurd h hi⟩
    obtain ⟨f, hf⟩ : ∃ f : Nat → List Value, ∀ i, ∃ s : SHP, i < len → w.cells? base (a.add (i * 5)) 5 = some (f i) ∧ ShC w (f i) s := ⟨fun i => Classical.choose (key i), fun i => Classical.choose_spec (key i)⟩
    obtain ⟨g, hg⟩ : ∃ g : Nat → SHP, ∀ i, i < len → w.cells? base (a.add (i * 5)) 5 = some (f i) ∧ ShC w (f i) (g i) := ⟨fun i => Classical.choose (hf i), fun i => Classical.choose_spec (hf i)⟩
    refine ⟨(List.range len).map g, f, ⟨⟨by simp; unfold maxLen at hm; omega, .mk hl⟩, some a, cap, by simp, fun k hk => ?_⟩, fun i k hk => ?_⟩
    · have hk' : k < len := by simpa using hk
      obtain ⟨h1, -⟩ := hg k hk'
      obtain ⟨h2, h3, h4⟩ := World.cells?_some h1
      obtain ⟨b, off, spot⟩ := a
      have hspot : spot = none := by
        have h0 := (hg 0 (by omega)).1
        obtain ⟨-, h3', h4'⟩ := World.cells?_some h0
        have q := h4' 0 (by omega)
        rw [List.getElem?_eq_getElem (by omega)] at q
        have := World.cell?_spot q
        simpa [Addr.add] using this
      subst hspot
      have hadd : ∀ j, ((⟨b, off, none⟩ : Addr).add (k * 5)).add j = ⟨b, off + k * 5 + j, none⟩ := fun j => by rw [Go.WideShapes.add_plain, Go.WideShapes.add_plain]
      refine ⟨h3, b, off, rfl, ?_, fun j u hu => ?_⟩
      · have h0 := h4 0 (by omega)
        rw [hadd] at h0
        cases e : w.cell? ⟨b, off + k * 5 + 0, none⟩ with
        | none => rw [e] at h0; rw [List.getElem?_eq_getElem (by omega)] at h0; cases h0
        | some u => exact World.block_lt_of_cell? _ _ e
      · have hj : j < 5 := by have := (List.getElem?_eq_some_iff.1 hu).1; omega
        have h0 := h4 j hj
        rw [hadd, hu] at h0
        exact h0
    · have hi : i < len := by have := (List.getElem?_eq_some_iff.1 hk).1; simpa using this
      rw [List.getElem?_map] at hk
      simp [hi] at hk
      rw [← hk]; exact (hg i hi).2
theorem open_shapeF {H : Type} {enc : TypeId × Value → H} {w : World} {base : Nat} {sp : Nat → Bool} {held : Bool} : ∀ (fuel : Nat) (cs : List Value) (x : DataW H × List MemPlace),
    DataW.trod enc Tryz.prog w base sp held fuel 27 cs = some x → ∃ s, ShC w cs s := by
  intro fuel
  induction fuel using Nat.strongRecOn with
  | _ fuel ih =>
    intro cs x h
    obtain ⟨xs, n, rfl, -, hl, hx, hf⟩ := DataW.trod_struct Tryz.underlying27 h
    rw [cells5] at hl
    have f0 : DataW.trod enc Tryz.prog w base sp held n 3 ((cs.drop 0).take (Tryz.prog.cellsOf 3)) = xs[0]? := hf 0 _ rfl
    have f1 : DataW.trod enc Tryz.prog w base sp held n 5 ((cs.drop 1).take (Tryz.prog.cellsOf 5)) = xs[1]? := hf 1 _ rfl
    have f2 : DataW.trod enc Tryz.prog w base sp held n 5 ((cs.drop 2).take (Tryz.prog.cellsOf 5)) = xs[2]? := hf 2 _ rfl
    have f3 : DataW.trod enc Tryz.prog w base sp held n 9 ((cs.drop 3).take (Tryz.prog.cellsOf 9)) = xs[3]? := hf 3 _ rfl
    have f4 : DataW.trod enc Tryz.prog w base sp held n 25 ((cs.drop 4).take (Tryz.prog.cellsOf 25)) = xs[4]? := hf 4 _ rfl
    rw [cellsI] at f0
    rw [cellsU] at f1 f2
    rw [cellsT] at f3
    rw [cellsK] at f4
    have hx5 : xs.length = 5 := hx
    match cs, hl, xs, hx5 with
    | [c0, c1, c2, c3, c4], _, [y0, y1, y2, y3, y4], _ =>
      simp only [List.drop_zero, List.drop_succ_cons, List.take_succ_cons, List.take_zero, List.getElem?_cons_zero, List.getElem?_cons_succ] at f0 f1 f2 f3 f4
      obtain ⟨o, e0, -, w0⟩ := DataW.trod_int Tryz.underlying3 f0
      obtain ⟨l, e1, -, w1⟩ := DataW.trod_int Tryz.underlying5 f1
      obtain ⟨u, e2, -, w2⟩ := DataW.trod_int Tryz.underlying5 f2
      simp at e0 e1 e2
      subst e0 e1 e2
      obtain ⟨t, e3, ht⟩ : ∃ t : ByteArray, c3 = .string t ∧ t.size ≤ maxLen := by
        cases n with
        | zero => simp [DataW.trod] at f3
        | succ m =>
          unfold DataW.trod at f3
          rw [Tryz.underlying9] at f3
          split at f3 <;> simp_all
      subst e3
      obtain ⟨ks, hks⟩ := open_shapesF (fun m hm => ih m (by omega)) f4
      obtain ⟨cells, hr, hk⟩ := hks
      have b0 := bounds_i64 w0; have b1 := bounds_u8 w1; have b2 := bounds_u8 w2
      obtain ⟨l, rfl⟩ := Int.eq_ofNat_of_zero_le b1.1
      obtain ⟨u, rfl⟩ := Int.eq_ofNat_of_zero_le b2.1
      exact ⟨.mk o l u t ks, .mk o l u t ks c4 cells (by omega) (by omega) (by omega) (by unfold maxLen at ht; omega) hr hk⟩
end
end Go.Proofs.YtjlgepahgmkamaaGreatDoor
/- Bytes of texts: IndexByte, plain, letter, scan. -/
namespace Go.Proofs.YtjlgepahgmkamaaGreatDoor
set_option maxRecDepth 100000
set_option linter.unusedSimpArgs false
set_option linter.unusedVariables false
open Go.RowKit

theorem bN_len (t : ByteArray) : (bytesN t).length = t.size := by unfold bytesN; rw [List.length_map]; rfl
theorem bN_lt (t : ByteArray) : ∀ x ∈ bytesN t, x < 256 := fun x hx => by
  obtain ⟨u, -, rfl⟩ := List.mem_map.1 hx
  exact u.toNat_lt
theorem bN_drop (t : ByteArray) (i : Nat) : bytesN (t.extract i t.size) = (bytesN t).drop i := by
  unfold bytesN
  rw [ByteArray.data_extract, Array.toList_extract, ← List.map_drop]
  congr 1
  show (t.data.toList.drop i).take (t.size - i) = _
  exact List.take_of_length_le (by rw [List.length_drop, Array.length_toList]; exact Nat.le_refl _)
theorem bN_get (t : ByteArray) (i : Nat) (h : i < t.size) : (bytesN t)[i]? = some (t[i]).toNat := by
  unfold bytesN
  rw [List.getElem?_map]
  have : t.data.toList[i]? = some t[i] := by
    rw [Array.getElem?_toList, Array.getElem?_eq_getElem h]; rfl
  rw [this]; rfl
theorem bN_at (t : ByteArray) (i c : Nat) (hc : (bytesN t)[i]? = some c) : ∃ h : i < t.size, (t[i]).toNat = c := by
  have h : i < t.size := by
    rw [← bN_len]
    exact (List.getElem?_eq_some_iff.1 hc).1
  refine ⟨h, ?_⟩
  rw [bN_get t i h] at hc
  injection hc
theorem x_strIdx (ρ : Operand → Value) (d : Option Tmp) (x y : Operand) (ty : TypeId) (pos : String) (af : Array Edge) (g : Option (Nat × Bool)) (t : ByteArray) (i c : Nat) (hc : (bytesN t)[i]? = some c) (hx : ρ x = .string t) (hy : ρ y = .int .i64 i) (w : World) :
    (execOp ρ { dst := d, op := .index 9 x y, type := ty, pos := pos, after := af, guard := g }).run Tryz.prog w = .ok (.value (.int .u8 c)) w := by
  obtain ⟨h, e⟩ := bN_at t i c hc
  simp [go_sem, hx, hy, h, ← e]

/-- The first place of a byte; -1: there is none. -/
def idxI (l : List Nat) (c : Nat) : Int := if l.contains c then (l.idxOf c : Int) else -1
theorem idx_eq (c : Nat) (hc : c < 256) : ∀ l : List UInt8, Lib.indexByte l c.toUInt8 = idxI (l.map UInt8.toNat) c
  | [] => rfl
  | b :: l => by
    have ih := idx_eq c hc l
    have hb : (b == c.toUInt8) = (b.toNat == c) := by
      rw [Bool.eq_iff_iff, beq_iff_eq, beq_iff_eq, ← UInt8.toNat_inj]
      have : (c.toUInt8).toNat = c := by simp [Nat.toUInt8]; omega
      rw [this]
    unfold Lib.indexByte
    rw [ih, hb]
    unfold idxI
    rw [List.map_cons, List.contains_cons, List.idxOf_cons]
    by_cases h : b.toNat = c
    · simp [h]
    · have h1 : (b.toNat == c) = false := by simpa using h
      have h2 : (c == b.toNat) = false := by simpa using fun e => h e.symm
      rw [h1, h2]
      cases hm : (l.map UInt8.toNat).contains c with
      | false => simp [hm]
      | true =>
        simp only [Bool.false_eq_true, if_false, Bool.or_true, if_true, cond_false]
        have : ((((l.map UInt8.toNat).idxOf c : Nat) : Int) == -1) = false := beq_eq_false_iff_ne.2 (by omega)
        rw [this]
        simp
theorem indexByte_any (t : ByteArray) (c : Nat) (hc : c < 256) (w : World) :
    Calls Tryz.prog 38 #[.string t, .int .u8 c] w fun e w' => e = .returned (.int .i64 (idxI (bytesN t) c)) ∧ w' = w := by
  have hx : (Extern.BytealgIndexByte.indexByte #[.string t, .int .u8 (c : Int)]).run Tryz.prog w = .ok (.int .i64 (idxI (bytesN t) c)) w := by
    rw [Lib.run_indexByteString]
    have e := idx_eq c hc t.data.toList
    rw [Int.toNat_natCast, e]; rfl
  have h1 : Calls Tryz.prog 62 #[.string t, .int .u8 c] w fun e w' => e = .returned (.int .i64 (idxI (bytesN t) c)) ∧ w' = w := by
    go_enter Tryz.func62, Tryz.ntmps62
    go_wp2
    rw [run_callFunc_extern Tryz.func82 (by kernel_rfl) (by kernel_rfl) (by kernel_rfl) (e := Extern.BytealgIndexByte.indexByte) (by kernel_rfl), hx]
    simp only [Result.andThen]
    rw [Oper.upon_value]
    go_wp2
    go_ret
    exact ⟨rfl, rfl⟩
  have H1 := hide h1
  clear h1 hx
  go_enter Tryz.func38, Tryz.ntmps38
  go_wp2_with fail
  refine H1.out.mono ?_
  rintro e w1 ⟨rfl, rfl⟩
  go_wp2
  go_ret
  exact ⟨rfl, rfl⟩
theorem idxI_neg (l : List Nat) (c : Nat) : decide (idxI l c < 0) = !l.contains c := by
  unfold idxI
  cases h : l.contains c <;> simp
theorem idxI_pos (l : List Nat) (c : Nat) : decide (0 ≤ idxI l c) = l.contains c := by
  unfold idxI
  cases h : l.contains c <;> simp

theorem plain_any (c : Nat) (w : World) : Calls Tryz.prog 94 #[.int .u8 c] w fun e w' => e = .returned (.bool (plainB c)) ∧ w' = w := by
  go_enter Tryz.func94, Tryz.ntmps94
  by_cases h1 : 32 ≤ c
  · have d1 : decide (32 ≤ c) = true := by simp [h1]
    have d2 : decide ((32 : Int) ≤ c) = true := by simp; omega
    have HR : Hid (plainB c = decide (c ≤ 126)) := by show _ = _; unfold plainB; rw [d1]; rfl
    by_cases h2 : c ≤ 126
    · have d3 : decide (c ≤ 126) = true := by simp [h2]
      have d4 : decide ((c : Int) ≤ 126) = true := by simp; omega
      go_wp2
      go_ret
      refine ⟨?_, rfl⟩
      rw [HR.out, d3]; rfl
    · have d3 : decide (c ≤ 126) = false := by simp; omega
      have d4 : decide ((c : Int) ≤ 126) = false := by simp; omega
      go_wp2
      go_ret
      refine ⟨?_, rfl⟩
      rw [HR.out, d3]; rfl
  · have d1 : decide (32 ≤ c) = false := by simp; omega
    have d2 : decide ((32 : Int) ≤ c) = false := by simp; omega
    have HR : Hid (plainB c = false) := by show _ = _; unfold plainB; rw [d1]; rfl
    go_wp2
    go_ret
    refine ⟨?_, rfl⟩
    rw [HR.out]; rfl
theorem letter_any (c : Nat) (w : World) : Calls Tryz.prog 139 #[.int .u8 c] w fun e w' => e = .returned (.bool (letterB c)) ∧ w' = w := by
  go_enter Tryz.func139, Tryz.ntmps139
  go_wp2
  all_goals
    go_ret
    refine ⟨congrArg (fun b => Ending.returned (Value.bool b)) (?_ : _ = letterB c), rfl⟩
    unfold letterB
    rw [Bool.eq_iff_iff]
    simp only [Bool.or_eq_true, Bool.and_eq_true, decide_eq_true_eq, Bool.false_eq_true, eq_self, true_iff, false_iff]
    omega
end Go.Proofs.YtjlgepahgmkamaaGreatDoor
/- scan: the byte that is written at a text's beginning. -/
namespace Go.Proofs.YtjlgepahgmkamaaGreatDoor
set_option maxRecDepth 100000
set_option linter.unusedSimpArgs false
set_option linter.unusedVariables false
open Go.RowKit

theorem bits_or_hexF : ∀ x y : Fin 16, bits .or .i64 ((x.val : Int) * 16) (y.val : Int) % 256 = 16 * (x.val : Int) + (y.val : Int) := by decide +kernel
theorem bits_or_hex (x y : Nat) (hx : x < 16) (hy : y < 16) : bits .or .i64 ((x : Int) * 16) (y : Int) % 256 = 16 * (x : Int) + (y : Int) := bits_or_hexF ⟨x, hx⟩ ⟨y, hy⟩

def scanD (l : List Nat) : Nat × Nat := match l with
  | _ :: _ :: c :: d :: _ => if digitsL.contains c && digitsL.contains d then (16 * digitsL.idxOf c + digitsL.idxOf d, 4) else (0, 0)
  | _ => (0, 0)
theorem scan_none {l : List Nat} (h : l.length < 4) : scanD l = (0, 0) := by
  match l, h with
  | [], _ => rfl
  | [_], _ => rfl
  | [_, _], _ => rfl
  | [_, _, _], _ => rfl

set_option maxHeartbeats 1000000 in
theorem scanDigits_any (t : ByteArray) (w : World) (ht : t.size ≤ 1000000) : Calls Tryz.prog 138 #[.string t] w fun e w' => e = .returned (.tuple #[.int .u8 (scanD (bytesN t)).1, .int .i64 (scanD (bytesN t)).2]) ∧ Below w.heap.size w w' := by
  by_cases h4 : t.size < 4
  · have d1 : decide ((t.size : Int) < 4) = true := by simp; omega
    have d2 : decide (t.size < 4) = true := by simp [h4]
    rw [scan_none (by rw [bN_len]; exact h4)]
    go_enter Tryz.func138, Tryz.ntmps138
    go_wp2
    exact bodyPost_ret (by simp [results, Tryz.results138, go_sem]) rfl ⟨rfl, Below.refl _ _⟩
  · have d1 : decide ((t.size : Int) < 4) = false := by simp; omega
    have d2 : decide (t.size < 4) = false := by simp; omega
    obtain ⟨a, b, c, d, r, hl⟩ : ∃ a b c d r, bytesN t = a :: b :: c :: d :: r := by
      have hlen := bN_len t
      match hb : bytesN t with
      | [] => rw [hb] at hlen; simp at hlen; omega
      | [_] => rw [hb] at hlen; simp at hlen; omega
      | [_, _] => rw [hb] at hlen; simp at hlen; omega
      | [_, _, _] => rw [hb] at hlen; simp at hlen; omega
      | a :: b :: c :: d :: r => exact ⟨a, b, c, d, r, rfl⟩
    have hc : c < 256 := bN_lt t c (by rw [hl]; simp)
    have hd : d < 256 := bN_lt t d (by rw [hl]; simp)
    have H2 : Hid ((bytesN t)[2]? = some c) := by rw [hl]; rfl
    have H3 : Hid ((bytesN t)[3]? = some d) := by rw [hl]; rfl
    have e0 : bytesN ⟨#[48, 49, 50, 51, 52, 53, 54, 55, 56, 57, 97, 98, 99, 100, 101, 102]⟩ = digitsL := by decide +kernel
    obtain ⟨x, hx⟩ : ∃ x, x = idxI digitsL c := ⟨_, rfl⟩
    obtain ⟨y, hy⟩ : ∃ y, y = idxI digitsL d := ⟨_, rfl⟩
    have HQC : Hid (∀ W, Below w.heap.size w W → Calls Tryz.prog 38 #[.string ⟨#[48, 49, 50, 51, 52, 53, 54, 55, 56, 57, 97, 98, 99, 100, 101, 102]⟩, .int .u8 c] W fun e w' => e = .returned (.int .i64 x) ∧ Below W.heap.size W w') := fun W _ => by
      rw [hx, ← e0]; exact (indexByte_any _ c hc W).mono fun e w' ⟨h1, h2⟩ => ⟨h1, h2 ▸ Below.refl _ _⟩
    have HQD : Hid (∀ W, Below w.heap.size w W → Calls Tryz.prog 38 #[.string ⟨#[48, 49, 50, 51, 52, 53, 54, 55, 56, 57, 97, 98, 99, 100, 101, 102]⟩, .int .u8 d] W fun e w' => e = .returned (.int .i64 y) ∧ Below W.heap.size W w') := fun W _ => by
      rw [hy, ← e0]; exact (indexByte_any _ d hd W).mono fun e w' ⟨h1, h2⟩ => ⟨h1, h2 ▸ Below.refl _ _⟩
    have HS : Hid (scanD (bytesN t) = if digitsL.contains c && digitsL.contains d then (16 * digitsL.idxOf c + digitsL.idxOf d, 4) else (0, 0)) := by rw [hl]; rfl
    have HX := hide hx
    have HY := hide hy
    obtain ⟨u, hu⟩ : ∃ u, u = (scanD (bytesN t)).1 := ⟨_, rfl⟩
    obtain ⟨m, hm⟩ : ∃ m, m = (scanD (bytesN t)).2 := ⟨_, rfl⟩
    rw [← hu, ← hm]
    have HU := hide hu
    have HM := hide hm
    rw [HS.out] at HU HM
    clear hl e0 hx hy hu hm HS
    go_enter Tryz.func138, Tryz.ntmps138
    go_wp2
    have hG : Grows fun W => Below w.heap.size w W := fun W W' h1 h2 => h1.trans (h2.mono h1.size)
    have hqc := HQC.out
    have hqd := HQD.out
    have h2 := H2.out
    have h3 := H3.out
    refine w_lit (C := fun W => Below w.heap.size w W) (by kernel_rfl) (by kernel_rfl) ⟨rfl, rfl, rfl, Nat.le_refl _, fun _ _ => rfl⟩ ?_
    refine w_value (.string t) (by kernel_rfl) (fun w hw => x_move _ _ _ _ _ _ _ _ rfl w) ?_
    simp only [Act.put, List.setIfInBounds_toArray, List.set_cons_succ, List.set_cons_zero]
    refine w_value (.int .u8 c) (by kernel_rfl) (fun w hw => x_strIdx _ _ _ _ _ _ _ _ t 2 c h2 rfl rfl w) ?_
    simp only [Act.put, List.setIfInBounds_toArray, List.set_cons_succ, List.set_cons_zero]
    refine w_call hG 38 #[.string ⟨#[48, 49, 50, 51, 52, 53, 54, 55, 56, 57, 97, 98, 99, 100, 101, 102]⟩, .int .u8 c] (.int .i64 x) (by kernel_rfl) (fun w => x_call2 _ _ _ _ _ _ _ _ _ _ _ _ _ rfl rfl rfl (enters_of Tryz.func38 (by kernel_rfl) rfl) w) (fun w hw => hqc w hw) ?_
    simp only [Act.put, List.setIfInBounds_toArray, List.set_cons_succ, List.set_cons_zero]
    refine w_value (.string t) (by kernel_rfl) (fun w hw => x_move _ _ _ _ _ _ _ _ rfl w) ?_
    simp only [Act.put, List.setIfInBounds_toArray, List.set_cons_succ, List.set_cons_zero]
    refine w_value (.int .u8 d) (by kernel_rfl) (fun w hw => x_strIdx _ _ _ _ _ _ _ _ t 3 d h3 rfl rfl w) ?_
    simp only [Act.put, List.setIfInBounds_toArray, List.set_cons_succ, List.set_cons_zero]
    refine w_call hG 38 #[.string ⟨#[48, 49, 50, 51, 52, 53, 54, 55, 56, 57, 97, 98, 99, 100, 101, 102]⟩, .int .u8 d] (.int .i64 y) (by kernel_rfl) (fun w => x_call2 _ _ _ _ _ _ _ _ _ _ _ _ _ rfl rfl rfl (enters_of Tryz.func38 (by kernel_rfl) rfl) w) (fun w hw => hqd w hw) ?_
    simp only [Act.put, List.setIfInBounds_toArray, List.set_cons_succ, List.set_cons_zero]
    refine w_value (.int .i64 x) (by kernel_rfl) (fun w hw => x_assign _ _ _ _ _ _ _ _ rfl w) ?_
    simp only [Act.put, List.setIfInBounds_toArray, List.set_cons_succ, List.set_cons_zero]
    refine w_value (.int .i64 y) (by kernel_rfl) (fun w hw => x_assign _ _ _ _ _ _ _ _ rfl w) ?_
    simp only [Act.put, List.setIfInBounds_toArray, List.set_cons_succ, List.set_cons_zero]
    refine w_nil ?_
    intro W hW
    have HBX := hide hW
    clear hW hG hqc hqd h2 h3 HQC HQD
    have len16 : ∀ z, digitsL.contains z = true → digitsL.idxOf z < 16 := fun z hz => by
      have := List.idxOf_lt_length_of_mem (List.contains_iff_mem.1 hz)
      exact this
    cases k1 : digitsL.contains c with
    | false =>
      have ex : x = -1 := by rw [HX.out]; unfold idxI; rw [k1]; rfl
      clear HX
      subst ex
      have HU : Hid (u = 0) := by show _ = _; rw [HU.out, k1]; rfl
      have HM : Hid (m = 0) := by show _ = _; rw [HM.out, k1]; rfl
      clear k1 len16
      go_wp2
      refine bodyPost_ret (v := .tuple #[.int .u8 (0 : Nat), .int .i64 (0 : Nat)]) (by simp [results, Tryz.results138, go_sem]) rfl ⟨?_, HBX.out⟩
      rw [HU.out, HM.out]
    | true =>
      obtain ⟨x', hx'⟩ : ∃ x', x' = digitsL.idxOf c := ⟨_, rfl⟩
      have hx16 : x' < 16 := by rw [hx']; exact len16 c k1
      have ex : x = (x' : Int) := by rw [HX.out, hx']; unfold idxI; rw [k1]; rfl
      clear HX
      subst ex
      have dx : decide ((x' : Int) < 0) = false := by simp
      cases k2 : digitsL.contains d with
      | false =>
        have ey : y = -1 := by rw [HY.out]; unfold idxI; rw [k2]; rfl
        clear HY
        subst ey
        have HU : Hid (u = 0) := by show _ = _; rw [HU.out, k1, k2]; rfl
        have HM : Hid (m = 0) := by show _ = _; rw [HM.out, k1, k2]; rfl
        clear k1 k2 len16 hx'
        go_wp2
        refine bodyPost_ret (v := .tuple #[.int .u8 (0 : Nat), .int .i64 (0 : Nat)]) (by simp [results, Tryz.results138, go_sem]) rfl ⟨?_, HBX.out⟩
        rw [HU.out, HM.out]
      | true =>
        obtain ⟨y', hy'⟩ : ∃ y', y' = digitsL.idxOf d := ⟨_, rfl⟩
        have hy16 : y' < 16 := by rw [hy']; exact len16 d k2
        have ey : y = (y' : Int) := by rw [HY.out, hy']; unfold idxI; rw [k2]; rfl
        clear HY
        subst ey
        have dy : decide ((y' : Int) < 0) = false := by simp
        have hbits := bits_or_hex x' y' hx16 hy16
        have HU : Hid (u = 16 * x' + y') := by show _ = _; rw [HU.out, k1, k2, hx', hy']; rfl
        have HM : Hid (m = 4) := by show _ = _; rw [HM.out, k1, k2]; rfl
        clear hx' hy' len16 H2 H3 k1 k2
        go_wp2
        refine bodyPost_ret (v := .tuple #[.int .u8 ((16 * x' + y' : Nat) : Int), .int .i64 (4 : Nat)]) (by simp [results, Tryz.results138, go_sem, hbits]) rfl ⟨?_, HBX.out⟩
        rw [HU.out, HM.out]

def scanM (l : List Nat) : Nat × Nat := match l with
  | _ :: b :: _ => if b = 110 then (10, 2) else if b = 116 then (9, 2) else if b = 120 then scanD l else if !plainB b || letterB b then (0, 0) else (b, 2)
  | _ => (0, 0)
theorem scan_marked (r : List Nat) : scanN (92 :: r) = scanM (92 :: r) := by
  match r with
  | [] => rfl
  | [b] => rfl
  | [b, c] => rfl
  | b :: c :: d :: _ => rfl
set_option maxHeartbeats 1000000 in
theorem scanMarked_any (t : ByteArray) (w : World) (ht : t.size ≤ 1000000) : Calls Tryz.prog 137 #[.string t] w fun e w' => e = .returned (.tuple #[.int .u8 (scanM (bytesN t)).1, .int .i64 (scanM (bytesN t)).2]) ∧ Below w.heap.size w w' := by
  obtain ⟨u, hu⟩ : ∃ u, u = (scanM (bytesN t)).1 := ⟨_, rfl⟩
  obtain ⟨m, hm⟩ : ∃ m, m = (scanM (bytesN t)).2 := ⟨_, rfl⟩
  rw [← hu, ← hm]
  have HU := hide hu
  have HM := hide hm
  clear hu hm
  by_cases h2 : t.size < 2
  · have d1 : decide ((t.size : Int) < 2) = true := by simp; omega
    have d2 : decide (t.size < 2) = true := by simp [h2]
    have HS : Hid (scanM (bytesN t) = (0, 0)) := by
      have hlen := bN_len t
      show _ = _
      match hb : bytesN t with
      | [] => rfl
      | [_] => rfl
      | _ :: _ :: _ => rw [hb] at hlen; simp at hlen; omega
    go_enter Tryz.func137, Tryz.ntmps137
    go_wp2
    refine bodyPost_ret (v := .tuple #[.int .u8 (0 : Nat), .int .i64 (0 : Nat)]) (by simp [results, Tryz.results137, go_sem]) rfl ⟨?_, Below.refl _ _⟩
    rw [HU.out, HM.out, HS.out]
  · have d1 : decide ((t.size : Int) < 2) = false := by simp; omega
    have d2 : decide (t.size < 2) = false := by simp; omega
    obtain ⟨a, b, r, hl⟩ : ∃ a b r, bytesN t = a :: b :: r := by
      have hlen := bN_len t
      match hb : bytesN t with
      | [] => rw [hb] at hlen; simp at hlen; omega
      | [_] => rw [hb] at hlen; simp at hlen; omega
      | a :: b :: r => exact ⟨a, b, r, rfl⟩
    have hb : b < 256 := bN_lt t b (by rw [hl]; simp)
    have HS : Hid (scanM (bytesN t) = if b = 110 then (10, 2) else if b = 116 then (9, 2) else if b = 120 then scanD (bytesN t) else if !plainB b || letterB b then (0, 0) else (b, 2)) := by rw [hl]; rfl
    obtain ⟨h1, e1⟩ := bN_at t 1 b (by rw [hl]; rfl)
    have HPL := hide (plain_any b w)
    have HLE := hide (letter_any b w)
    have HSD := hide (scanDigits_any t w ht)
    clear hl
    go_enter Tryz.func137, Tryz.ntmps137
    by_cases c1 : b = 110
    · have k1 : ((b : Int) == 110) = true := by simp; omega
      have HV : Hid (scanM (bytesN t) = (10, 2)) := by show _ = _; rw [HS.out, if_pos c1]
      clear c1 HPL HLE HSD HS
      go_wp2
      refine bodyPost_ret (v := .tuple #[.int .u8 (10 : Nat), .int .i64 (2 : Nat)]) (by simp [results, Tryz.results137, go_sem]) rfl ⟨?_, Below.refl _ _⟩
      rw [HU.out, HM.out, HV.out]
    have k1 : ((b : Int) == 110) = false := beq_eq_false_iff_ne.2 (by omega)
    by_cases c2 : b = 116
    · have k2 : ((b : Int) == 116) = true := by simp; omega
      have HV : Hid (scanM (bytesN t) = (9, 2)) := by show _ = _; rw [HS.out, if_neg c1, if_pos c2]
      clear c1 c2 HPL HLE HSD HS
      go_wp2
      refine bodyPost_ret (v := .tuple #[.int .u8 (9 : Nat), .int .i64 (2 : Nat)]) (by simp [results, Tryz.results137, go_sem]) rfl ⟨?_, Below.refl _ _⟩
      rw [HU.out, HM.out, HV.out]
    have k2 : ((b : Int) == 116) = false := beq_eq_false_iff_ne.2 (by omega)
    by_cases c3 : b = 120
    · have k3 : ((b : Int) == 120) = true := by simp; omega
      have HV : Hid (scanM (bytesN t) = scanD (bytesN t)) := by show _ = _; rw [HS.out, if_neg c1, if_neg c2, if_pos c3]
      obtain ⟨p, hp⟩ : ∃ p, p = (scanD (bytesN t)).1 := ⟨_, rfl⟩
      obtain ⟨q, hq⟩ : ∃ q, q = (scanD (bytesN t)).2 := ⟨_, rfl⟩
      rw [← hp, ← hq] at HSD
      have HP := hide hp
      have HQ := hide hq
      clear c1 c2 c3 HPL HLE HS hp hq
      go_wp2_with fail
      refine HSD.out.mono ?_
      rintro e w1 ⟨rfl, hb1⟩
      have HB1 := hide hb1
      clear hb1 HSD
      go_wp2
      refine bodyPost_ret (v := .tuple #[.int .u8 p, .int .i64 q]) (by simp [results, Tryz.results137, go_sem]) rfl ⟨?_, HB1.out⟩
      rw [HU.out, HM.out, HV.out, HP.out, HQ.out]
    have k3 : ((b : Int) == 120) = false := beq_eq_false_iff_ne.2 (by omega)
    have HV : Hid (scanM (bytesN t) = if !plainB b || letterB b then (0, 0) else (b, 2)) := by show _ = _; rw [HS.out, if_neg c1, if_neg c2, if_neg c3]
    obtain ⟨p, hp⟩ : ∃ p, p = plainB b := ⟨_, rfl⟩
    obtain ⟨q, hq⟩ : ∃ q, q = letterB b := ⟨_, rfl⟩
    rw [← hp] at HPL
    rw [← hq] at HLE
    rw [← hp, ← hq] at HV
    clear c1 c2 c3 HS hp hq HSD
    go_wp2_with fail
    refine HPL.out.mono ?_
    rintro e w1 ⟨rfl, rfl⟩
    cases p
    · go_wp2
      refine bodyPost_ret (v := .tuple #[.int .u8 (0 : Nat), .int .i64 (0 : Nat)]) (by simp [results, Tryz.results137, go_sem]) rfl ⟨?_, Below.refl _ _⟩
      rw [HU.out, HM.out, HV.out]; rfl
    · go_wp2_with fail
      refine HLE.out.mono ?_
      rintro e w1 ⟨rfl, rfl⟩
      cases q
      · go_wp2
        refine bodyPost_ret (v := .tuple #[.int .u8 b, .int .i64 (2 : Nat)]) (by simp [results, Tryz.results137, go_sem]) rfl ⟨?_, Below.refl _ _⟩
        rw [HU.out, HM.out, HV.out]; rfl
      · go_wp2
        refine bodyPost_ret (v := .tuple #[.int .u8 (0 : Nat), .int .i64 (0 : Nat)]) (by simp [results, Tryz.results137, go_sem]) rfl ⟨?_, Below.refl _ _⟩
        rw [HU.out, HM.out, HV.out]; rfl
set_option maxHeartbeats 1000000 in
theorem scan_any (t : ByteArray) (w : World) (ht : t.size ≤ 1000000) : Calls Tryz.prog 136 #[.string t] w fun e w' => e = .returned (.tuple #[.int .u8 (scanN (bytesN t)).1, .int .i64 (scanN (bytesN t)).2]) ∧ Below w.heap.size w w' := by
  obtain ⟨u, hu⟩ : ∃ u, u = (scanN (bytesN t)).1 := ⟨_, rfl⟩
  obtain ⟨m, hm⟩ : ∃ m, m = (scanN (bytesN t)).2 := ⟨_, rfl⟩
  rw [← hu, ← hm]
  have HU := hide hu
  have HM := hide hm
  clear hu hm
  have etl : ∀ b : Bool, t.data.toList.isEmpty = b → t.toList.isEmpty = b := fun b h => by rw [ByteArray.toList_eq]; exact h
  match hl : bytesN t with
  | [] =>
    have hemp : t.toList.isEmpty = true := etl true (by
      cases h : t.data.toList with
      | nil => rfl
      | cons x l => unfold bytesN at hl; rw [h] at hl; simp at hl)
    have HV : Hid (scanN (bytesN t) = (0, 0)) := by rw [hl]; rfl
    clear hl etl
    go_enter Tryz.func136, Tryz.ntmps136
    go_wp2
    refine bodyPost_ret (v := .tuple #[.int .u8 (0 : Nat), .int .i64 (0 : Nat)]) (by simp [results, Tryz.results136, go_sem]) rfl ⟨?_, Below.refl _ _⟩
    rw [HU.out, HM.out, HV.out]
  | a :: r =>
    have hemp : t.toList.isEmpty = false := etl false (by
      cases h : t.data.toList with
      | nil => unfold bytesN at hl; rw [h] at hl; simp at hl
      | cons x l => rfl)
    have ha : a < 256 := bN_lt t a (by rw [hl]; simp)
    obtain ⟨h0, e0⟩ := bN_at t 0 a (by rw [hl]; rfl)
    have HPL := hide (plain_any a w)
    have esg : bytesN ⟨#[32, 40, 41, 91, 93, 124, 38, 45, 42, 43, 63, 46, 92]⟩ = signsL := by decide +kernel
    have hix := indexByte_any ⟨#[32, 40, 41, 91, 93, 124, 38, 45, 42, 43, 63, 46, 92]⟩ a ha w
    rw [esg] at hix
    have HSM := hide (scanMarked_any t w ht)
    by_cases c1 : a = 92
    · have k1 : ((a : Int) == 92) = true := by simp; omega
      have HV : Hid (scanN (bytesN t) = scanM (bytesN t)) := by rw [hl, c1]; exact scan_marked r
      obtain ⟨p, hp⟩ : ∃ p, p = (scanM (bytesN t)).1 := ⟨_, rfl⟩
      obtain ⟨q, hq⟩ : ∃ q, q = (scanM (bytesN t)).2 := ⟨_, rfl⟩
      rw [← hp, ← hq] at HSM
      have HP := hide hp
      have HQ := hide hq
      clear c1 HPL hix hl etl hp hq esg
      go_enter Tryz.func136, Tryz.ntmps136
      go_wp2_with fail
      refine HSM.out.mono ?_
      rintro e w1 ⟨rfl, hb1⟩
      have HB1 := hide hb1
      clear hb1 HSM
      go_wp2
      refine bodyPost_ret (v := .tuple #[.int .u8 p, .int .i64 q]) (by simp [results, Tryz.results136, go_sem]) rfl ⟨?_, HB1.out⟩
      rw [HU.out, HM.out, HV.out, HP.out, HQ.out]
    · have k1 : ((a : Int) == 92) = false := beq_eq_false_iff_ne.2 (by omega)
      have HV : Hid (scanN (bytesN t) = if !plainB a || signsL.contains a then (0, 0) else (a, 1)) := by
        rw [hl]
        show (if a = 92 then _ else _) = _
        rw [if_neg c1]
      obtain ⟨p, hp⟩ : ∃ p, p = plainB a := ⟨_, rfl⟩
      obtain ⟨q, hq⟩ : ∃ q, q = signsL.contains a := ⟨_, rfl⟩
      obtain ⟨z, hz⟩ : ∃ z, z = idxI signsL a := ⟨_, rfl⟩
      have hzq : decide (0 ≤ z) = q := by rw [hz, hq]; exact idxI_pos _ _
      rw [← hz] at hix
      rw [← hp] at HPL
      rw [← hp, ← hq] at HV
      have HIX := hide hix
      clear c1 hl etl hp hq HSM hix hz esg
      go_enter Tryz.func136, Tryz.ntmps136
      go_wp2_with fail
      refine HPL.out.mono ?_
      rintro e w1 ⟨rfl, rfl⟩
      cases p
      · go_wp2
        refine bodyPost_ret (v := .tuple #[.int .u8 (0 : Nat), .int .i64 (0 : Nat)]) (by simp [results, Tryz.results136, go_sem]) rfl ⟨?_, Below.refl _ _⟩
        rw [HU.out, HM.out, HV.out]; rfl
      · go_wp2_with fail
        refine HIX.out.mono ?_
        rintro e w1 ⟨rfl, rfl⟩
        cases q
        · go_wp2
          refine bodyPost_ret (v := .tuple #[.int .u8 a, .int .i64 (1 : Nat)]) (by simp [results, Tryz.results136, go_sem]) rfl ⟨?_, Below.refl _ _⟩
          rw [HU.out, HM.out, HV.out]; rfl
        · go_wp2
          refine bodyPost_ret (v := .tuple #[.int .u8 (0 : Nat), .int .i64 (0 : Nat)]) (by simp [results, Tryz.results136, go_sem]) rfl ⟨?_, Below.refl _ _⟩
          rw [HU.out, HM.out, HV.out]; rfl
end Go.Proofs.YtjlgepahgmkamaaGreatDoor
/- Writing: rows of bytes that grow; appendByte. -/
namespace Go.Proofs.YtjlgepahgmkamaaGreatDoor
set_option maxRecDepth 100000
set_option linter.unusedSimpArgs false
set_option linter.unusedVariables false
open Go.RowKit Go.Shelf

def othersL : List Nat := [94, 47, 34, 35]
/-- A byte as it is written. -/
def byteW (b : Nat) : List Nat :=
  if b = 10 then [92, 110] else if b = 9 then [92, 116] else if plainB b = false then [92, 120, digitsL.getD (b / 16) 0, digitsL.getD (b % 16) 0] else if (signsL ++ othersL).contains b then [92, b] else [b]

/-- From (w, v) to (w', v'): nothing old turned but v's own row. -/
structure GB (w w' : World) (v v' : Value) : Prop where
  grown : w.grownBy w' v.ownBlock
  own : v'.ownBlock = v.ownBlock ∨ ∃ g, v'.ownBlock = some g ∧ w.heap.size ≤ g
  drawn : w.drawn ≤ w'.drawn
theorem GB.refl (w : World) (v : Value) : GB w w v v := ⟨⟨rfl, rfl, rfl, Nat.le_refl _, fun _ _ _ => rfl⟩, .inl rfl, Nat.le_refl _⟩
theorem GB.trans {w w1 w2 : World} {v v1 v2 : Value} (h : GB w w1 v v1) (k : GB w1 w2 v1 v2) : GB w w2 v v2 := by
  refine ⟨⟨k.grown.os.trans h.grown.os, k.grown.tape.trans h.grown.tape, k.grown.output.trans h.grown.output, Nat.le_trans h.grown.size k.grown.size, fun i hi hn => ?_⟩, ?_, Nat.le_trans h.drawn k.drawn⟩
  · have hs := h.grown.size
    rw [k.grown.block i (by omega) ?_, h.grown.block i hi hn]
    intro e
    rcases h.own with h1 | ⟨g, h1, h2⟩
    · exact hn (e.trans h1)
    · rw [h1] at e; injection e; omega
  · have hs := h.grown.size
    rcases k.own with h1 | ⟨g, h1, h2⟩
    · rcases h.own with h3 | ⟨g, h3, h4⟩
      · exact .inl (h1.trans h3)
      · exact .inr ⟨g, h1.trans h3, h4⟩
    · exact .inr ⟨g, h1, by omega⟩
/-- What was written since (w, v): l. -/
structure AW (w : World) (base : Nat) (v : Value) (n : Nat) (xs : List Value) (l : List Nat) (V : Value) (W : World) : Prop where
  own : OwnU W base V (n + l.length) (xs ++ byteV l)
  gb : GB w W v V
  base : base ≤ W.heap.size
theorem AW.start {w : World} {base n : Nat} {v : Value} {xs : List Value} (h : OwnU w base v n xs) (hb : base ≤ w.heap.size) : AW w base v n xs [] v w := ⟨by simpa [byteV] using h, GB.refl _ _, hb⟩
theorem AW.step {w W W' : World} {base n : Nat} {v V : Value} {xs : List Value} {l : List Nat} (h : AW w base v n xs l V W) (hb : Below W.heap.size W W') (hd : W.drawn ≤ W'.drawn) : AW w base v n xs l V W' :=
  ⟨h.own.keep fun g hg => hb.block g (h.own.own_lt hg).2, h.gb.trans ⟨⟨hb.os, hb.tape, hb.output, hb.size, fun k hk _ => hb.block k hk⟩, .inl rfl, hd⟩, Nat.le_trans h.base hb.size⟩
theorem AW.slice {w W : World} {base n : Nat} {v V : Value} {xs : List Value} {l : List Nat} (h : AW w base v n xs l V W) : ∃ a c, V = .slice a (n + l.length) c := h.own.slice
/-- What another call wrote behind it. -/
theorem AW.more {w W W' : World} {base n : Nat} {v V V' : Value} {xs : List Value} {l m : List Nat} (h : AW w base v n xs l V W) (k : AW W base V (n + l.length) (xs ++ byteV l) m V' W') : AW w base v n xs (l ++ m) V' W' := by
  refine ⟨?_, h.gb.trans k.gb, k.base⟩
  have := k.own
  rw [byteV_append, List.length_append, ← List.append_assoc, ← Nat.add_assoc]
  exact this
theorem AW.app {w W : World} {base n : Nat} {v V : Value} {xs : List Value} {l : List Nat} (h : AW w base v n xs l V W) (ty : TypeId) (g : Nat) (c : Array Value) (m : List Nat) (hg : Blk W g (byteV m).toArray 5) (hm : 0 < m.length) (hl : n + l.length + m.length ≤ 140737488355328) :
    ∃ V' W', (Builtin.append_ #[71, 71] ty #[V, .slice (some ⟨g, 0, none⟩) m.length m.length]).run Tryz.prog W = .ok V' W' ∧ AW w base v n xs (l ++ m) V' W' := by
  obtain ⟨v', w', hr, ho, hg', hob, hd⟩ := run_appendU W ty base V _ _ h.own ⟨g, 0, none⟩ m.length m.length (byteV m) (by simp [byteV]) (fun j u hu => by
      rw [Go.WideShapes.add_plain, Nat.zero_add, hg.cell]; simpa using hu) (by intro u hu; simp [byteV] at hu; obtain ⟨x, -, rfl⟩ := hu; rfl) hm hl h.base
  refine ⟨v', w', hr, ?_, h.gb.trans ⟨hg', ?_, hd⟩, Nat.le_trans h.base hg'.size⟩
  · rw [byteV_append, List.length_append, ← List.append_assoc, ← Nat.add_assoc]; exact ho
  · rcases hob with e | e
    · exact .inl e
    · exact .inr ⟨_, e, Nat.le_refl _⟩
theorem strCells_byteV (s : ByteArray) : Lib.strCells s = byteV (bytesN s) := by simp [Lib.strCells, byteV, bytesN]
/-- append of a text's bytes. -/
theorem run_appendS (w : World) (ty : TypeId) (base : Nat) (v : Value) (n : Nat) (xs : List Value) (hown : OwnU w base v n xs) (s : ByteArray) (hm : 0 < s.size) (hbytes : n + s.size ≤ 140737488355328) (hbase : base ≤ w.heap.size) :
    ∃ v' w', (Builtin.append_ #[71, 9] ty #[v, .string s]).run Tryz.prog w = .ok v' w' ∧ OwnU w' base v' (n + s.size) (xs ++ byteV (bytesN s)) ∧ GB w w' v v' := by
  obtain ⟨i, hi, hz0, hz1, hz2⟩ := info_parts infoU8
  have hbl : (byteV (bytesN s)).length = s.size := by simp [byteV, bN_len]
  have hlen : (xs ++ byteV (bytesN s)).length = n + s.size := by rw [List.length_append, hown.1, hbl]
  have hml : n + s.size ≤ maxLen := by unfold maxLen; omega
  have grown : ∀ old, OwnU (w.drew.alloc (.cells (xs.toArray ++ (byteV (bytesN s)).toArray ++ Builtin.zeroCells (Value.int .u8 0).cells (grownCap w (n + s.size) old 5 - (n + s.size))) 5)) base
        (.slice (some ⟨w.heap.size, 0, none⟩) (n + s.size) (grownCap w (n + s.size) old 5)) (n + s.size) (xs ++ byteV (bytesN s)) := by
    intro old
    have hge := grownCap_ge w (n + s.size) old 5
    have hcm : grownCap w (n + s.size) old 5 ≤ maxLen := grownCap_le_maxLen w (n + s.size) old _ hml
    refine ⟨hlen, .inr ⟨w.heap.size, _, _, _, rfl, hbase, heap_alloc_new w.drew _, hge, hcm, ?_, ?_⟩⟩
    · simp only [Array.size_append, List.size_toArray, size_zeroCells, hown.1, hbl]
      simp [Value.cells]; omega
    · simp only [Array.toList_append, List.append_assoc]
      rw [← List.append_assoc, ← hlen]
      exact List.take_left
  have gb : ∀ o u, GB w (w.drew.alloc o) v (.slice (some ⟨w.heap.size, 0, none⟩) (n + s.size) u) := fun o u => ⟨⟨rfl, rfl, rfl, by simp, fun k hk _ => heap_alloc_old w.drew _ hk⟩, .inr ⟨_, rfl, Nat.le_refl _⟩, Nat.le_succ _⟩
  have esc := strCells_byteV s
  rcases hown.2 with ⟨rfl, rfl⟩ | ⟨g, cap, cur, t, rfl, hbg, hg, hnc, hcm, hcs, htake⟩
  · have hx : xs = [] := List.eq_nil_of_length_eq_zero (by simpa using hown.1)
    subst hx
    have hr := run_append_nil_string (P := Tryz.prog) w 71 9 ty 5 i (.int .u8 0) Tryz.underlying71 Tryz.underlying9 hi hz0 s hm (by omega) (by rw [hz2]; omega)
    have e1 : (s.data.map fun b => Value.int .u8 b.toNat) = (byteV (bytesN s)).toArray := by
      rw [← esc]; apply Array.ext'; simp [Lib.strCells]
    rw [e1] at hr
    have hgr := grown 0
    have hgb := gb (.cells ((byteV (bytesN s)).toArray ++ Builtin.zeroCells (Value.int .u8 0).cells (grownCap w s.size 0 5 - s.size)) 5) (grownCap w s.size 0 5)
    simp only [Nat.zero_add, List.nil_append, Array.empty_append] at hgr hgb ⊢
    exact ⟨_, _, hr, hgr, hgb⟩
  · by_cases hroom : n + s.size ≤ cap
    · have hf := Lib.run_firstCells_string (P := Tryz.prog) w i.size s
      have hst := run_storeCells_at Tryz.prog g (n * i.size) t (Lib.strCells s) 0 cur w hg (by rw [hz1]; simpa [Lib.strCells_length, hcs] using hroom) (Lib.strCells_oneCell s)
      simp only [Nat.add_zero] at hst
      have hr : (Builtin.append_ #[71, 9] ty #[.slice (some ⟨g, 0, none⟩) n cap, .string s]).run Tryz.prog w = .ok (.slice (some ⟨g, 0, none⟩) (n + s.size) cap) (w.setRow g (cur.toList.take (n * i.size) ++ Lib.strCells s ++ cur.toList.drop (n * i.size + (Lib.strCells s).length)).toArray) := by
        simp [Builtin.append_, run_underlying Tryz.underlying71, run_underlying Tryz.underlying9, sizeOf, typeInfo, hi, Builtin.lenOf, hroom, hf, Addr.add_lit, hst]
      refine ⟨_, _, hr, ⟨hlen, .inr ⟨g, cap, _, t, rfl, hbg, setRow_heap w g cur _ t _ hg, hroom, hcm, ?_, ?_⟩⟩, ⟨⟨rfl, rfl, rfl, by simp, fun k _ hk => setRow_other w g k _ (fun e => hk (by simp [Value.ownBlock, e]))⟩, .inl rfl, Nat.le_refl _⟩⟩
      · simp only [List.size_toArray, List.length_append, List.length_take, List.length_drop, Array.length_toList, hz1, Lib.strCells_length]
        omega
      · rw [hz1, Nat.mul_one, htake, esc, ← hlen]
        exact List.take_left
    · have holds : ∀ j u, xs[j]? = some u → w.cell? ((⟨g, 0, none⟩ : Addr).add j) = some u := fun j u hu => by
        rw [Go.WideShapes.add_plain, Nat.zero_add]; exact hown.cells j u hu
      have hr := Lib.run_append_grow_string (P := Tryz.prog) w 71 9 ty 5 i (.int .u8 0) Tryz.underlying71 Tryz.underlying9 hi hz0 ⟨g, 0, none⟩ n cap xs (by rw [hz1, hown.1]; omega) holds s (by omega) (by omega) (by rw [hz2]; exact growslice_fits (by omega) (by omega))
      rw [esc] at hr
      exact ⟨_, _, hr, grown cap, gb _ _⟩
theorem AW.appS {w W : World} {base n : Nat} {v V : Value} {xs : List Value} {l : List Nat} (h : AW w base v n xs l V W) (ty : TypeId) (s : ByteArray) (m : List Nat) (hm : bytesN s = m) (h0 : 0 < m.length) (hl : n + l.length + m.length ≤ 140737488355328) :
    ∃ V' W', (Builtin.append_ #[71, 9] ty #[V, .string s]).run Tryz.prog W = .ok V' W' ∧ AW w base v n xs (l ++ m) V' W' := by
  have hsz : s.size = m.length := by rw [← hm, bN_len]
  obtain ⟨v', w', hr, ho, hgb⟩ := run_appendS W ty base V _ _ h.own s (by omega) (by omega) h.base
  refine ⟨v', w', hr, ?_, h.gb.trans hgb, Nat.le_trans h.base hgb.grown.size⟩
  rw [byteV_append, List.length_append, ← List.append_assoc, ← Nat.add_assoc, ← hsz, ← hm]; exact ho

theorem wpList_appendS_run {w w' : World} {ops : Array Oper} {rest : List Oper} {o : Oper} {a : Act} {Q : Exit → Act → World → Prop} (hg : o.guard = none) (s x : Operand) (t u : TypeId)
    (hop : o.op = Op.call { callee := Callee.builtin Builtin.append, args := #[s, x], argTypes := #[t, u] }) (v y v' : Value) (hs : a.eval s = v) (hx : a.eval x = y)
    (hrun : (Builtin.append_ #[t, u] o.type #[v, y]).run Tryz.prog w = .ok v' w') (hK : wpList Tryz.prog ops Q rest (a.put o.dst v') w') : wpList Tryz.prog ops Q (o :: rest) a w := by
  refine wpList_plain hg fun K hK' => ?_
  unfold Oper.wp execOp
  simp only [hop, resolve, invoke, builtin, Sem.run_bind, Sem.run_pure, Result.andThen_ok, List.map_toArray, List.map_cons, List.map_nil, hs, hx, hrun]
  exact hK' _ _ hK
theorem wp_append_known {o : Oper} {a : Act} {w w' : World} {K : Act → World → Prop} {Q : Exit → Act → World → Prop} (s x : Operand) (t : Array TypeId)
    (hop : o.op = Op.call { callee := Callee.builtin Builtin.append, args := #[s, x], argTypes := t }) (v y v' : Value) (hs : a.eval s = v) (hx : a.eval x = y)
    (hrun : (Builtin.append_ t o.type #[v, y]).run Tryz.prog w = .ok v' w') (hK : K (a.put o.dst v') w') : o.wp Tryz.prog a w K Q := by
  unfold Oper.wp execOp
  simp only [hop, resolve, invoke, builtin, Sem.run_bind, Sem.run_pure, Result.andThen_ok, List.map_toArray, List.map_cons, List.map_nil, hs, hx, hrun]
  exact hK
theorem u8_and15F : ∀ c : Fin 256, bits .and .u8 (c.val : Int) 15 = ((c.val % 16 : Nat) : Int) := by decide +kernel
theorem x_and15 (ρ : Operand → Value) (d : Option Tmp) (x : Operand) (t : TypeId) (pos : String) (af : Array Edge) (g : Option (Nat × Bool)) (c : Nat) (hc : c < 256) (hx : ρ x = .int .u8 c) (hy : ρ (.const (.int .u8 15)) = .int .u8 15) (w : World) :
    (execOp ρ { dst := d, op := .binOp .and 5 x (.const (.int .u8 15)) 5, type := t, pos := pos, after := af, guard := g }).run Tryz.prog w = .ok (.value (.int .u8 ((c % 16 : Nat) : Int))) w := by
  have e : bits .and .u8 (c : Int) 15 = ((c % 16 : Nat) : Int) := u8_and15F ⟨c, hc⟩
  simp [go_sem, hx, hy, e]
theorem x_shr4 (ρ : Operand → Value) (d : Option Tmp) (x : Operand) (t : TypeId) (pos : String) (af : Array Edge) (g : Option (Nat × Bool)) (c : Nat) (hc : c < 256) (hx : ρ x = .int .u8 c) (hy : ρ (.const (.int .u64 4)) = .int .u64 4) (w : World) :
    (execOp ρ { dst := d, op := .binOp .shr 5 x (.const (.int .u64 4)) 45, type := t, pos := pos, after := af, guard := g }).run Tryz.prog w = .ok (.value (.int .u8 ((c / 16 : Nat) : Int))) w := by
  simp [go_sem, hx, hy]
theorem x_build4 (ρ : Operand → Value) (d : Option Tmp) (x y : Operand) (t : TypeId) (pos : String) (af : Array Edge) (g : Option (Nat × Bool)) (u v : Nat) (h1 : ρ (.const (.int .u8 92)) = .int .u8 92) (h2 : ρ (.const (.int .u8 120)) = .int .u8 120) (hx : ρ x = .int .u8 u) (hy : ρ y = .int .u8 v) (w : World) :
    (execOp ρ { dst := d, op := .buildSlice 71 4 #[(0, .const (.int .u8 92)), (1, .const (.int .u8 120)), (2, x), (3, y)], type := t, pos := pos, after := af, guard := g }).run Tryz.prog w = .ok (.value (.slice (some ⟨w.heap.size, 0, none⟩) 4 4)) (w.alloc (.cells #[.int .u8 92, .int .u8 120, .int .u8 u, .int .u8 v] 5)) := by
  simp [go_sem, h1, h2, hx, hy]
end Go.Proofs.YtjlgepahgmkamaaGreatDoor
/- appendByte, hold, need, opOf. -/
namespace Go.Proofs.YtjlgepahgmkamaaGreatDoor
set_option maxRecDepth 100000
set_option linter.unusedSimpArgs false
set_option linter.unusedVariables false
open Go.RowKit Go.Shelf

theorem x_strIdx8 (ρ : Operand → Value) (d : Option Tmp) (x y : Operand) (ty : TypeId) (pos : String) (af : Array Edge) (g : Option (Nat × Bool)) (t : ByteArray) (i c : Nat) (hc : (bytesN t)[i]? = some c) (hx : ρ x = .string t) (hy : ρ y = .int .u8 i) (w : World) :
    (execOp ρ { dst := d, op := .index 9 x y, type := ty, pos := pos, after := af, guard := g }).run Tryz.prog w = .ok (.value (.int .u8 c)) w := by
  obtain ⟨h, e⟩ := bN_at t i c hc
  simp [go_sem, hx, hy, h, ← e]
theorem byteW_len (c : Nat) : 1 ≤ (byteW c).length ∧ (byteW c).length ≤ 4 := by
  unfold byteW
  repeat' split
  all_goals simp
set_option maxHeartbeats 1000000 in
theorem appendByte_any (c : Nat) (hc : c < 256) (v : Value) (n base : Nat) (xs : List Value) (w : World) (hO : OwnU w base v n xs) (hb : base ≤ w.heap.size) (hn : n ≤ 1099511627776) :
    Calls Tryz.prog 73 #[v, .int .u8 c] w fun e w' => ∃ V, e = .returned V ∧ AW w base v n xs (byteW c) V w' := by
  obtain ⟨a0, cp0, rfl⟩ := hO.slice
  have hst := AW.start hO hb
  obtain ⟨L, hL⟩ : ∃ L, L = byteW c := ⟨_, rfl⟩
  rw [← hL]
  have HL := hide hL
  clear hL
  go_enter Tryz.func73, Tryz.ntmps73
  by_cases c1 : c = 10
  · have k1 : ((c : Int) == 10) = true := by simp; omega
    obtain ⟨V, W, hr, hA⟩ := hst.appS 71 ⟨#[92, 110]⟩ [92, 110] (by decide +kernel) (by simp) (by simp; omega)
    have HA := hide hA
    have HE : Hid (L = [] ++ [92, 110]) := by show _ = _; rw [HL.out]; unfold byteW; rw [if_pos c1]; rfl
    obtain ⟨a1, cp1, rfl⟩ := hA.slice
    clear hA hst c1 hO
    go_wp2_with (refine wpList_appendS_run rfl _ _ _ _ rfl _ _ _ rfl rfl hr ?_)
    go_ret
    exact ⟨_, rfl, by rw [HE.out]; exact HA.out⟩
  have k1 : ((c : Int) == 10) = false := beq_eq_false_iff_ne.2 (by omega)
  by_cases c2 : c = 9
  · have k2 : ((c : Int) == 9) = true := by simp; omega
    obtain ⟨V, W, hr, hA⟩ := hst.appS 71 ⟨#[92, 116]⟩ [92, 116] (by decide +kernel) (by simp) (by simp; omega)
    have HA := hide hA
    have HE : Hid (L = [] ++ [92, 116]) := by show _ = _; rw [HL.out]; unfold byteW; rw [if_neg c1, if_pos c2]; rfl
    obtain ⟨a1, cp1, rfl⟩ := hA.slice
    clear hA hst c1 c2 hO
    go_wp2_with (refine wpList_appendS_run rfl _ _ _ _ rfl _ _ _ rfl rfl hr ?_)
    go_ret
    exact ⟨_, rfl, by rw [HE.out]; exact HA.out⟩
  have k2 : ((c : Int) == 9) = false := beq_eq_false_iff_ne.2 (by omega)
  have HPL := hide (plain_any c w)
  obtain ⟨pl, hpl⟩ : ∃ pl, pl = plainB c := ⟨_, rfl⟩
  rw [← hpl] at HPL
  have HL3 : Hid (L = if pl = false then [92, 120, digitsL.getD (c / 16) 0, digitsL.getD (c % 16) 0] else if (signsL ++ othersL).contains c then [92, c] else [c]) := by
    show _ = _
    rw [HL.out, hpl]; unfold byteW; rw [if_neg c1, if_neg c2]
  have HST := hide hst
  clear hst c1 c2 hpl HL hO
  go_wp2_with fail
  refine HPL.out.mono ?_
  rintro e w1 ⟨rfl, rfl⟩
  cases pl with
  | false =>
    obtain ⟨hx, hhx0⟩ : ∃ hx, hx = digitsL.getD (c / 16) 0 := ⟨_, rfl⟩
    obtain ⟨lx, hlx0⟩ : ∃ lx, lx = digitsL.getD (c % 16) 0 := ⟨_, rfl⟩
    have hdg : bytesN ⟨#[48, 49, 50, 51, 52, 53, 54, 55, 56, 57, 97, 98, 99, 100, 101, 102]⟩ = digitsL := by decide +kernel
    have hget : ∀ i, i < 16 → digitsL[i]? = some (digitsL.getD i 0) := fun i hi => by
      rw [List.getD_eq_getElem?_getD, List.getElem?_eq_getElem (show i < digitsL.length from hi)]; rfl
    have hhx : (bytesN ⟨#[48, 49, 50, 51, 52, 53, 54, 55, 56, 57, 97, 98, 99, 100, 101, 102]⟩)[c / 16]? = some hx := by rw [hdg, hhx0]; exact hget _ (by omega)
    have hlx : (bytesN ⟨#[48, 49, 50, 51, 52, 53, 54, 55, 56, 57, 97, 98, 99, 100, 101, 102]⟩)[c % 16]? = some lx := by rw [hdg, hlx0]; exact hget _ (by omega)
    have HE : Hid (L = [] ++ [92, 120, hx, lx]) := by show _ = _; rw [HL3.out, if_pos rfl, hhx0, hlx0]; rfl
    have HHX := hide hhx
    have HLX := hide hlx
    clear hhx0 hlx0 hdg hget HPL hhx hlx
    go_wp2
    have hhx := HHX.out
    have hlx := HLX.out
    have hA1 := HST.out.step (⟨rfl, rfl, rfl, Nat.le_refl _, fun _ _ => rfl⟩ : Below w1.heap.size w1 { w1 with drawn := w1.drawn + 1 }) (Nat.le_succ _)
    refine wp_region_noPanic (wp_region_held (S := fun _ => True) (by kernel_rfl) ?_)
    show wpAnyH _ _ _ _ _ 10 #[false, false, false, false, false, false, false, false, false, false] _ _
    generalize ({ w1 with drawn := w1.drawn + 1 } : World) = W at hA1 ⊢
    have hb2 := (Below.refl W.heap.size W).alloc (Nat.le_refl _) (.cells #[.int .u8 92, .int .u8 120, .int .u8 hx, .int .u8 lx] 5)
    obtain ⟨v2, W2, hr2, hA2⟩ := (hA1.step hb2 (Nat.le_refl _)).app 71 W.heap.size #[] [92, 120, hx, lx] (Blk.newAt rfl _ _) (by simp) (by simp; omega)
    simp only [List.length_cons, List.length_nil, Nat.zero_add, Nat.reduceAdd] at hr2
    refine h_take 0 (.slice a0 n cp0) rfl (by kernel_rfl) (by kernel_rfl) (by kernel_rfl) rfl (fun w hw => x_move _ _ _ _ _ _ _ _ rfl w) trivial ?_
    simp only [Act.put, List.setIfInBounds_toArray, List.set_cons_succ, List.set_cons_zero]
    refine h_take 1 (.int .u8 c) rfl (by kernel_rfl) (by kernel_rfl) (by kernel_rfl) rfl (fun w hw => x_move _ _ _ _ _ _ _ _ rfl w) trivial ?_
    simp only [Act.put, List.setIfInBounds_toArray, List.set_cons_succ, List.set_cons_zero]
    refine h_take 2 (.int .u8 ((c / 16 : Nat) : Int)) rfl (by kernel_rfl) (by kernel_rfl) (by kernel_rfl) rfl (fun w hw => x_shr4 _ _ _ _ _ _ _ c hc rfl rfl w) trivial ?_
    simp only [Act.put, List.setIfInBounds_toArray, List.set_cons_succ, List.set_cons_zero]
    refine h_take 3 (.int .u8 hx) rfl (by kernel_rfl) (by kernel_rfl) (by kernel_rfl) rfl (fun w hw => x_strIdx8 _ _ _ _ _ _ _ _ _ (c / 16) hx hhx rfl rfl w) trivial ?_
    simp only [Act.put, List.setIfInBounds_toArray, List.set_cons_succ, List.set_cons_zero]
    refine h_take 4 (.int .u8 c) rfl (by kernel_rfl) (by kernel_rfl) (by kernel_rfl) rfl (fun w hw => x_move _ _ _ _ _ _ _ _ rfl w) trivial ?_
    simp only [Act.put, List.setIfInBounds_toArray, List.set_cons_succ, List.set_cons_zero]
    refine h_take 5 (.int .u8 ((c % 16 : Nat) : Int)) rfl (by kernel_rfl) (by kernel_rfl) (by kernel_rfl) rfl (fun w hw => x_and15 _ _ _ _ _ _ _ c hc rfl rfl w) trivial ?_
    simp only [Act.put, List.setIfInBounds_toArray, List.set_cons_succ, List.set_cons_zero]
    refine h_take 6 (.int .u8 lx) rfl (by kernel_rfl) (by kernel_rfl) (by kernel_rfl) rfl (fun w hw => x_strIdx8 _ _ _ _ _ _ _ _ _ (c % 16) lx hlx rfl rfl w) trivial ?_
    simp only [Act.put, List.setIfInBounds_toArray, List.set_cons_succ, List.set_cons_zero]
    refine h_alloc 7 (.slice (some ⟨W.heap.size, 0, none⟩) 4 4) (W.alloc (.cells #[.int .u8 92, .int .u8 120, .int .u8 hx, .int .u8 lx] 5)) rfl (by kernel_rfl) rfl (x_build4 _ _ _ _ _ _ _ _ _ _ rfl rfl rfl rfl W) trivial ?_
    simp only [Act.put, List.setIfInBounds_toArray, List.set_cons_succ, List.set_cons_zero]
    refine h_oper 8 rfl (by kernel_rfl) rfl ?_
    refine wp_append_known _ _ _ rfl _ _ _ rfl rfl hr2 ⟨trivial, ?_⟩
    simp only [Act.put, List.setIfInBounds_toArray, List.set_cons_succ, List.set_cons_zero]
    refine h_take 9 (v2) rfl (by kernel_rfl) (by kernel_rfl) (by kernel_rfl) rfl (fun w hw => x_assign _ _ _ _ _ _ _ _ rfl w) trivial ?_
    simp only [Act.put, List.setIfInBounds_toArray, List.set_cons_succ, List.set_cons_zero]
    refine wpAnyH_done (by kernel_rfl) ?_ _
    refine NoPanic.normal ?_
    have HA := hide hA2
    obtain ⟨a1, cp1, rfl⟩ := hA2.slice
    clear hA2 hA1 hb2 hr2 hhx hlx
    go_wp2
    go_ret
    exact ⟨_, rfl, by rw [HE.out]; exact ⟨HA.out.own, HA.out.gb, HA.out.base⟩⟩
  | true =>
    have esg : bytesN ⟨#[32, 40, 41, 91, 93, 124, 38, 45, 42, 43, 63, 46, 92, 94, 47, 34, 35]⟩ = signsL ++ othersL := by decide +kernel
    have hix := indexByte_any ⟨#[32, 40, 41, 91, 93, 124, 38, 45, 42, 43, 63, 46, 92, 94, 47, 34, 35]⟩ c hc w1
    rw [esg] at hix
    obtain ⟨q, hq⟩ : ∃ q, q = (signsL ++ othersL).contains c := ⟨_, rfl⟩
    obtain ⟨z, hz⟩ : ∃ z, z = idxI (signsL ++ othersL) c := ⟨_, rfl⟩
    have hzq : decide (0 ≤ z) = q := by rw [hz, hq]; exact idxI_pos _ _
    rw [← hz] at hix
    rw [← hq, if_neg (by simp)] at HL3
    have HIX := hide hix
    clear hix hz hq esg HPL
    go_wp2_with fail
    refine HIX.out.mono ?_
    rintro e w2 ⟨rfl, rfl⟩
    clear HIX
    cases q with
    | true =>
      have HE : Hid (L = [] ++ [92, c]) := by show _ = _; rw [HL3.out, if_pos rfl]; rfl
      have hb2 := (Below.refl w2.heap.size w2).alloc (Nat.le_refl _) (.cells #[.int .u8 92, .int .u8 c] 5)
      obtain ⟨v2, W2, hr2, hA2⟩ := (HST.out.step hb2 (Nat.le_refl _)).app 71 w2.heap.size #[] [92, c] (Blk.newAt rfl _ _) (by simp) (by simp; omega)
      simp only [List.length_cons, List.length_nil, Nat.zero_add, Nat.reduceAdd] at hr2
      have HA := hide hA2
      obtain ⟨a1, cp1, rfl⟩ := hA2.slice
      clear hA2 hb2
      go_wp2_with (refine wpList_append_run rfl _ _ _ rfl _ _ _ rfl rfl hr2 ?_)
      go_ret
      exact ⟨_, rfl, by rw [HE.out]; exact HA.out⟩
    | false =>
      have HE : Hid (L = [] ++ [c]) := by show _ = _; rw [HL3.out, if_neg (by simp)]; rfl
      have hb2 := (Below.refl w2.heap.size w2).alloc (Nat.le_refl _) (.cells #[.int .u8 c] 5)
      obtain ⟨v2, W2, hr2, hA2⟩ := (HST.out.step hb2 (Nat.le_refl _)).app 71 w2.heap.size #[] [c] (Blk.newAt rfl _ _) (by simp) (by simp; omega)
      simp only [List.length_cons, List.length_nil, Nat.zero_add, Nat.reduceAdd] at hr2
      have HA := hide hA2
      obtain ⟨a1, cp1, rfl⟩ := hA2.slice
      clear hA2 hb2
      go_wp2_with (refine wpList_append_run rfl _ _ _ rfl _ _ _ rfl rfl hr2 ?_)
      go_ret
      exact ⟨_, rfl, by rw [HE.out]; exact HA.out⟩

/-- How closely what is written of an Op holds together. -/
def holdN (o : Nat) : Nat := if o = 4 then 0 else if o = 7 then 1 else if o = 6 then 2 else if o = 3 then 3 else if o = 5 then 4 else 5
def needN (o i : Nat) : Nat := if o = 7 ∧ i = 0 then holdN o else holdN o + 1
theorem hold_any (o : Nat) (w : World) : Calls Tryz.prog 79 #[.int .i64 o] w fun e w' => e = .returned (.int .i64 (holdN o)) ∧ w' = w := by
  go_enter Tryz.func79, Tryz.ntmps79
  by_cases h4 : o = 4
  · subst h4; go_wp2; go_ret; exact ⟨rfl, rfl⟩
  have k4 : ((o : Int) == 4) = false := beq_eq_false_iff_ne.2 (by omega)
  by_cases h7 : o = 7
  · subst h7; go_wp2; go_ret; exact ⟨rfl, rfl⟩
  have k7 : ((o : Int) == 7) = false := beq_eq_false_iff_ne.2 (by omega)
  by_cases h6 : o = 6
  · subst h6; go_wp2; go_ret; exact ⟨rfl, rfl⟩
  have k6 : ((o : Int) == 6) = false := beq_eq_false_iff_ne.2 (by omega)
  by_cases h3 : o = 3
  · subst h3; go_wp2; go_ret; exact ⟨rfl, rfl⟩
  have k3 : ((o : Int) == 3) = false := beq_eq_false_iff_ne.2 (by omega)
  by_cases h5 : o = 5
  · subst h5; go_wp2; go_ret; exact ⟨rfl, rfl⟩
  have k5 : ((o : Int) == 5) = false := beq_eq_false_iff_ne.2 (by omega)
  have HE : Hid (holdN o = 5) := by show _ = _; unfold holdN; rw [if_neg h4, if_neg h7, if_neg h6, if_neg h3, if_neg h5]
  clear h3 h4 h5 h6 h7
  go_wp2
  go_ret
  refine ⟨?_, rfl⟩
  rw [HE.out]; rfl
theorem holdN_le (o : Nat) : holdN o ≤ 5 := by unfold holdN; repeat' split
                                               all_goals omega
theorem need_any (o i : Nat) (w : World) : Calls Tryz.prog 80 #[.int .i64 o, .int .i64 i] w fun e w' => e = .returned (.int .i64 (needN o i)) ∧ w' = w := by
  obtain ⟨h, hh⟩ : ∃ h, h = holdN o := ⟨_, rfl⟩
  have hle : h ≤ 5 := by rw [hh]; exact holdN_le o
  have HO := hide (hold_any o w)
  rw [← hh] at HO
  by_cases h7 : o = 7
  · have k7 : ((o : Int) == 7) = true := by simp [h7]
    by_cases h0 : i = 0
    · have k0 : ((i : Int) == 0) = true := by simp [h0]
      have HE : Hid (needN o i = h) := by show _ = _; unfold needN; rw [if_pos ⟨h7, h0⟩, hh]
      clear hh h7 h0
      go_enter Tryz.func80, Tryz.ntmps80
      go_wp2_with fail
      refine HO.out.mono ?_
      rintro e w1 ⟨rfl, rfl⟩
      clear HO
      go_wp2
      go_ret
      refine ⟨?_, rfl⟩
      rw [HE.out]; rfl
    · have k0 : ((i : Int) == 0) = false := beq_eq_false_iff_ne.2 (by omega)
      have HE : Hid (needN o i = h + 1) := by show _ = _; unfold needN; rw [if_neg (fun x => h0 x.2), hh]
      clear hh h7 h0
      go_enter Tryz.func80, Tryz.ntmps80
      go_wp2_with fail
      refine HO.out.mono ?_
      rintro e w1 ⟨rfl, rfl⟩
      clear HO
      go_wp2
      go_ret
      refine ⟨?_, rfl⟩
      rw [HE.out]; rfl
  · have k7 : ((o : Int) == 7) = false := beq_eq_false_iff_ne.2 (by omega)
    have HE : Hid (needN o i = h + 1) := by show _ = _; unfold needN; rw [if_neg (fun x => h7 x.1), hh]
    clear hh h7
    go_enter Tryz.func80, Tryz.ntmps80
    go_wp2_with fail
    refine HO.out.mono ?_
    rintro e w1 ⟨rfl, rfl⟩
    clear HO
    go_wp2
    go_ret
    refine ⟨?_, rfl⟩
    rw [HE.out]; rfl
theorem opOf_any (b : Nat) (r : RE) (w : World) (h : ReAt w b r) : Calls Tryz.prog 58 #[PT b] w fun e w' => e = .returned (.int .i64 r.op) ∧ w' = w := by
  have c0 := h.cell0
  clear h
  unfold PT
  go_enter Tryz.func58, Tryz.ntmps58
  go_wp2
  go_ret
  exact ⟨rfl, rfl⟩
end Go.Proofs.YtjlgepahgmkamaaGreatDoor
