/- Texts of this claim put together: MathWf, MathRd, MathRd2, MathRd3, MathRd4, RdH, Open. -/
import Derived.Test.YtdbdjjjmomociaaGreatDoorJoinReO
import Derived.Test.YtdbdjjjmomociaaGreatDoorRows
import Derived.Test.YtdbdjjjmomociaaGreatDoorJoinQuietX
import Derived.Test.YtdbdjjjmomociaaGreatDoorJoinGen
import Derived.ProofKit
import Derived.LaidMore
import Derived.OpenShut
import Derived.Stop.Joined
import Derived.Lib.LaidTab
/- What the calls make is in the settled form, and not much greater than what went in. -/
namespace Go.Proofs.YtdbdjjjmomociaaGreatDoor
set_option maxRecDepth 100000
set_option linter.unusedSimpArgs false
set_option linter.unusedVariables false
open Go.RowKit

def RE.cnt : RE → Nat
  | .mk _ _ ks => 1 + (ks.map fun k => k.cnt).sum
def cntL (l : List RE) : Nat := (l.map RE.cnt).sum
theorem RE.cnt_mk (o : Nat) (s : BitVec 256) (ks : List RE) : (RE.mk o s ks).cnt = 1 + cntL ks := by rw [RE.cnt, cntL]
theorem RE.cnt_kids (r : RE) : r.cnt = 1 + cntL r.kids := by cases r; exact RE.cnt_mk _ _ _
theorem cntL_cons (x : RE) (l : List RE) : cntL (x :: l) = x.cnt + cntL l := by simp [cntL]
theorem cntL_append (a b : List RE) : cntL (a ++ b) = cntL a + cntL b := by simp [cntL]
theorem cntL_len (l : List RE) : l.length ≤ cntL l := by
  induction l with
  | nil => simp [cntL]
  | cons x l ih => rw [cntL_cons, RE.cnt_kids]; simp; omega
theorem cntL_flatMap (f : RE → List RE) (hf : ∀ r, cntL (f r) ≤ r.cnt) (l : List RE) : cntL (l.flatMap f) ≤ cntL l := by
  induction l with
  | nil => simp [cntL]
  | cons x l ih => rw [List.flatMap_cons, cntL_append, cntL_cons]; have := hf x; omega
theorem cntL_catL (l : List RE) : cntL (catL l) ≤ cntL l := cntL_flatMap _ (fun r => by
  have := r.cnt_kids
  unfold catK
  split
  · simp [cntL]
  · split
    · omega
    · rw [cntL_cons]; simp [cntL]) l
theorem cntL_flatL (o : Nat) (l : List RE) : cntL (flatL o l) ≤ cntL l := cntL_flatMap _ (fun r => by
  have := r.cnt_kids
  split
  · omega
  · rw [cntL_cons]; simp [cntL]) l
theorem cntL_filter (p : RE → Bool) (l : List RE) : cntL (l.filter p) ≤ cntL l := by
  induction l with
  | nil => simp
  | cons x l ih =>
    rw [List.filter_cons, cntL_cons]
    split
    · rw [cntL_cons]; omega
    · omega
theorem cntL_insK (x : RE) (l : List RE) : cntL (insK x l) ≤ x.cnt + cntL l := by
  induction l with
  | nil => simp [insK, cntL]
  | cons y l ih =>
    simp only [insK]
    split
    · simp only [cntL_cons]; omega
    · split
      · simp only [cntL_cons]; omega
      · simp only [cntL_cons]; omega
theorem cntL_ordL (l : List RE) : cntL (ordL l) ≤ cntL l := by
  induction l with
  | nil => simp [ordL]
  | cons x l ih =>
    have := cntL_insK x (ordL l)
    rw [cntL_cons]
    have e : ordL (x :: l) = insK x (ordL l) := rfl
    rw [e]; omega
theorem cnt_join (o : Nat) (l : List RE) : (rJoin o l).cnt ≤ 1 + cntL l := by
  unfold rJoin
  split
  · simp [cntL]
  · rw [RE.cnt_mk]; omega
theorem cnt_nothing : rNothing.cnt = 1 := by rw [RE.cnt_kids]; rfl
theorem cnt_empty : rEmpty.cnt = 1 := by rw [RE.cnt_kids]; rfl
theorem cnt_one (s : BitVec 256) : (rOne s).cnt = 1 := by rw [RE.cnt_kids, rOne_kids]; rfl
theorem cnt_then (l : List RE) : (rThen l).cnt ≤ 1 + cntL l := by
  unfold rThen
  split
  · rw [cnt_nothing]; omega
  · split
    · rw [cnt_empty]; omega
    · have h1 := cnt_join 3 (catL l); have h2 := cntL_catL l; omega
theorem cnt_any (l : List RE) : (rAny l).cnt ≤ 2 + cntL l := by
  unfold rAny
  simp only
  generalize hk : (orKeep (flatL 4 l) ++ if orSet (flatL 4 l) = 0#256 then [] else [rOne (orSet (flatL 4 l))]) = ks
  split
  · rw [cnt_nothing]; omega
  · have h1 := cnt_join 4 (ordL ks)
    have h2 := cntL_ordL ks
    have h3 := cntL_filter (fun r => !(r.op == 0) && !(r.op == 2)) (flatL 4 l)
    have h4 := cntL_flatL 4 l
    have h5 : cntL ks ≤ cntL (orKeep (flatL 4 l)) + 1 := by
      rw [← hk, cntL_append]
      split
      · simp [cntL]
      · simp [cntL, cnt_one]
    unfold orKeep at h5
    omega
theorem cnt_many (r : RE) : (rMany r).cnt ≤ 1 + r.cnt := by
  unfold rMany
  split
  · rw [cnt_empty]; omega
  · split
    · omega
    · rw [RE.cnt_mk]; simp [cntL]
theorem cnt_both (l : List RE) : (rBoth l).cnt ≤ 2 + cntL l := by
  unfold rBoth
  simp only
  split
  · rw [cnt_nothing]; omega
  · split
    · rw [cnt_nothing]; omega
    · generalize hk : (orKeep (flatL 6 l) ++ if met (flatL 6 l) = true then [rOne (andSet (flatL 6 l))] else []) = ks
      split
      · have := cnt_many (rOne allB); rw [cnt_one] at this; omega
      · have h1 := cnt_join 6 (ordL ks)
        have h2 := cntL_ordL ks
        have h3 := cntL_filter (fun r => !(r.op == 0) && !(r.op == 2)) (flatL 6 l)
        have h4 := cntL_flatL 6 l
        have h5 : cntL ks ≤ cntL (orKeep (flatL 6 l)) + 1 := by
          rw [← hk, cntL_append]
          split
          · simp [cntL, cnt_one]
          · simp [cntL]
        unfold orKeep at h5
        omega
theorem cnt_but (a b : RE) : (rBut a b).cnt ≤ 1 + a.cnt + b.cnt := by
  unfold rBut
  split
  · omega
  · split
    · rw [cnt_one]; omega
    · split
      · rw [cnt_nothing]; omega
      · rw [RE.cnt_mk]; simp [cntL]; omega
theorem cnt_word (t : List Nat) : (rWord t).cnt ≤ 1 + t.length := by
  have h := cnt_then (t.map rLetter)
  have key : ∀ t : List Nat, cntL (t.map rLetter) = t.length := fun t => by
    induction t with
    | nil => rfl
    | cons x t ih => rw [List.map_cons, cntL_cons, show (rLetter x).cnt = 1 from cnt_one _, ih, List.length_cons]; omega
  have := key t
  unfold rWord; omega

theorem wf_catL {l : List RE} (hw : ∀ r ∈ l, Wf r) (h0 : l.any (fun r => r.op == 0) = false) : ∀ k ∈ catL l, Wf k ∧ k.op ≠ 0 ∧ k.op ≠ 1 ∧ k.op ≠ 3 := by
  intro k hk
  obtain ⟨r, hr, hk⟩ := List.mem_flatMap.1 hk
  have hr0 : r.op ≠ 0 := fun e => by
    have := List.any_eq_false.1 h0 r hr
    simp [e] at this
  unfold catK at hk
  split at hk
  · simp at hk
  · split at hk
    · rename_i h3
      have h := ((hw r hr).shp.cat h3).2 k hk
      exact ⟨(hw r hr).kid k hk, h⟩
    · simp at hk; subst hk
      exact ⟨hw _ hr, hr0, by assumption, by assumption⟩
theorem wf_then {l : List RE} (hw : ∀ r ∈ l, Wf r) : Wf (rThen l) := by
  unfold rThen
  split
  · exact wf_nothing
  · rename_i h0
    have hc := wf_catL hw (by simpa using h0)
    split
    · exact wf_empty
    · rename_i hne
      by_cases h1 : (catL l).length = 1
      · match hl : catL l, h1 with
        | [x], _ => exact (hc x (by rw [hl]; simp)).1
      · rw [rJoin_more 3 _ h1]
        have h2 : 2 ≤ (catL l).length := by
          have := List.length_pos_iff.2 hne
          omega
        exact .mk _ _ _ (fun k hk => (hc k hk).1) ⟨by omega, fun _ => rfl, by omega, by omega, fun _ => ⟨h2, fun k hk => (hc k hk).2⟩, by omega, by omega, by omega⟩
/-- The heart of Any and Both. -/
theorem wf_ord {o : Nat} (ho : o = 4 ∨ o = 6) {ks : List RE} {c : BitVec 256} (hw : ∀ k ∈ ks, Wf k ∧ k.op ≠ 0 ∧ k.op ≠ o ∧ (k.op = 2 → k = rOne c)) (hne : ks ≠ []) : Wf (rJoin o (ordL ks)) := by
  obtain ⟨h1, h2⟩ := ordL_spec ks (fun y hy => (hw y hy).1.k)
  have hw' : ∀ k ∈ ordL ks, Wf k ∧ k.op ≠ 0 ∧ k.op ≠ o ∧ (k.op = 2 → k = rOne c) := fun k hk => hw k ((h2 k).1 hk)
  have hne' : ordL ks ≠ [] := fun e => by
    obtain ⟨x, hx⟩ := List.exists_mem_of_ne_nil ks hne
    have := (h2 x).2 hx
    rw [e] at this; simp at this
  by_cases hl : (ordL ks).length = 1
  · match hk : ordL ks, hl with
    | [x], _ => exact (hw' x (by rw [hk]; simp)).1
  · rw [rJoin_more o _ hl]
    have hl2 : 2 ≤ (ordL ks).length := by
      have := List.length_pos_iff.2 hne'
      omega
    have hcl : ((ordL ks).filter fun k => k.op == 2).length ≤ 1 := by
      have hp := h1.filter (fun k => k.op == 2)
      match hf : (ordL ks).filter (fun k => k.op == 2) with
      | [] => rw [hf]; simp
      | [x] => rw [hf]; simp
      | x :: y :: r =>
        exfalso
        rw [hf] at hp
        have hxy := (List.pairwise_cons.1 hp).1 y (by simp)
        have hx : x ∈ (ordL ks).filter (fun k => k.op == 2) := by rw [hf]; simp
        have hy : y ∈ (ordL ks).filter (fun k => k.op == 2) := by rw [hf]; simp
        have ex := (hw' x (List.mem_filter.1 hx).1).2.2.2 (by simpa using (List.mem_filter.1 hx).2)
        have ey := (hw' y (List.mem_filter.1 hy).1).2.2.2 (by simpa using (List.mem_filter.1 hy).2)
        rw [ex, ey] at hxy
        exact ltK_irrefl hxy
    exact .mk _ _ _ (fun k hk => (hw' k hk).1) ⟨by omega, fun _ => rfl, by omega, by omega, by omega, fun _ => ⟨hl2, fun k hk => ⟨(hw' k hk).2.1, (hw' k hk).2.2.1⟩, h1, hcl⟩, by omega, by omega⟩
theorem wf_flatL {o : Nat} (ho : o = 4 ∨ o = 6) {l : List RE} (hw : ∀ r ∈ l, Wf r) : ∀ k ∈ flatL o l, Wf k ∧ k.op ≠ o := by
  intro k hk
  obtain ⟨r, hr, hk⟩ := List.mem_flatMap.1 hk
  split at hk
  · rename_i h3
    have h := ((hw r hr).shp.or (by omega)).2.1 k hk
    exact ⟨(hw r hr).kid k hk, by rw [h3] at h; exact h.2⟩
  · simp at hk; subst hk
    exact ⟨hw _ hr, by assumption⟩
theorem one_op (c : BitVec 256) (h : c ≠ 0#256) : (rOne c).op = 2 := by unfold rOne; rw [if_neg h]; rfl
theorem wf_keepL {o : Nat} (ho : o = 4 ∨ o = 6) {l : List RE} (hw : ∀ r ∈ l, Wf r) (c : BitVec 256) : ∀ k ∈ orKeep (flatL o l), Wf k ∧ k.op ≠ 0 ∧ k.op ≠ o ∧ (k.op = 2 → k = rOne c) := by
  intro k hk
  obtain ⟨h1, h2⟩ := List.mem_filter.1 hk
  obtain ⟨h3, h4⟩ := wf_flatL ho hw k h1
  simp at h2
  exact ⟨h3, h2.1, h4, fun e => absurd e h2.2⟩
theorem wf_any {l : List RE} (hw : ∀ r ∈ l, Wf r) : Wf (rAny l) := by
  unfold rAny
  simp only
  generalize hks : (orKeep (flatL 4 l) ++ if orSet (flatL 4 l) = 0#256 then [] else [rOne (orSet (flatL 4 l))]) = ks
  split
  · exact wf_nothing
  · rename_i hne
    refine wf_ord (.inl rfl) (c := orSet (flatL 4 l)) (fun k hk => ?_) hne
    rw [← hks] at hk
    rcases List.mem_append.1 hk with hk | hk
    · exact wf_keepL (.inl rfl) hw _ k hk
    · split at hk
      · simp at hk
      · rename_i hc
        simp at hk; subst hk
        have := one_op _ hc
        exact ⟨wf_one _, by omega, by omega, fun _ => rfl⟩
theorem wf_many {r : RE} (hw : Wf r) : Wf (rMany r) := by
  unfold rMany
  split
  · exact wf_empty
  · split
    · exact hw
    · rename_i h1 h2
      exact .mk _ _ _ (fun k hk => by simp at hk; subst hk; exact hw) ⟨by omega, fun _ => rfl, by omega, by omega, by omega, by omega, fun _ => ⟨r, rfl, by omega, by omega, h2⟩, by omega⟩
theorem wf_both {l : List RE} (hw : ∀ r ∈ l, Wf r) : Wf (rBoth l) := by
  unfold rBoth
  simp only
  split
  · exact wf_nothing
  · split
    · exact wf_nothing
    · rename_i h0 hc
      generalize hks : (orKeep (flatL 6 l) ++ if met (flatL 6 l) = true then [rOne (andSet (flatL 6 l))] else []) = ks
      split
      · exact wf_many (wf_one _)
      · rename_i hne
        refine wf_ord (.inr rfl) (c := andSet (flatL 6 l)) (fun k hk => ?_) hne
        rw [← hks] at hk
        rcases List.mem_append.1 hk with hk | hk
        · exact wf_keepL (.inr rfl) hw _ k hk
        · split at hk
          · simp at hk; subst hk
            have := one_op _ hc
            exact ⟨wf_one _, by omega, by omega, fun _ => rfl⟩
          · simp at hk
theorem wf_but {a b : RE} (ha : Wf a) (hb : Wf b) : Wf (rBut a b) := by
  unfold rBut
  split
  · exact ha
  · split
    · exact wf_one _
    · split
      · exact wf_nothing
      · rename_i h1 h2 h3
        exact .mk _ _ _ (fun k hk => by simp at hk; rcases hk with rfl | rfl; exact ha; exact hb) ⟨by omega, fun _ => rfl, by omega, by omega, by omega, by omega, by omega, fun _ => ⟨a, b, rfl, by omega, by omega, fun e => h3 (by rw [e]; exact lexN_self _), h2⟩⟩
theorem wf_word (t : List Nat) : Wf (rWord t) := wf_then fun r hr => by
  obtain ⟨x, -, rfl⟩ := List.mem_map.1 hr
  exact wf_one _
end Go.Proofs.YtdbdjjjmomociaaGreatDoor
/- The reader of expressions, as a function: what is left of the text, and the state. -/
namespace Go.Proofs.YtdbdjjjmomociaaGreatDoor
set_option maxRecDepth 100000
set_option linter.unusedSimpArgs false
set_option linter.unusedVariables false

/-- The reader's state: what is left, how many ( are open, how many parts were counted, the first error and its place. -/
structure St where
  rest : List Nat
  deep : Nat
  cnt : Nat
  err : Nat
  wh : Nat
def isWs (b : Nat) : Bool := b == 32 || b == 9 || b == 10 || b == 13
def plainB (b : Nat) : Bool := decide (32 ≤ b) && decide (b ≤ 126)
def letterB (b : Nat) : Bool := (decide (48 ≤ b) && decide (b ≤ 57)) || (decide (97 ≤ b) && decide (b ≤ 122)) || (decide (65 ≤ b) && decide (b ≤ 90))
def signsL : List Nat := [32, 40, 41, 91, 93, 124, 38, 45, 42, 43, 63, 46, 92]
def digitsL : List Nat := [48, 49, 50, 51, 52, 53, 54, 55, 56, 57, 97, 98, 99, 100, 101, 102]
/-- The byte that is written at a text's beginning, and by how many bytes. -/
def scanN : List Nat → Nat × Nat
  | [] => (0, 0)
  | a :: r =>
    if a = 92 then
      match r with
      | [] => (0, 0)
      | b :: r2 =>
        if b = 110 then (10, 2) else if b = 116 then (9, 2) else if b = 120 then
          match r2 with
          | c :: d :: _ => if digitsL.contains c && digitsL.contains d then (16 * digitsL.idxOf c + digitsL.idxOf d, 4) else (0, 0)
          | _ => (0, 0)
        else if !plainB b || letterB b then (0, 0) else (b, 2)
    else if !plainB a || signsL.contains a then (0, 0) else (a, 1)

namespace St
def pos (n : Nat) (st : St) : Nat := n - st.rest.length
def fail (e p : Nat) (st : St) : St := ⟨[], st.deep, st.cnt, if st.err = 0 then e else st.err, if st.err = 0 then p else st.wh⟩
def to (st : St) (r : List Nat) : St := ⟨r, st.deep, st.cnt, st.err, st.wh⟩
def skip (st : St) : St := st.to (st.rest.dropWhile isWs)
/-- Whether a byte stands just here; what is left behind it. -/
def isAt (b : Nat) (st : St) : Bool := st.rest.head? == some b
def here (b : Nat) (st : St) : St := if st.isAt b then st.to st.rest.tail else st
def signB (b : Nat) (st : St) : Bool := st.skip.isAt b
def sign (b : Nat) (st : St) : St := st.skip.here b
def counted (n : Nat) (st : St) : St := if 1000 < st.cnt + 1 then St.fail 3 (st.pos n) ⟨st.rest, st.deep, st.cnt + 1, st.err, st.wh⟩ else ⟨st.rest, st.deep, st.cnt + 1, st.err, st.wh⟩
def byteV (st : St) : Nat := (scanN st.rest).1
def byte (n : Nat) (st : St) : St := if (scanN st.rest).2 = 0 then st.fail 2 (st.pos n) else st.to (st.rest.drop (scanN st.rest).2)
def deeper (n : Nat) (st : St) : St := if 60 < st.deep + 1 then St.fail 4 (st.pos n - 1) ⟨st.rest, st.deep + 1, st.cnt, st.err, st.wh⟩ else ⟨st.rest, st.deep + 1, st.cnt, st.err, st.wh⟩
def upper (st : St) : St := ⟨st.rest, st.deep - 1, st.cnt, st.err, st.wh⟩
/-- What stands behind a [. -/
def classL (n : Nat) : Nat → BitVec 256 → St → Option (BitVec 256 × St)
  | 0, _, _ => none
  | f + 1, s, st =>
    if st.isAt 93 then some (s, st.here 93) else if st.err = 0 then
      let low := st.byteV
      let st2 := st.byte n
      let high := if st2.isAt 45 then (st2.here 45).byteV else low
      let st3 := if st2.isAt 45 then (st2.here 45).byte n else st2
      let st4 := if high < low then st3.fail 2 (st3.pos n) else st3
      classL n f (s ||| span low (high + 1)) st4
    else some (s, st)
def clas (n f : Nat) (st : St) : Option (BitVec 256 × St) :=
  if st.isAt 94 then (classL n f 0#256 (st.here 94)).map fun q => (~~~q.1, q.2) else classL n f 0#256 st
/-- Which part of the grammar is read; with what was read of it. -/
inductive Md where
  | or | orL (l : List RE) | minus | minusL (r : RE) | and | andL (l : List RE) | cat | catL (l : List RE) | post | postL (r : RE) | atom | group
def sized (n : Nat) (q : RE × St) : St := if 1000 < q.1.size then (q.2.counted n).fail 3 ((q.2.counted n).pos n) else q.2.counted n
def P (n : Nat) : Nat → Md → St → Option (RE × St)
  | 0, _, _ => none
  | f + 1, .or, st => (P n f .minus st).bind fun q => P n f (.orL [q.1]) q.2
  | f + 1, .orL l, st => if st.signB 124 then (P n f .minus (st.sign 124)).bind fun q => P n f (.orL (l ++ [q.1])) q.2 else some (rAny l, st.sign 124)
  | f + 1, .minus, st => (P n f .and st).bind fun q => P n f (.minusL q.1) q.2
  | f + 1, .minusL r, st => if st.signB 45 then (P n f .and (st.sign 45)).bind fun q => P n f (.minusL (rBut r q.1)) q.2 else some (r, st.sign 45)
  | f + 1, .and, st => (P n f .cat st).bind fun q => P n f (.andL [q.1]) q.2
  | f + 1, .andL l, st => if st.signB 38 then (P n f .cat (st.sign 38)).bind fun q => P n f (.andL (l ++ [q.1])) q.2 else some (rBoth l, st.sign 38)
  | f + 1, .cat, st => (P n f .post st).bind fun q => P n f (.catL [q.1]) q.2
  | f + 1, .catL l, st => match st.skip.rest with
    | [] => some (rThen l, st.skip)
    | b :: _ => if [124, 45, 38, 41].contains b then some (rThen l, st.skip) else (P n f .post st.skip).bind fun q => P n f (.catL (l ++ [q.1])) q.2
  | f + 1, .post, st => (P n f .atom st).bind fun q => P n f (.postL q.1) q.2
  | f + 1, .postL r, st =>
    if st.signB 42 then P n f (.postL (rMany r)) (sized n (rMany r, st.sign 42))
    else if (st.sign 42).signB 43 then P n f (.postL (rThen [r, rMany r])) (sized n (rThen [r, rMany r], (st.sign 42).sign 43))
    else if ((st.sign 42).sign 43).signB 63 then P n f (.postL (rAny [r, rEmpty])) (sized n (rAny [r, rEmpty], ((st.sign 42).sign 43).sign 63))
    else some (r, ((st.sign 42).sign 43).sign 63)
  | f + 1, .atom, st =>
    if st.signB 40 then (P n f .group (st.sign 40)).map fun q => (q.1, q.2.counted n)
    else if (st.sign 40).signB 91 then (clas n f ((st.sign 40).sign 91)).map fun q => (rOne q.1, q.2.counted n)
    else if ((st.sign 40).sign 91).signB 46 then some (rOne allB, (((st.sign 40).sign 91).sign 46).counted n)
    else some (rOne (setOf [(((st.sign 40).sign 91).sign 46).byteV]), ((((st.sign 40).sign 91).sign 46).byte n).counted n)
  | f + 1, .group, st =>
    if (st.deeper n).signB 41 then some (rEmpty, ((st.deeper n).sign 41).upper)
    else (P n f .or ((st.deeper n).sign 41)).map fun q => (q.1, (if q.2.signB 41 then q.2.sign 41 else (q.2.sign 41).fail 2 ((q.2.sign 41).pos n)).upper)
end St
end Go.Proofs.YtdbdjjjmomociaaGreatDoor
/- The reader as a function: what it keeps, step by step. -/
namespace Go.Proofs.YtdbdjjjmomociaaGreatDoor
set_option maxRecDepth 100000
set_option linter.unusedSimpArgs false
set_option linter.unusedVariables false
open St

/-- A state that may be. -/
structure Ok (st : St) : Prop where
  deep : st.deep ≤ 61
  ok : st.err = 0 → st.cnt + st.rest.length ≤ 65536 ∧ st.deep ≤ 60
  bad : st.err ≠ 0 → st.rest = []
  cnt : st.cnt ≤ 65538
/-- x parts since c0 were counted. -/
def Bd (x y c0 : Nat) (st : St) : Prop := (st.err = 0 → x + 4000 * c0 ≤ 4000 * st.cnt + y) ∧ (st.err ≠ 0 → x + 8000 * c0 ≤ 8000 * st.cnt + y) ∧ c0 ≤ st.cnt
/-- From one state to another one. -/
structure To (st st' : St) : Prop where
  deep : st'.deep = st.deep
  ok : st'.err = 0 → st.err = 0 ∧ st'.cnt + st'.rest.length ≤ st.cnt + st.rest.length
  bad : st'.err ≠ 0 → st'.rest = [] ∧ st'.cnt ≤ st.cnt + st.rest.length + 1
  len : st'.rest.length ≤ st.rest.length
  cnt : st.cnt ≤ st'.cnt

theorem dropWhile_len (p : Nat → Bool) (l : List Nat) : (l.dropWhile p).length ≤ l.length := by
  induction l with
  | nil => simp
  | cons a l ih => rw [List.dropWhile_cons]; split <;> simp <;> omega
theorem skip_len (st : St) : st.skip.rest.length ≤ st.rest.length := dropWhile_len _ _
theorem here_len (b : Nat) (st : St) : (st.here b).rest.length ≤ st.rest.length := by
  unfold here; split
  · show st.rest.tail.length ≤ _; simp
  · exact Nat.le_refl _
theorem here_eq (b : Nat) (st : St) : (st.here b).deep = st.deep ∧ (st.here b).cnt = st.cnt ∧ (st.here b).err = st.err ∧ (st.here b).wh = st.wh := by
  unfold here; split <;> exact ⟨rfl, rfl, rfl, rfl⟩
theorem here_true {b : Nat} {st : St} (h : st.isAt b = true) : (st.here b).rest.length + 1 ≤ st.rest.length := by
  unfold here; rw [if_pos h]
  unfold isAt at h
  show st.rest.tail.length + 1 ≤ _
  cases hr : st.rest with
  | nil => rw [hr] at h; simp at h
  | cons a l => simp
theorem sign_eq (b : Nat) (st : St) : (st.sign b).deep = st.deep ∧ (st.sign b).cnt = st.cnt ∧ (st.sign b).err = st.err ∧ (st.sign b).wh = st.wh := here_eq b st.skip
theorem sign_len (b : Nat) (st : St) : (st.sign b).rest.length ≤ st.rest.length := Nat.le_trans (here_len b st.skip) (skip_len st)
theorem sign_true {b : Nat} {st : St} (h : st.signB b = true) : (st.sign b).rest.length + 1 ≤ st.rest.length := Nat.le_trans (here_true h) (skip_len st)
theorem nil_of_len {l m : List Nat} (h : l.length ≤ m.length) (hm : m = []) : l = [] := List.eq_nil_of_length_eq_zero (by rw [hm] at h; simpa using h)
theorem Ok.moved {st st' : St} (h : Ok st) (hd : st'.deep = st.deep) (hc : st'.cnt = st.cnt) (he : st'.err = st.err) (hl : st'.rest.length ≤ st.rest.length) : Ok st' :=
  ⟨by rw [hd]; exact h.deep, fun e => by have := h.ok (he ▸ e); omega, fun e => nil_of_len hl (h.bad (he ▸ e)), by rw [hc]; exact h.cnt⟩
theorem Ok.sign {st : St} (h : Ok st) (b : Nat) : Ok (st.sign b) := by
  obtain ⟨h1, h2, h3, -⟩ := sign_eq b st
  exact h.moved h1 h2 h3 (sign_len b st)
theorem Ok.skip {st : St} (h : Ok st) : Ok st.skip := h.moved rfl rfl rfl (skip_len st)
theorem Ok.err0 {st : St} (h : Ok st) (hr : st.rest ≠ []) : st.err = 0 := Classical.byContradiction fun e => hr (h.bad e)
theorem Ok.sign0 {st : St} (h : Ok st) {b : Nat} (hs : st.signB b = true) : st.err = 0 := h.err0 fun e => by
  have := sign_true hs
  rw [e] at this; simp at this
theorem To.refl (st : St) (h : Ok st) : To st st := ⟨rfl, fun h => ⟨h, Nat.le_refl _⟩, fun e => ⟨h.bad e, by omega⟩, Nat.le_refl _, Nat.le_refl _⟩
theorem To.sign (st : St) (h : Ok st) (b : Nat) : To st (st.sign b) := by
  obtain ⟨h1, h2, h3, -⟩ := sign_eq b st
  have hl := sign_len b st
  exact ⟨h1, fun e => ⟨h3 ▸ e, by omega⟩, fun e => ⟨nil_of_len hl (h.bad (h3 ▸ e)), by omega⟩, hl, by omega⟩
theorem To.skip (st : St) (h : Ok st) : To st st.skip := ⟨rfl, fun e => ⟨e, by have := skip_len st; show st.cnt + _ ≤ _; omega⟩, fun e => ⟨nil_of_len (skip_len st) (h.bad e), by show st.cnt ≤ _; omega⟩, skip_len st, Nat.le_refl _⟩
/-- Behind an error nothing more is counted, if nothing more is read. -/
theorem To.trans {a b c : St} (h : To a b) (k : To b c) (hb : b.err ≠ 0 → c.cnt = b.cnt) : To a c := by
  refine ⟨k.deep.trans h.deep, fun e => ?_, fun e => ?_, Nat.le_trans k.len h.len, Nat.le_trans h.cnt k.cnt⟩
  · have h1 := k.ok e
    have h2 := h.ok h1.1
    exact ⟨h2.1, by omega⟩
  · have h1 := k.bad e
    refine ⟨h1.1, ?_⟩
    by_cases hb0 : b.err = 0
    · have h2 := h.ok hb0; omega
    · have h2 := h.bad hb0; have := hb hb0; omega

theorem counted_eq (n : Nat) (st : St) : (st.counted n).deep = st.deep ∧ (st.counted n).cnt = st.cnt + 1 ∧ (st.counted n).rest.length ≤ st.rest.length ∧ ((st.counted n).err = 0 → st.err = 0 ∧ (st.counted n).rest = st.rest) ∧ ((st.counted n).err ≠ 0 → st.err ≠ 0 ∨ (st.counted n).rest = []) := by
  unfold counted
  split
  · refine ⟨rfl, rfl, Nat.zero_le _, fun e => ?_, fun _ => .inr rfl⟩
    exfalso
    simp only [St.fail] at e
    split at e
    · omega
    · rename_i h; exact h e
  · exact ⟨rfl, rfl, Nat.le_refl _, fun e => ⟨e, rfl⟩, fun e => .inl e⟩
theorem fail_err (e p : Nat) (st : St) (he : e ≠ 0) : (st.fail e p).err ≠ 0 := by
  unfold fail; simp only; split <;> assumption
theorem scan_pos {l : List Nat} (h : (scanN l).2 ≠ 0) : (l.drop (scanN l).2).length + 1 ≤ l.length := by
  cases l with
  | nil => simp [scanN] at h
  | cons a l => rw [List.length_drop, List.length_cons]; omega
theorem byte_eq (n : Nat) (st : St) : (st.byte n).deep = st.deep ∧ (st.byte n).cnt = st.cnt ∧ (st.byte n).rest.length ≤ st.rest.length ∧ ((st.byte n).err = 0 → st.err = 0 ∧ (st.byte n).rest.length + 1 ≤ st.rest.length) ∧ ((st.byte n).err ≠ 0 → st.err ≠ 0 ∨ (st.byte n).rest = []) := by
  unfold byte
  split
  · exact ⟨rfl, rfl, Nat.zero_le _, fun e => absurd e (fail_err 2 _ st (by omega)), fun _ => .inr rfl⟩
  · rename_i h
    have := scan_pos h
    exact ⟨rfl, rfl, by show (st.rest.drop _).length ≤ _; omega, fun e => ⟨e, this⟩, fun e => .inl e⟩
theorem classL_eq (n : Nat) : ∀ (f : Nat) (s : BitVec 256) (st : St) (q : BitVec 256) (st' : St), classL n f s st = some (q, st') → (st.err ≠ 0 → st.rest = []) →
    st'.deep = st.deep ∧ st'.cnt = st.cnt ∧ st'.rest.length ≤ st.rest.length ∧ (st'.err = 0 → st.err = 0) ∧ (st'.err ≠ 0 → st'.rest = [])
  | 0, s, st, q, st', h, _ => by simp [classL] at h
  | f + 1, s, st, q, st', h, hb => by
    unfold classL at h
    split at h
    · injection h with h; injection h with h1 h2
      subst h2
      obtain ⟨e1, e2, e3, -⟩ := here_eq 93 st
      exact ⟨e1, e2, here_len 93 st, fun e => e3 ▸ e, fun e => nil_of_len (here_len 93 st) (hb (e3 ▸ e))⟩
    · split at h
      · rename_i h0
        simp only at h
        generalize hst2 : st.byte n = st2 at h
        generalize hst3 : (if st2.isAt 45 = true then (st2.here 45).byte n else st2) = st3 at h
        generalize hhi : (if st2.isAt 45 = true then (st2.here 45).byteV else st.byteV) = high at h
        generalize hst4 : (if high < st.byteV then st3.fail 2 (st3.pos n) else st3) = st4 at h
        obtain ⟨b1, b2, b3, b4, b5⟩ := byte_eq n st
        rw [hst2] at b1 b2 b3 b4 b5
        have hb2 : st2.err ≠ 0 → st2.rest = [] := fun e => (b5 e).resolve_left (fun x => x h0)
        have c3 : st3.deep = st.deep ∧ st3.cnt = st.cnt ∧ st3.rest.length ≤ st.rest.length ∧ (st3.err ≠ 0 → st3.rest = []) := by
          rw [← hst3]
          split
          · obtain ⟨d1, d2, d3, d4, d5⟩ := byte_eq n (st2.here 45)
            obtain ⟨e1, e2, e3, -⟩ := here_eq 45 st2
            have e4 := here_len 45 st2
            refine ⟨by omega, by omega, by omega, fun e => ?_⟩
            rcases d5 e with x | x
            · exact nil_of_len d3 (nil_of_len e4 (hb2 (e3 ▸ x)))
            · exact x
          · exact ⟨b1, b2, b3, hb2⟩
        obtain ⟨c3, c4, c5, c6⟩ := c3
        have c7 : st4.deep = st.deep ∧ st4.cnt = st.cnt ∧ st4.rest.length ≤ st.rest.length ∧ (st4.err ≠ 0 → st4.rest = []) := by
          rw [← hst4]
          split
          · exact ⟨c3, c4, Nat.zero_le _, fun _ => rfl⟩
          · exact ⟨c3, c4, c5, c6⟩
        obtain ⟨d3, d4, d5, d6⟩ := c7
        obtain ⟨r1, r2, r3, r4, r5⟩ := classL_eq n f _ st4 q st' h d6
        exact ⟨by omega, by omega, by omega, fun _ => h0, r5⟩
      · rename_i h0
        injection h with h; injection h with h1 h2
        subst h2
        exact ⟨rfl, rfl, Nat.le_refl _, fun e => e, hb⟩
theorem clas_eq (n f : Nat) (st : St) (q : BitVec 256) (st' : St) (h : clas n f st = some (q, st')) (hb : st.err ≠ 0 → st.rest = []) :
    st'.deep = st.deep ∧ st'.cnt = st.cnt ∧ st'.rest.length ≤ st.rest.length ∧ (st'.err = 0 → st.err = 0) ∧ (st'.err ≠ 0 → st'.rest = []) := by
  unfold clas at h
  split at h
  · obtain ⟨⟨a, b⟩, h1, h2⟩ := Option.map_eq_some_iff.1 h
    simp at h2
    obtain ⟨-, rfl⟩ := h2
    obtain ⟨e1, e2, e3, -⟩ := here_eq 94 st
    have hl := here_len 94 st
    obtain ⟨r1, r2, r3, r4, r5⟩ := classL_eq n f _ _ _ _ h1 (fun e => nil_of_len hl (hb (e3 ▸ e)))
    exact ⟨by omega, by omega, by omega, fun e => e3 ▸ r4 e, r5⟩
  · exact classL_eq n f _ _ _ _ h hb
end Go.Proofs.YtdbdjjjmomociaaGreatDoor
/- The reader as a function: what it yields is settled, and not too great. -/
namespace Go.Proofs.YtdbdjjjmomociaaGreatDoor
set_option maxRecDepth 100000
set_option linter.unusedSimpArgs false
set_option linter.unusedVariables false
open St

theorem sat_min (l : List RE) (n : Nat) (h : ∀ k ∈ l, k.size = min k.cnt 9223372036854775807) : (l.map RE.size).foldl sat (min n 9223372036854775807) = min (n + cntL l) 9223372036854775807 := by
  induction l generalizing n with
  | nil => simp [cntL]
  | cons k l ih =>
    rw [cntL_cons, List.map_cons, List.foldl_cons, h k (by simp)]
    have e : sat (min n 9223372036854775807) (min k.cnt 9223372036854775807) = min (n + k.cnt) 9223372036854775807 := by unfold sat; omega
    rw [e, ih _ (fun x hx => h x (by simp [hx])), Nat.add_assoc]
theorem size_min (r : RE) : r.size = min r.cnt 9223372036854775807 := by
  refine RE.ind (P := fun r => r.size = min r.cnt 9223372036854775807) ?_ r
  intro o s ks ih
  rw [RE.size_mk, RE.cnt_mk]
  exact sat_min ks 1 ih
theorem cnt_of_size {r : RE} (h : ¬ 1000 < r.size) : r.cnt ≤ 1000 := by
  rw [size_min] at h; omega

def offM : Md → Nat
  | .or => 5 | .orL _ => 5 | .minus => 7 | .minusL _ => 7 | .and => 7 | .andL _ => 7 | .cat => 9 | .catL _ => 9 | .post => 10 | .postL _ => 10 | .atom => 10 | .group => 5
def slackM : Md → Nat
  | .group => 3990
  | _ => 0
def Pre (c0 : Nat) (st : St) : Md → Prop
  | .orL l => l ≠ [] ∧ (∀ r ∈ l, Wf r) ∧ Bd (cntL l + 7 * l.length) 0 c0 st ∧ l.length + c0 ≤ st.cnt
  | .minusL r => Wf r ∧ Bd (r.cnt + 7) 0 c0 st
  | .andL l => l ≠ [] ∧ (∀ r ∈ l, Wf r) ∧ Bd (cntL l + 9 * l.length) 0 c0 st ∧ l.length + c0 ≤ st.cnt
  | .catL l => l ≠ [] ∧ (∀ r ∈ l, Wf r) ∧ Bd (cntL l + 10 * l.length) 0 c0 st ∧ l.length + c0 ≤ st.cnt
  | .postL r => Wf r ∧ Bd (r.cnt + 10) 0 c0 st
  | .group => c0 = st.cnt ∧ st.cnt ≤ 65536 ∧ st.err = 0
  | _ => c0 = st.cnt ∧ st.cnt ≤ 65536
def loopB : Md → Bool
  | .orL _ => true | .minusL _ => true | .andL _ => true | .catL _ => true | .postL _ => true | _ => false
structure Res (m : Md) (c0 : Nat) (st : St) (r : RE) (st' : St) : Prop where
  wf : Wf r
  ok : Ok st'
  to : To st st'
  bd : Bd (r.cnt + offM m) (slackM m) c0 st'
  still : loopB m = true → st.err ≠ 0 → st'.cnt = st.cnt

theorem ok_of {st st' : St} (h : Ok st) (ht : To st st') (hc : st.cnt ≤ 65536) : Ok st' := by
  refine ⟨by rw [ht.deep]; exact h.deep, fun e => ?_, fun e => (ht.bad e).1, ?_⟩
  · have h1 := ht.ok e
    have h2 := h.ok h1.1
    rw [ht.deep]
    omega
  · by_cases e : st'.err = 0
    · have h1 := ht.ok e
      have h2 := h.ok h1.1
      omega
    · have h1 := ht.bad e
      by_cases e0 : st.err = 0
      · have h2 := h.ok e0; omega
      · have h2 := h.bad e0
        rw [h2] at h1
        simp at h1; omega
theorem sized_eq (n : Nat) (r : RE) (st : St) (hb : st.err ≠ 0 → st.rest = []) : (sized n (r, st)).deep = st.deep ∧ (sized n (r, st)).cnt = st.cnt + 1 ∧ (sized n (r, st)).rest.length ≤ st.rest.length ∧ ((sized n (r, st)).err = 0 → st.err = 0 ∧ r.cnt ≤ 1000) ∧ ((sized n (r, st)).err ≠ 0 → (sized n (r, st)).rest = []) := by
  obtain ⟨c1, c2, c3, c4, c5⟩ := counted_eq n st
  unfold sized
  simp only
  split
  · exact ⟨c1, c2, Nat.zero_le _, fun e => absurd e (fail_err 3 _ _ (by omega)), fun _ => rfl⟩
  · rename_i h
    refine ⟨c1, c2, c3, fun e => ⟨(c4 e).1, cnt_of_size h⟩, fun e => ?_⟩
    rcases c5 e with x | x
    · exact nil_of_len c3 (hb x)
    · exact x
/-- One more behind a list. -/
theorem Bd.snoc {k x y c0 : Nat} {a b : St} {l : List RE} {r : RE} (h : Bd (cntL l + k * l.length) 0 c0 a) (h0 : a.err = 0) (hr : Bd (r.cnt + k) 0 a.cnt b) : Bd (cntL (l ++ [r]) + k * (l ++ [r]).length) 0 c0 b := by
  have e1 : cntL (l ++ [r]) = cntL l + r.cnt := by rw [cntL_append, cntL_cons]; simp [cntL]
  have e2 : k * (l ++ [r]).length = k * l.length + k := by rw [List.length_append, List.length_singleton, Nat.mul_add, Nat.mul_one]
  rw [e1, e2]
  obtain ⟨h1, h2, h3⟩ := h
  obtain ⟨r1, r2, r3⟩ := hr
  have h1 := h1 h0
  exact ⟨fun e => by have := r1 e; omega, fun e => by have := r2 e; omega, by omega⟩
theorem Bd.one {k c0 : Nat} {a : St} {r : RE} (h : Bd (r.cnt + k) 0 c0 a) : Bd (cntL [r] + k * [r].length) 0 c0 a := by
  have e1 : cntL [r] = r.cnt := by simp [cntL]
  rw [e1, List.length_singleton, Nat.mul_one]; exact h
theorem Bd.less {x x' y c0 : Nat} {a b : St} (h : Bd x y c0 a) (hx : x' ≤ x) (hc : b.cnt = a.cnt) (he : b.err = a.err) : Bd x' y c0 b := by
  obtain ⟨h1, h2, h3⟩ := h
  exact ⟨fun e => by have := h1 (he ▸ e); omega, fun e => by have := h2 (he ▸ e); omega, by omega⟩
theorem Bd.lt {x c0 : Nat} {a : St} (h : Bd x 0 c0 a) (hx : 1 ≤ x) : c0 < a.cnt := by
  obtain ⟨h1, h2, h3⟩ := h
  by_cases e : a.err = 0
  · have := h1 e; omega
  · have := h2 e; omega
theorem len_pos {l : List RE} (h : l ≠ []) : 1 ≤ l.length := by cases l with | nil => exact absurd rfl h | cons => simp

theorem P_inv (n : Nat) : ∀ (f : Nat) (m : Md) (c0 : Nat) (st : St) (r : RE) (st' : St), P n f m st = some (r, st') → Ok st → Pre c0 st m → Res m c0 st r st'
  | 0, m, c0, st, r, st', h, _, _ => by simp [P] at h
  | f + 1, .or, c0, st, r, st', h, ho, hp => by
    obtain ⟨rfl, hc⟩ := hp
    simp only [P] at h
    obtain ⟨⟨q, s1⟩, h1, h2⟩ := Option.bind_eq_some_iff.1 h
    have r1 := P_inv n f .minus _ st q s1 h1 ho ⟨rfl, hc⟩
    have r2 := P_inv n f (.orL [q]) st.cnt s1 r st' h2 r1.ok ⟨by simp, fun x hx => by rw [List.mem_singleton] at hx; subst hx; exact r1.wf, r1.bd.one, by have := r1.bd.lt (by simp only [offM]; omega); simp; omega⟩
    exact ⟨r2.wf, r2.ok, r1.to.trans r2.to (r2.still rfl), r2.bd, fun e => by cases e⟩
  | f + 1, .orL l, c0, st, r, st', h, ho, hp => by
    obtain ⟨hl, hw, hb, hlc⟩ := hp
    simp only [P] at h
    split at h
    · rename_i hs
      have h0 := ho.sign0 hs
      obtain ⟨⟨q, s1⟩, h1, h2⟩ := Option.bind_eq_some_iff.1 h
      obtain ⟨d1, d2, d3, -⟩ := sign_eq 124 st
      have hlen := sign_true hs
      have hcc := (ho.ok h0).1
      have r1 := P_inv n f .minus _ _ q s1 h1 (ho.sign 124) ⟨rfl, by omega⟩
      have hb1 : Bd (q.cnt + 7) 0 st.cnt s1 := by rw [← d2]; exact r1.bd
      have r2 := P_inv n f (.orL (l ++ [q])) c0 s1 r st' h2 r1.ok ⟨by simp, fun x hx => by
        rcases List.mem_append.1 hx with hx | hx
        · exact hw x hx
        · rw [List.mem_singleton] at hx; subst hx; exact r1.wf, Bd.snoc (x := 0) (y := 0) hb h0 hb1, by have := hb1.lt (by omega); rw [List.length_append, List.length_singleton]; omega⟩
      exact ⟨r2.wf, r2.ok, ((To.sign st ho 124).trans r1.to (fun e => absurd (d3.trans h0) e)).trans r2.to (r2.still rfl), r2.bd, fun _ e => absurd h0 e⟩
    · injection h with h; injection h with h1 h2
      subst h1 h2
      obtain ⟨d1, d2, d3, -⟩ := sign_eq 124 st
      have hk := cnt_any l
      have hlp := len_pos hl
      exact ⟨wf_any hw, ho.sign 124, To.sign st ho 124, hb.less (by simp only [offM]; omega) d2 d3, fun _ _ => d2⟩
  | f + 1, .minus, c0, st, r, st', h, ho, hp => by
    obtain ⟨rfl, hc⟩ := hp
    simp only [P] at h
    obtain ⟨⟨q, s1⟩, h1, h2⟩ := Option.bind_eq_some_iff.1 h
    have r1 := P_inv n f .and _ st q s1 h1 ho ⟨rfl, hc⟩
    have r2 := P_inv n f (.minusL q) st.cnt s1 r st' h2 r1.ok ⟨r1.wf, r1.bd⟩
    exact ⟨r2.wf, r2.ok, r1.to.trans r2.to (r2.still rfl), r2.bd, fun e => by cases e⟩
  | f + 1, .minusL x, c0, st, r, st', h, ho, hp => by
    obtain ⟨hw, hb⟩ := hp
    simp only [P] at h
    split at h
    · rename_i hs
      have h0 := ho.sign0 hs
      obtain ⟨⟨q, s1⟩, h1, h2⟩ := Option.bind_eq_some_iff.1 h
      obtain ⟨d1, d2, d3, -⟩ := sign_eq 45 st
      have hlen := sign_true hs
      have hcc := (ho.ok h0).1
      have r1 := P_inv n f .and _ _ q s1 h1 (ho.sign 45) ⟨rfl, by omega⟩
      obtain ⟨k1, k2, k3⟩ := r1.bd
      rw [d2] at k1 k2 k3
      simp only [offM, slackM] at k1 k2
      have kb := hb.1 h0
      have kc := hb.2.2
      have hk := cnt_but x q
      have r2 := P_inv n f (.minusL (rBut x q)) c0 s1 r st' h2 r1.ok ⟨wf_but hw r1.wf, fun e => by have := k1 e; omega, fun e => by have := k2 e; omega, by omega⟩
      exact ⟨r2.wf, r2.ok, ((To.sign st ho 45).trans r1.to (fun e => absurd (d3.trans h0) e)).trans r2.to (r2.still rfl), r2.bd, fun _ e => absurd h0 e⟩
    · injection h with h; injection h with h1 h2
      subst h1 h2
      obtain ⟨d1, d2, d3, -⟩ := sign_eq 45 st
      exact ⟨hw, ho.sign 45, To.sign st ho 45, hb.less (by simp only [offM]; omega) d2 d3, fun _ _ => d2⟩
  | f + 1, .and, c0, st, r, st', h, ho, hp => by
    obtain ⟨rfl, hc⟩ := hp
    simp only [P] at h
    obtain ⟨⟨q, s1⟩, h1, h2⟩ := Option.bind_eq_some_iff.1 h
    have r1 := P_inv n f .cat _ st q s1 h1 ho ⟨rfl, hc⟩
    have r2 := P_inv n f (.andL [q]) st.cnt s1 r st' h2 r1.ok ⟨by simp, fun x hx => by rw [List.mem_singleton] at hx; subst hx; exact r1.wf, r1.bd.one, by have := r1.bd.lt (by simp only [offM]; omega); simp; omega⟩
    exact ⟨r2.wf, r2.ok, r1.to.trans r2.to (r2.still rfl), r2.bd, fun e => by cases e⟩
  | f + 1, .andL l, c0, st, r, st', h, ho, hp => by
    obtain ⟨hl, hw, hb, hlc⟩ := hp
    simp only [P] at h
    split at h
    · rename_i hs
      have h0 := ho.sign0 hs
      obtain ⟨⟨q, s1⟩, h1, h2⟩ := Option.bind_eq_some_iff.1 h
      obtain ⟨d1, d2, d3, -⟩ := sign_eq 38 st
      have hlen := sign_true hs
      have hcc := (ho.ok h0).1
      have r1 := P_inv n f .cat _ _ q s1 h1 (ho.sign 38) ⟨rfl, by omega⟩
      have hb1 : Bd (q.cnt + 9) 0 st.cnt s1 := by rw [← d2]; exact r1.bd
      have r2 := P_inv n f (.andL (l ++ [q])) c0 s1 r st' h2 r1.ok ⟨by simp, fun x hx => by
        rcases List.mem_append.1 hx with hx | hx
        · exact hw x hx
        · rw [List.mem_singleton] at hx; subst hx; exact r1.wf, Bd.snoc (x := 0) (y := 0) hb h0 hb1, by have := hb1.lt (by omega); rw [List.length_append, List.length_singleton]; omega⟩
      exact ⟨r2.wf, r2.ok, ((To.sign st ho 38).trans r1.to (fun e => absurd (d3.trans h0) e)).trans r2.to (r2.still rfl), r2.bd, fun _ e => absurd h0 e⟩
    · injection h with h; injection h with h1 h2
      subst h1 h2
      obtain ⟨d1, d2, d3, -⟩ := sign_eq 38 st
      have hk := cnt_both l
      have hlp := len_pos hl
      exact ⟨wf_both hw, ho.sign 38, To.sign st ho 38, hb.less (by simp only [offM]; omega) d2 d3, fun _ _ => d2⟩
  | f + 1, .cat, c0, st, r, st', h, ho, hp => by
    obtain ⟨rfl, hc⟩ := hp
    simp only [P] at h
    obtain ⟨⟨q, s1⟩, h1, h2⟩ := Option.bind_eq_some_iff.1 h
    have r1 := P_inv n f .post _ st q s1 h1 ho ⟨rfl, hc⟩
    have r2 := P_inv n f (.catL [q]) st.cnt s1 r st' h2 r1.ok ⟨by simp, fun x hx => by rw [List.mem_singleton] at hx; subst hx; exact r1.wf, r1.bd.one, by have := r1.bd.lt (by simp only [offM]; omega); simp; omega⟩
    exact ⟨r2.wf, r2.ok, r1.to.trans r2.to (r2.still rfl), r2.bd, fun e => by cases e⟩
  | f + 1, .catL l, c0, st, r, st', h, ho, hp => by
    obtain ⟨hl, hw, hb, hlc⟩ := hp
    have hk := cnt_then l
    have hlp := len_pos hl
    have done : r = rThen l → st' = st.skip → Res (.catL l) c0 st r st' := fun e1 e2 => by
      subst e1 e2
      exact ⟨wf_then hw, ho.skip, To.skip st ho, hb.less (by simp only [offM]; omega) rfl rfl, fun _ _ => rfl⟩
    simp only [P] at h
    split at h
    · injection h with h; injection h with h1 h2
      exact done h1.symm h2.symm
    · rename_i b bs hr
      split at h
      · injection h with h; injection h with h1 h2
        exact done h1.symm h2.symm
      · have h0 : st.err = 0 := ho.skip.err0 (by rw [hr]; simp)
        obtain ⟨⟨q, s1⟩, h1, h2⟩ := Option.bind_eq_some_iff.1 h
        have hcc := (ho.ok h0).1
        have r1 := P_inv n f .post _ _ q s1 h1 ho.skip ⟨rfl, by show st.cnt ≤ _; omega⟩
        have hb1 : Bd (q.cnt + 10) 0 st.cnt s1 := r1.bd
        have r2 := P_inv n f (.catL (l ++ [q])) c0 s1 r st' h2 r1.ok ⟨by simp, fun x hx => by
          rcases List.mem_append.1 hx with hx | hx
          · exact hw x hx
          · rw [List.mem_singleton] at hx; subst hx; exact r1.wf, Bd.snoc (x := 0) (y := 0) hb h0 hb1, by have := hb1.lt (by omega); rw [List.length_append, List.length_singleton]; omega⟩
        exact ⟨r2.wf, r2.ok, ((To.skip st ho).trans r1.to (fun e => absurd h0 e)).trans r2.to (r2.still rfl), r2.bd, fun _ e => absurd h0 e⟩
  | f + 1, .post, c0, st, r, st', h, ho, hp => by
    obtain ⟨rfl, hc⟩ := hp
    simp only [P] at h
    obtain ⟨⟨q, s1⟩, h1, h2⟩ := Option.bind_eq_some_iff.1 h
    have r1 := P_inv n f .atom _ st q s1 h1 ho ⟨rfl, hc⟩
    have r2 := P_inv n f (.postL q) st.cnt s1 r st' h2 r1.ok ⟨r1.wf, r1.bd⟩
    exact ⟨r2.wf, r2.ok, r1.to.trans r2.to (r2.still rfl), r2.bd, fun e => by cases e⟩
  | f + 1, .postL x, c0, st, r, st', h, ho, hp => by
    obtain ⟨hw, hb⟩ := hp
    -- one op that was read
    have step : ∀ (y : RE) (s1 : St), Ok s1 → s1.cnt = st.cnt → s1.err = st.err → s1.deep = st.deep → s1.rest.length + 1 ≤ st.rest.length → Wf y → y.cnt ≤ 2 + 2 * x.cnt ∨ y.cnt ≤ 3 + x.cnt →
        P n f (.postL y) (sized n (y, s1)) = some (r, st') → Res (.postL x) c0 st r st' := by
      intro y s1 o1 e1 e2 e3 e4 wy hy hh
      have h0 : st.err = 0 := ho.err0 fun e => by rw [e] at e4; simp at e4
      obtain ⟨z1, z2, z3, z4, z5⟩ := sized_eq n y s1 o1.bad
      generalize hz : sized n (y, s1) = s2 at *
      have hcc := ho.ok h0
      have kb := hb.1 h0
      have kc := hb.2.2
      have o2 : Ok s2 := ⟨by rw [z1, e3]; exact ho.deep, fun e => by rw [z1, e3]; omega, z5, by omega⟩
      have r2 := P_inv n f (.postL y) c0 s2 r st' hh o2 ⟨wy, fun e => by have := (z4 e).2; omega, fun e => by omega, by omega⟩
      have t1 : To st s2 := ⟨by omega, fun e => ⟨h0, by omega⟩, fun e => ⟨z5 e, by omega⟩, by omega, by omega⟩
      exact ⟨r2.wf, r2.ok, t1.trans r2.to (r2.still rfl), r2.bd, fun _ e => absurd h0 e⟩
    have hq1 := sign_eq 42 st
    have hq2 := sign_eq 43 (st.sign 42)
    have hq3 := sign_eq 63 ((st.sign 42).sign 43)
    have hn1 := sign_len 42 st
    have hn2 := sign_len 43 (st.sign 42)
    have hn3 := sign_len 63 ((st.sign 42).sign 43)
    have o1 := ho.sign 42
    have o2 := o1.sign 43
    have o3 := o2.sign 63
    have hk1 := cnt_many x
    have hk2 := cnt_then [x, rMany x]
    have hk3 := cnt_any [x, rEmpty]
    have hk4 : cntL [x, rMany x] = x.cnt + (rMany x).cnt := by rw [cntL_cons]; simp [cntL]
    have hk5 : cntL [x, rEmpty] = x.cnt + 1 := by rw [cntL_cons, cntL_cons, cnt_empty]; rfl
    simp only [P] at h
    split at h
    · rename_i hs
      exact step _ _ o1 hq1.2.1 hq1.2.2.1 hq1.1 (sign_true hs) (wf_many hw) (.inr (by omega)) h
    split at h
    · rename_i hs
      have := sign_true hs
      refine step _ _ o2 (by omega) (hq2.2.2.1.trans hq1.2.2.1) (by omega) (by omega) (wf_then ?_) (.inl (by omega)) h
      intro y hy
      simp at hy
      rcases hy with rfl | rfl
      · exact hw
      · exact wf_many hw
    split at h
    · rename_i hs
      have := sign_true hs
      refine step _ _ o3 (by omega) (hq3.2.2.1.trans (hq2.2.2.1.trans hq1.2.2.1)) (by omega) (by omega) (wf_any ?_) (.inr (by omega)) h
      intro y hy
      simp at hy
      rcases hy with rfl | rfl
      · exact hw
      · exact wf_empty
    · injection h with h; injection h with h1 h2
      subst h1 h2
      have t := ((To.sign st ho 42).trans (To.sign _ o1 43) (fun _ => hq2.2.1)).trans (To.sign _ o2 63) (fun _ => hq3.2.1)
      exact ⟨hw, o3, t, hb.less (by simp only [offM]; omega) (by omega) (hq3.2.2.1.trans (hq2.2.2.1.trans hq1.2.2.1)), fun _ _ => by omega⟩
  | f + 1, .atom, c0, st, r, st', h, ho, hp => by
    obtain ⟨rfl, hc⟩ := hp
    have hq1 := sign_eq 40 st
    have hq2 := sign_eq 91 (st.sign 40)
    have hq3 := sign_eq 46 ((st.sign 40).sign 91)
    have hn1 := sign_len 40 st
    have hn2 := sign_len 91 (st.sign 40)
    have hn3 := sign_len 46 ((st.sign 40).sign 91)
    have o1 := ho.sign 40
    have o2 := o1.sign 91
    have o3 := o2.sign 46
    -- a part of one, counted
    have last : ∀ (y : RE) (s1 : St), Wf y → y.cnt = 1 → s1.cnt = st.cnt → s1.deep = st.deep → s1.rest.length ≤ st.rest.length → (s1.err = 0 → st.err = 0 ∧ s1.rest.length + 1 ≤ st.rest.length) → (s1.err ≠ 0 → s1.rest = []) →
        r = y → st' = s1.counted n → Res .atom st.cnt st r st' := by
      intro y s1 wy hy e1 e2 e3 e4 e5 er es
      subst er es
      obtain ⟨c1, c2, c3, c4, c5⟩ := counted_eq n s1
      have t : To st (s1.counted n) := by
        refine ⟨by omega, fun e => ?_, fun e => ⟨?_, by omega⟩, by omega, by omega⟩
        · have h1 := c4 e
          have h2 := e4 h1.1
          rw [h1.2]
          exact ⟨h2.1, by omega⟩
        · rcases c5 e with x | x
          · exact nil_of_len c3 (e5 x)
          · exact x
      exact ⟨wy, ok_of ho t hc, t, ⟨fun e => by simp only [offM, slackM]; omega, fun e => by simp only [offM, slackM]; omega, by omega⟩, fun e => by cases e⟩
    simp only [P] at h
    split at h
    · rename_i hs
      have h0 := ho.sign0 hs
      obtain ⟨⟨q, s1⟩, h1, h2⟩ := Option.map_eq_some_iff.1 h
      simp only [Prod.mk.injEq] at h2
      obtain ⟨rfl, rfl⟩ := h2
      have hlen := sign_true hs
      have hcc := (ho.ok h0).1
      have r1 := P_inv n f .group _ _ q s1 h1 o1 ⟨rfl, by omega, hq1.2.2.1.trans h0⟩
      obtain ⟨c1, c2, c3, c4, c5⟩ := counted_eq n s1
      have t1 := r1.to
      have t : To st (s1.counted n) := by
        refine ⟨by rw [c1, t1.deep]; exact hq1.1, fun e => ?_, fun e => ⟨?_, ?_⟩, by have := t1.len; omega, by have := t1.cnt; omega⟩
        · have h1 := c4 e
          have h2 := t1.ok h1.1
          rw [h1.2]
          exact ⟨h0, by omega⟩
        · rcases c5 e with x | x
          · exact nil_of_len c3 (t1.bad x).1
          · exact x
        · by_cases e1 : s1.err = 0
          · have := t1.ok e1; omega
          · have := t1.bad e1; omega
      obtain ⟨k1, k2, k3⟩ := r1.bd
      rw [hq1.2.1] at k1 k2 k3
      simp only [offM, slackM] at k1 k2
      refine ⟨r1.wf, ok_of ho t hc, t, ⟨fun e => ?_, fun e => ?_, by omega⟩, fun e => by cases e⟩
      · have := k1 (c4 e).1
        simp only [offM, slackM]; omega
      · simp only [offM, slackM]
        by_cases e1 : s1.err = 0
        · have := k1 e1; omega
        · have := k2 e1; omega
    split at h
    · rename_i hs
      obtain ⟨⟨q, s1⟩, h1, h2⟩ := Option.map_eq_some_iff.1 h
      simp only [Prod.mk.injEq] at h2
      have hlen := sign_true hs
      have h0 := o1.sign0 hs
      obtain ⟨k1, k2, k3, k4, k5⟩ := clas_eq n f _ q s1 h1 o2.bad
      exact last (rOne q) s1 (wf_one q) (cnt_one q) (by omega) (by omega) (by omega) (fun e => ⟨hq1.2.2.1 ▸ h0, by omega⟩) k5 h2.1.symm h2.2.symm
    split at h
    · rename_i hs
      injection h with h; injection h with h1 h2
      have hlen := sign_true hs
      have h0 := o2.sign0 hs
      exact last (rOne allB) _ (wf_one _) (cnt_one _) (by omega) (by omega) (by omega) (fun e => ⟨by rw [← hq1.2.2.1, ← hq2.2.2.1]; exact h0, by omega⟩) o3.bad h1.symm h2.symm
    · injection h with h; injection h with h1 h2
      obtain ⟨k1, k2, k3, k4, k5⟩ := byte_eq n (((st.sign 40).sign 91).sign 46)
      refine last _ _ (wf_one _) (cnt_one _) (by omega) (by omega) (by omega) (fun e => ?_) (fun e => ?_) h1.symm h2.symm
      · have := k4 e
        exact ⟨by rw [← hq1.2.2.1, ← hq2.2.2.1, ← hq3.2.2.1]; exact this.1, by omega⟩
      · rcases k5 e with x | x
        · exact nil_of_len k3 (o3.bad x)
        · exact x
  | f + 1, .group, c0, st, r, st', h, ho, hp => by
    obtain ⟨rfl, hc, h0⟩ := hp
    have hcc := ho.ok h0
    have od : Ok (st.deeper n) ∧ (st.deeper n).cnt = st.cnt ∧ (st.deeper n).deep = st.deep + 1 ∧ (st.deeper n).rest.length ≤ st.rest.length := by
      unfold deeper
      split
      · exact ⟨⟨by show st.deep + 1 ≤ 61; omega, fun e => absurd e (fail_err 4 _ _ (by omega)), fun _ => rfl, by show st.cnt ≤ _; omega⟩, rfl, rfl, Nat.zero_le _⟩
      · exact ⟨⟨by show st.deep + 1 ≤ 61; omega, fun e => ⟨by show st.cnt + st.rest.length ≤ _; omega, by show st.deep + 1 ≤ 60; omega⟩, fun e => absurd h0 e, by show st.cnt ≤ _; omega⟩, rfl, rfl, Nat.le_refl _⟩
    obtain ⟨od, od1, od2, od3⟩ := od
    simp only [P] at h
    generalize st.deeper n = s0 at *
    have hq := sign_eq 41 s0
    have hn := sign_len 41 s0
    have o1 := od.sign 41
    split at h
    · rename_i hs
      injection h with h; injection h with h1 h2
      subst h1 h2
      have hlen := sign_true hs
      have h00 := od.sign0 hs
      have t : To st (s0.sign 41).upper := ⟨by show (s0.sign 41).deep - 1 = _; omega, fun e => ⟨h0, by show (s0.sign 41).cnt + (s0.sign 41).rest.length ≤ _; omega⟩, fun e => absurd (hq.2.2.1.trans h00) e, by show (s0.sign 41).rest.length ≤ _; omega, by show _ ≤ (s0.sign 41).cnt; omega⟩
      exact ⟨wf_empty, ok_of ho t hc, t, ⟨fun e => by rw [cnt_empty]; show 1 + 5 + 4000 * st.cnt ≤ 4000 * (s0.sign 41).cnt + 3990; omega, fun e => absurd (hq.2.2.1.trans h00) e, by show _ ≤ (s0.sign 41).cnt; omega⟩, fun e => by cases e⟩
    · obtain ⟨⟨q, s1⟩, h1, h2⟩ := Option.map_eq_some_iff.1 h
      simp only [Prod.mk.injEq] at h2
      obtain ⟨rfl, rfl⟩ := h2
      have r1 := P_inv n f .or _ _ q s1 h1 o1 ⟨rfl, by omega⟩
      have t1 := r1.to
      have hq2 := sign_eq 41 s1
      have hn2 := sign_len 41 s1
      have o2 := r1.ok.sign 41
      obtain ⟨k1, k2, k3⟩ := r1.bd
      rw [hq.2.1] at k1 k2 k3
      simp only [offM, slackM] at k1 k2
      generalize hs2 : (if s1.signB 41 = true then s1.sign 41 else (s1.sign 41).fail 2 ((s1.sign 41).pos n)) = s2
      have c2 : s2.deep = s1.deep ∧ s2.cnt = s1.cnt ∧ s2.rest.length ≤ s1.rest.length ∧ (s2.err = 0 → s1.err = 0) ∧ (s2.err ≠ 0 → s2.rest = []) := by
        rw [← hs2]
        split
        · exact ⟨hq2.1, hq2.2.1, hn2, fun e => hq2.2.2.1 ▸ e, o2.bad⟩
        · exact ⟨hq2.1, hq2.2.1, Nat.zero_le _, fun e => absurd e (fail_err 2 _ _ (by omega)), fun _ => rfl⟩
      obtain ⟨u1, u2, u3, u4, u5⟩ := c2
      have hd1 := t1.deep
      have hl1 := t1.len
      have hc1 := t1.cnt
      have t : To st s2.upper := by
        refine ⟨by show s2.deep - 1 = _; omega, fun e => ⟨h0, ?_⟩, fun e => ⟨u5 e, ?_⟩, by show s2.rest.length ≤ _; omega, by show _ ≤ s2.cnt; omega⟩
        · show s2.cnt + s2.rest.length ≤ _
          have := t1.ok (u4 e)
          omega
        · show s2.cnt ≤ _
          by_cases e1 : s1.err = 0
          · have := t1.ok e1; omega
          · have := t1.bad e1; omega
      refine ⟨r1.wf, ok_of ho t hc, t, ⟨fun e => ?_, fun e => ?_, by show _ ≤ s2.cnt; omega⟩, fun e => by cases e⟩
      · have := k1 (u4 e)
        show q.cnt + 5 + 4000 * st.cnt ≤ 4000 * s2.cnt + 3990
        omega
      · show q.cnt + 5 + 8000 * st.cnt ≤ 8000 * s2.cnt + 3990
        by_cases e1 : s1.err = 0
        · have := k1 e1; omega
        · have := k2 e1; omega
end Go.Proofs.YtdbdjjjmomociaaGreatDoor
/- The reader as a function: it always comes to an end. -/
namespace Go.Proofs.YtdbdjjjmomociaaGreatDoor
set_option maxRecDepth 100000
set_option linter.unusedSimpArgs false
set_option linter.unusedVariables false
open St

theorem classL_total (n : Nat) : ∀ (f : Nat) (s : BitVec 256) (st : St), (st.err ≠ 0 → st.rest = []) → (st.err = 0 → st.rest.length + 2 ≤ f) → 1 ≤ f → ∃ q, classL n f s st = some q
  | 0, s, st, _, _, h => by omega
  | f + 1, s, st, hb, hf, _ => by
    unfold classL
    split
    · exact ⟨_, rfl⟩
    · split
      · rename_i h0
        have hf := hf h0
        simp only
        generalize hst2 : st.byte n = st2
        generalize hst3 : (if st2.isAt 45 = true then (st2.here 45).byte n else st2) = st3
        generalize hhi : (if st2.isAt 45 = true then (st2.here 45).byteV else st.byteV) = high
        generalize hst4 : (if high < st.byteV then st3.fail 2 (st3.pos n) else st3) = st4
        obtain ⟨b1, b2, b3, b4, b5⟩ := byte_eq n st
        rw [hst2] at b1 b2 b3 b4 b5
        have hb2 : st2.err ≠ 0 → st2.rest = [] := fun e => (b5 e).resolve_left (fun x => x h0)
        have c3 : (st3.err = 0 → st3.rest.length + 1 ≤ st.rest.length) ∧ (st3.err ≠ 0 → st3.rest = []) := by
          rw [← hst3]
          split
          · obtain ⟨d1, d2, d3, d4, d5⟩ := byte_eq n (st2.here 45)
            obtain ⟨e1, e2, e3, -⟩ := here_eq 45 st2
            have e4 := here_len 45 st2
            refine ⟨fun e => ?_, fun e => ?_⟩
            · have := d4 e
              have := b4 (e3 ▸ this.1)
              omega
            · rcases d5 e with x | x
              · exact nil_of_len d3 (nil_of_len e4 (hb2 (e3 ▸ x)))
              · exact x
          · exact ⟨fun e => (b4 e).2, hb2⟩
        have c4 : (st4.err = 0 → st4.rest.length + 1 ≤ st.rest.length) ∧ (st4.err ≠ 0 → st4.rest = []) := by
          rw [← hst4]
          split
          · exact ⟨fun e => absurd e (fail_err 2 _ _ (by omega)), fun _ => rfl⟩
          · exact c3
        exact classL_total n f _ st4 c4.2 (fun e => by have := c4.1 e; omega) (by omega)
      · exact ⟨_, rfl⟩
theorem clas_total (n f : Nat) (st : St) (hb : st.err ≠ 0 → st.rest = []) (hf : st.rest.length + 2 ≤ f) : ∃ q, clas n f st = some q := by
  unfold clas
  split
  · obtain ⟨e1, e2, e3, -⟩ := here_eq 94 st
    have hl := here_len 94 st
    obtain ⟨q, hq⟩ := classL_total n f 0#256 (st.here 94) (fun e => nil_of_len hl (hb (e3 ▸ e))) (fun _ => by omega) (by omega)
    exact ⟨_, by rw [hq]; rfl⟩
  · exact classL_total n f 0#256 st hb (fun _ => hf) (by omega)

def rankM : Md → Nat
  | .or => 7 | .orL _ => 1 | .minus => 6 | .minusL _ => 1 | .and => 5 | .andL _ => 1 | .cat => 4 | .catL _ => 3 | .post => 2 | .postL _ => 1 | .atom => 1 | .group => 8

theorem Res.len {m : Md} {c0 : Nat} {st : St} {r : RE} {st' : St} (h : Res m c0 st r st') : st'.rest.length ≤ st.rest.length := h.to.len
/-- A part that was read has taken something, or nothing is left. -/
theorem Res.less {m : Md} {st : St} {r : RE} {st' : St} (h : Res m st.cnt st r st') (hs : slackM m = 0) (hn : st.rest ≠ []) : st'.rest.length + 1 ≤ st.rest.length := by
  have hb := h.bd
  rw [hs] at hb
  have hlt := hb.lt (by cases m <;> simp only [offM] <;> omega)
  have hp : 1 ≤ st.rest.length := by cases hr : st.rest with | nil => exact absurd hr hn | cons => simp
  by_cases e : st'.err = 0
  · have := h.to.ok e; omega
  · have := (h.to.bad e).1
    rw [this]; simpa using hp

theorem P_total (n : Nat) : ∀ (f : Nat) (m : Md) (c0 : Nat) (st : St), Ok st → Pre c0 st m → 20 * st.rest.length + rankM m < f → ∃ q, P n f m st = some q
  | 0, m, c0, st, _, _, h => by omega
  | f + 1, .or, c0, st, ho, hp, hf => by
    obtain ⟨rfl, hc⟩ := hp
    simp only [rankM] at hf
    obtain ⟨⟨q, s1⟩, h1⟩ := P_total n f .minus _ st ho ⟨rfl, hc⟩ (by simp only [rankM]; omega)
    have r1 := P_inv n f .minus _ st q s1 h1 ho ⟨rfl, hc⟩
    have hl := r1.len
    simp only [P, h1, Option.bind_some]
    exact P_total n f (.orL [q]) st.cnt s1 r1.ok ⟨by simp, fun x hx => by rw [List.mem_singleton] at hx; subst hx; exact r1.wf, r1.bd.one, by have := r1.bd.lt (by simp only [offM]; omega); simp; omega⟩ (by simp only [rankM]; omega)
  | f + 1, .orL l, c0, st, ho, hp, hf => by
    obtain ⟨hl, hw, hb, hlc⟩ := hp
    simp only [rankM] at hf
    simp only [P]
    split
    · rename_i hs
      have h0 := ho.sign0 hs
      obtain ⟨d1, d2, d3, -⟩ := sign_eq 124 st
      have hlen := sign_true hs
      have hcc := (ho.ok h0).1
      have hpre : Pre (st.sign 124).cnt (st.sign 124) .minus := ⟨rfl, by omega⟩
      obtain ⟨⟨q, s1⟩, h1⟩ := P_total n f .minus _ _ (ho.sign 124) hpre (by simp only [rankM]; omega)
      have r1 := P_inv n f .minus _ _ q s1 h1 (ho.sign 124) hpre
      have hl1 := r1.len
      have hb1 : Bd (q.cnt + 7) 0 st.cnt s1 := by rw [← d2]; exact r1.bd
      simp only [h1, Option.bind_some]
      exact P_total n f (.orL (l ++ [q])) c0 s1 r1.ok ⟨by simp, fun x hx => by
        rcases List.mem_append.1 hx with hx | hx
        · exact hw x hx
        · rw [List.mem_singleton] at hx; subst hx; exact r1.wf, Bd.snoc (x := 0) (y := 0) hb h0 hb1, by have := hb1.lt (by omega); rw [List.length_append, List.length_singleton]; omega⟩ (by simp only [rankM]; omega)
    · exact ⟨_, rfl⟩
  | f + 1, .minus, c0, st, ho, hp, hf => by
    obtain ⟨rfl, hc⟩ := hp
    simp only [rankM] at hf
    obtain ⟨⟨q, s1⟩, h1⟩ := P_total n f .and _ st ho ⟨rfl, hc⟩ (by simp only [rankM]; omega)
    have r1 := P_inv n f .and _ st q s1 h1 ho ⟨rfl, hc⟩
    have hl := r1.len
    simp only [P, h1, Option.bind_some]
    exact P_total n f (.minusL q) st.cnt s1 r1.ok ⟨r1.wf, r1.bd⟩ (by simp only [rankM]; omega)
  | f + 1, .minusL x, c0, st, ho, hp, hf => by
    obtain ⟨hw, hb⟩ := hp
    simp only [rankM] at hf
    simp only [P]
    split
    · rename_i hs
      have h0 := ho.sign0 hs
      obtain ⟨d1, d2, d3, -⟩ := sign_eq 45 st
      have hlen := sign_true hs
      have hcc := (ho.ok h0).1
      have hpre : Pre (st.sign 45).cnt (st.sign 45) .and := ⟨rfl, by omega⟩
      obtain ⟨⟨q, s1⟩, h1⟩ := P_total n f .and _ _ (ho.sign 45) hpre (by simp only [rankM]; omega)
      have r1 := P_inv n f .and _ _ q s1 h1 (ho.sign 45) hpre
      have hl1 := r1.len
      obtain ⟨k1, k2, k3⟩ := r1.bd
      rw [d2] at k1 k2 k3
      simp only [offM, slackM] at k1 k2
      have kb := hb.1 h0
      have kc := hb.2.2
      have hk := cnt_but x q
      simp only [h1, Option.bind_some]
      exact P_total n f (.minusL (rBut x q)) c0 s1 r1.ok ⟨wf_but hw r1.wf, fun e => by have := k1 e; omega, fun e => by have := k2 e; omega, by omega⟩ (by simp only [rankM]; omega)
    · exact ⟨_, rfl⟩
  | f + 1, .and, c0, st, ho, hp, hf => by
    obtain ⟨rfl, hc⟩ := hp
    simp only [rankM] at hf
    obtain ⟨⟨q, s1⟩, h1⟩ := P_total n f .cat _ st ho ⟨rfl, hc⟩ (by simp only [rankM]; omega)
    have r1 := P_inv n f .cat _ st q s1 h1 ho ⟨rfl, hc⟩
    have hl := r1.len
    simp only [P, h1, Option.bind_some]
    exact P_total n f (.andL [q]) st.cnt s1 r1.ok ⟨by simp, fun x hx => by rw [List.mem_singleton] at hx; subst hx; exact r1.wf, r1.bd.one, by have := r1.bd.lt (by simp only [offM]; omega); simp; omega⟩ (by simp only [rankM]; omega)
  | f + 1, .andL l, c0, st, ho, hp, hf => by
    obtain ⟨hl, hw, hb, hlc⟩ := hp
    simp only [rankM] at hf
    simp only [P]
    split
    · rename_i hs
      have h0 := ho.sign0 hs
      obtain ⟨d1, d2, d3, -⟩ := sign_eq 38 st
      have hlen := sign_true hs
      have hcc := (ho.ok h0).1
      have hpre : Pre (st.sign 38).cnt (st.sign 38) .cat := ⟨rfl, by omega⟩
      obtain ⟨⟨q, s1⟩, h1⟩ := P_total n f .cat _ _ (ho.sign 38) hpre (by simp only [rankM]; omega)
      have r1 := P_inv n f .cat _ _ q s1 h1 (ho.sign 38) hpre
      have hl1 := r1.len
      have hb1 : Bd (q.cnt + 9) 0 st.cnt s1 := by rw [← d2]; exact r1.bd
      simp only [h1, Option.bind_some]
      exact P_total n f (.andL (l ++ [q])) c0 s1 r1.ok ⟨by simp, fun x hx => by
        rcases List.mem_append.1 hx with hx | hx
        · exact hw x hx
        · rw [List.mem_singleton] at hx; subst hx; exact r1.wf, Bd.snoc (x := 0) (y := 0) hb h0 hb1, by have := hb1.lt (by omega); rw [List.length_append, List.length_singleton]; omega⟩ (by simp only [rankM]; omega)
    · exact ⟨_, rfl⟩
  | f + 1, .cat, c0, st, ho, hp, hf => by
    obtain ⟨rfl, hc⟩ := hp
    simp only [rankM] at hf
    obtain ⟨⟨q, s1⟩, h1⟩ := P_total n f .post _ st ho ⟨rfl, hc⟩ (by simp only [rankM]; omega)
    have r1 := P_inv n f .post _ st q s1 h1 ho ⟨rfl, hc⟩
    have hl := r1.len
    simp only [P, h1, Option.bind_some]
    exact P_total n f (.catL [q]) st.cnt s1 r1.ok ⟨by simp, fun x hx => by rw [List.mem_singleton] at hx; subst hx; exact r1.wf, r1.bd.one, by have := r1.bd.lt (by simp only [offM]; omega); simp; omega⟩ (by simp only [rankM]; omega)
  | f + 1, .catL l, c0, st, ho, hp, hf => by
    obtain ⟨hl, hw, hb, hlc⟩ := hp
    simp only [rankM] at hf
    simp only [P]
    split
    · exact ⟨_, rfl⟩
    · rename_i b bs hr
      split
      · exact ⟨_, rfl⟩
      · have h0 : st.err = 0 := ho.skip.err0 (by rw [hr]; simp)
        have hcc := (ho.ok h0).1
        have hsl := skip_len st
        have hpre : Pre st.skip.cnt st.skip .post := ⟨rfl, by show st.cnt ≤ _; omega⟩
        obtain ⟨⟨q, s1⟩, h1⟩ := P_total n f .post _ _ ho.skip hpre (by simp only [rankM]; omega)
        have r1 := P_inv n f .post _ _ q s1 h1 ho.skip hpre
        have hl1 := r1.less rfl (by rw [hr]; simp)
        have hb1 : Bd (q.cnt + 10) 0 st.cnt s1 := r1.bd
        simp only [h1, Option.bind_some]
        exact P_total n f (.catL (l ++ [q])) c0 s1 r1.ok ⟨by simp, fun x hx => by
          rcases List.mem_append.1 hx with hx | hx
          · exact hw x hx
          · rw [List.mem_singleton] at hx; subst hx; exact r1.wf, Bd.snoc (x := 0) (y := 0) hb h0 hb1, by have := hb1.lt (by omega); rw [List.length_append, List.length_singleton]; omega⟩ (by simp only [rankM]; omega)
  | f + 1, .post, c0, st, ho, hp, hf => by
    obtain ⟨rfl, hc⟩ := hp
    simp only [rankM] at hf
    obtain ⟨⟨q, s1⟩, h1⟩ := P_total n f .atom _ st ho ⟨rfl, hc⟩ (by simp only [rankM]; omega)
    have r1 := P_inv n f .atom _ st q s1 h1 ho ⟨rfl, hc⟩
    have hl := r1.len
    simp only [P, h1, Option.bind_some]
    exact P_total n f (.postL q) st.cnt s1 r1.ok ⟨r1.wf, r1.bd⟩ (by simp only [rankM]; omega)
  | f + 1, .postL x, c0, st, ho, hp, hf => by
    simp only [rankM] at hf
    obtain ⟨hw, hb⟩ := hp
    have step : ∀ (y : RE) (s1 : St), Ok s1 → s1.cnt = st.cnt → s1.err = st.err → s1.deep = st.deep → s1.rest.length + 1 ≤ st.rest.length → Wf y → y.cnt ≤ 2 + 2 * x.cnt ∨ y.cnt ≤ 3 + x.cnt →
        ∃ q, P n f (.postL y) (sized n (y, s1)) = some q := by
      intro y s1 o1 e1 e2 e3 e4 wy hy
      have h0 : st.err = 0 := ho.err0 fun e => by rw [e] at e4; simp at e4
      obtain ⟨z1, z2, z3, z4, z5⟩ := sized_eq n y s1 o1.bad
      generalize sized n (y, s1) = s2 at *
      have hcc := ho.ok h0
      have kb := hb.1 h0
      have kc := hb.2.2
      have o2 : Ok s2 := ⟨by rw [z1, e3]; exact ho.deep, fun e => by rw [z1, e3]; omega, z5, by omega⟩
      exact P_total n f (.postL y) c0 s2 o2 ⟨wy, fun e => by have := (z4 e).2; omega, fun e => by omega, by omega⟩ (by simp only [rankM]; omega)
    have hq1 := sign_eq 42 st
    have hq2 := sign_eq 43 (st.sign 42)
    have hq3 := sign_eq 63 ((st.sign 42).sign 43)
    have hn1 := sign_len 42 st
    have hn2 := sign_len 43 (st.sign 42)
    have hn3 := sign_len 63 ((st.sign 42).sign 43)
    have o1 := ho.sign 42
    have o2 := o1.sign 43
    have o3 := o2.sign 63
    have hk1 := cnt_many x
    have hk2 := cnt_then [x, rMany x]
    have hk3 := cnt_any [x, rEmpty]
    have hk4 : cntL [x, rMany x] = x.cnt + (rMany x).cnt := by rw [cntL_cons]; simp [cntL]
    have hk5 : cntL [x, rEmpty] = x.cnt + 1 := by rw [cntL_cons, cntL_cons, cnt_empty]; rfl
    simp only [P]
    split
    · rename_i hs
      exact step _ _ o1 hq1.2.1 hq1.2.2.1 hq1.1 (sign_true hs) (wf_many hw) (.inr (by omega))
    split
    · rename_i hs
      have := sign_true hs
      refine step _ _ o2 (by omega) (hq2.2.2.1.trans hq1.2.2.1) (by omega) (by omega) (wf_then ?_) (.inl (by omega))
      intro y hy
      simp at hy
      rcases hy with rfl | rfl
      · exact hw
      · exact wf_many hw
    split
    · rename_i hs
      have := sign_true hs
      refine step _ _ o3 (by omega) (hq3.2.2.1.trans (hq2.2.2.1.trans hq1.2.2.1)) (by omega) (by omega) (wf_any ?_) (.inr (by omega))
      intro y hy
      simp at hy
      rcases hy with rfl | rfl
      · exact hw
      · exact wf_empty
    · exact ⟨_, rfl⟩
  | f + 1, .atom, c0, st, ho, hp, hf => by
    obtain ⟨rfl, hc⟩ := hp
    simp only [rankM] at hf
    have hq1 := sign_eq 40 st
    have hn1 := sign_len 40 st
    have hn2 := sign_len 91 (st.sign 40)
    have o1 := ho.sign 40
    have o2 := o1.sign 91
    simp only [P]
    split
    · rename_i hs
      have h0 := ho.sign0 hs
      have hlen := sign_true hs
      obtain ⟨q, h1⟩ := P_total n f .group _ _ o1 ⟨rfl, by omega, hq1.2.2.1.trans h0⟩ (by simp only [rankM]; omega)
      exact ⟨_, by rw [h1]; rfl⟩
    split
    · rename_i hs
      have hlen := sign_true hs
      obtain ⟨q, h1⟩ := clas_total n f _ o2.bad (by omega)
      exact ⟨_, by rw [h1]; rfl⟩
    split
    · exact ⟨_, rfl⟩
    · exact ⟨_, rfl⟩
  | f + 1, .group, c0, st, ho, hp, hf => by
    obtain ⟨rfl, hc, h0⟩ := hp
    simp only [rankM] at hf
    have hcc := ho.ok h0
    have od : Ok (st.deeper n) ∧ (st.deeper n).cnt = st.cnt ∧ (st.deeper n).rest.length ≤ st.rest.length := by
      unfold deeper
      split
      · exact ⟨⟨by show st.deep + 1 ≤ 61; omega, fun e => absurd e (fail_err 4 _ _ (by omega)), fun _ => rfl, by show st.cnt ≤ _; omega⟩, rfl, Nat.zero_le _⟩
      · exact ⟨⟨by show st.deep + 1 ≤ 61; omega, fun e => ⟨by show st.cnt + st.rest.length ≤ _; omega, by show st.deep + 1 ≤ 60; omega⟩, fun e => absurd h0 e, by show st.cnt ≤ _; omega⟩, rfl, Nat.le_refl _⟩
    obtain ⟨od, od1, od3⟩ := od
    simp only [P]
    generalize st.deeper n = s0 at *
    have hq := sign_eq 41 s0
    have hn := sign_len 41 s0
    split
    · exact ⟨_, rfl⟩
    · obtain ⟨q, h1⟩ := P_total n f .or _ _ (od.sign 41) ⟨rfl, by omega⟩ (by simp only [rankM]; omega)
      exact ⟨_, by rw [h1]; rfl⟩

/-- Before anything was read. -/
def St.init (l : List Nat) : St := ⟨l, 0, 0, 0, 0⟩
theorem init_ok {l : List Nat} (h : l.length ≤ 65536) : Ok (St.init l) := ⟨by show 0 ≤ 61; omega, fun _ => ⟨by show 0 + l.length ≤ _; omega, by show 0 ≤ 60; omega⟩, fun e => absurd rfl e, by show 0 ≤ _; omega⟩
/-- The whole text: what it is, and the state behind it. -/
def readQ (l : List Nat) : RE × St := (P l.length (20 * l.length + 8) .or (St.init l)).getD (rNothing, St.init l)
theorem readQ_some {l : List Nat} (h : l.length ≤ 65536) : P l.length (20 * l.length + 8) .or (St.init l) = some (readQ l) := by
  obtain ⟨q, hq⟩ := P_total l.length (20 * l.length + 8) .or 0 (St.init l) (init_ok h) ⟨rfl, by show 0 ≤ _; omega⟩ (by show 20 * l.length + 7 < _; omega)
  unfold readQ
  rw [hq]; rfl
/-- The state at the end: an error, or none. -/
def rdEnd (l : List Nat) : St :=
  let q := readQ l
  let s1 := if q.2.skip.rest.isEmpty then q.2.skip else q.2.skip.fail 2 (q.2.skip.pos l.length)
  if s1.err = 0 ∧ 1000 < q.1.size then s1.fail 3 0 else s1
end Go.Proofs.YtdbdjjjmomociaaGreatDoor
/- The reader's steps, one by one; its run at the document's example. -/
namespace Go.Proofs.YtdbdjjjmomociaaGreatDoor
set_option maxRecDepth 100000
set_option linter.unusedSimpArgs false
set_option linter.unusedVariables false
open Go.RowKit Go.Shelf St

section
variable {n f : Nat} {st s1 s2 : St} {a : RE} {l : List RE} {z : RE × St}
theorem P_or (h1 : P n f .minus st = some (a, s1)) (h2 : P n f (.orL [a]) s1 = some z) : P n (f + 1) .or st = some z := by rw [P, h1]; exact h2
theorem P_minus (h1 : P n f .and st = some (a, s1)) (h2 : P n f (.minusL a) s1 = some z) : P n (f + 1) .minus st = some z := by rw [P, h1]; exact h2
theorem P_and (h1 : P n f .cat st = some (a, s1)) (h2 : P n f (.andL [a]) s1 = some z) : P n (f + 1) .and st = some z := by rw [P, h1]; exact h2
theorem P_cat (h1 : P n f .post st = some (a, s1)) (h2 : P n f (.catL [a]) s1 = some z) : P n (f + 1) .cat st = some z := by rw [P, h1]; exact h2
theorem P_post (h1 : P n f .atom st = some (a, s1)) (h2 : P n f (.postL a) s1 = some z) : P n (f + 1) .post st = some z := by rw [P, h1]; exact h2
theorem P_orL (hb : st.signB 124 = true) (h1 : P n f .minus (st.sign 124) = some (a, s1)) (h2 : P n f (.orL (l ++ [a])) s1 = some z) : P n (f + 1) (.orL l) st = some z := by rw [P, if_pos hb, h1]; exact h2
theorem P_orLE (hb : st.signB 124 = false) : P n (f + 1) (.orL l) st = some (rAny l, st.sign 124) := by rw [P, if_neg (by simp [hb])]
theorem P_andL (hb : st.signB 38 = true) (h1 : P n f .cat (st.sign 38) = some (a, s1)) (h2 : P n f (.andL (l ++ [a])) s1 = some z) : P n (f + 1) (.andL l) st = some z := by rw [P, if_pos hb, h1]; exact h2
theorem P_andLE (hb : st.signB 38 = false) : P n (f + 1) (.andL l) st = some (rBoth l, st.sign 38) := by rw [P, if_neg (by simp [hb])]
theorem P_minusL {r : RE} (hb : st.signB 45 = true) (h1 : P n f .and (st.sign 45) = some (a, s1)) (h2 : P n f (.minusL (rBut r a)) s1 = some z) : P n (f + 1) (.minusL r) st = some z := by rw [P, if_pos hb, h1]; exact h2
theorem P_minusLE {r : RE} (hb : st.signB 45 = false) : P n (f + 1) (.minusL r) st = some (r, st.sign 45) := by rw [P, if_neg (by simp [hb])]
theorem P_catL {b : Nat} {t : List Nat} (hs : st.skip.rest = b :: t) (hb : [124, 45, 38, 41].contains b = false) (h1 : P n f .post st.skip = some (a, s1)) (h2 : P n f (.catL (l ++ [a])) s1 = some z) : P n (f + 1) (.catL l) st = some z := by
  rw [P, hs]
  simp only [hb]
  rw [if_neg (by simp), h1]; exact h2
theorem P_star {r : RE} (hb : st.signB 42 = true) (hz : ¬ 1000 < (rMany r).size) (hc : (st.sign 42).counted n = s1) (h2 : P n f (.postL (rMany r)) s1 = some z) : P n (f + 1) (.postL r) st = some z := by
  rw [P, if_pos hb]
  unfold sized
  rw [if_neg hz]
  show P n f (.postL (rMany r)) ((st.sign 42).counted n) = _
  rw [hc]; exact h2
theorem P_paren (hb : st.signB 40 = true) (h1 : P n f .group (st.sign 40) = some (a, s1)) (hc : s1.counted n = s2) : P n (f + 1) .atom st = some (a, s2) := by
  rw [P, if_pos hb, h1, ← hc]; rfl
theorem P_group (hb : (st.deeper n).signB 41 = false) (h1 : P n f .or ((st.deeper n).sign 41) = some (a, s1)) (hc : (if s1.signB 41 then s1.sign 41 else (s1.sign 41).fail 2 ((s1.sign 41).pos n)).upper = s2) : P n (f + 1) .group st = some (a, s2) := by
  rw [P, if_neg (by simp [hb]), h1, ← hc]; rfl
end

/-- The document's example: (a|b)*c-abc. -/
def exL : List Nat := [40, 97, 124, 98, 41, 42, 99, 45, 97, 98, 99]
set_option maxHeartbeats 1000000 in
theorem ex_P (hz1 : ¬ 1000 < ((rMany (rAny [(rBoth [(rThen [(rOne (setOf [97]))])]), (rBoth [(rThen [(rOne (setOf [98]))])])]))).size) : P 11 228 .or (St.init exL) = some ((rAny [(rBut (rBoth [(rThen [(rMany (rAny [(rBoth [(rThen [(rOne (setOf [97]))])]), (rBoth [(rThen [(rOne (setOf [98]))])])])), (rOne (setOf [99]))])]) (rBoth [(rThen [(rOne (setOf [97])), (rOne (setOf [98])), (rOne (setOf [99]))])]))]), ⟨[], 0, 8, 0, 0⟩) := by
  have h1 : P 11 216 .atom ⟨[97, 124, 98, 41, 42, 99, 45, 97, 98, 99], 1, 0, 0, 0⟩ = some ((rOne (setOf [97])), ⟨[124, 98, 41, 42, 99, 45, 97, 98, 99], 1, 1, 0, 0⟩) := rfl
  have h2 : P 11 216 (.postL (rOne (setOf [97]))) ⟨[124, 98, 41, 42, 99, 45, 97, 98, 99], 1, 1, 0, 0⟩ = some ((rOne (setOf [97])), ⟨[124, 98, 41, 42, 99, 45, 97, 98, 99], 1, 1, 0, 0⟩) := rfl
  have h3 : P 11 217 .post ⟨[97, 124, 98, 41, 42, 99, 45, 97, 98, 99], 1, 0, 0, 0⟩ = some ((rOne (setOf [97])), ⟨[124, 98, 41, 42, 99, 45, 97, 98, 99], 1, 1, 0, 0⟩) := P_post h1 h2
  have h4 : P 11 217 (.catL [(rOne (setOf [97]))]) ⟨[124, 98, 41, 42, 99, 45, 97, 98, 99], 1, 1, 0, 0⟩ = some ((rThen [(rOne (setOf [97]))]), ⟨[124, 98, 41, 42, 99, 45, 97, 98, 99], 1, 1, 0, 0⟩) := rfl
  have h5 : P 11 218 .cat ⟨[97, 124, 98, 41, 42, 99, 45, 97, 98, 99], 1, 0, 0, 0⟩ = some ((rThen [(rOne (setOf [97]))]), ⟨[124, 98, 41, 42, 99, 45, 97, 98, 99], 1, 1, 0, 0⟩) := P_cat h3 h4
  have h6 : P 11 218 (.andL [(rThen [(rOne (setOf [97]))])]) ⟨[124, 98, 41, 42, 99, 45, 97, 98, 99], 1, 1, 0, 0⟩ = some ((rBoth [(rThen [(rOne (setOf [97]))])]), ⟨[124, 98, 41, 42, 99, 45, 97, 98, 99], 1, 1, 0, 0⟩) := P_andLE rfl
  have h7 : P 11 219 .and ⟨[97, 124, 98, 41, 42, 99, 45, 97, 98, 99], 1, 0, 0, 0⟩ = some ((rBoth [(rThen [(rOne (setOf [97]))])]), ⟨[124, 98, 41, 42, 99, 45, 97, 98, 99], 1, 1, 0, 0⟩) := P_and h5 h6
  have h8 : P 11 219 (.minusL (rBoth [(rThen [(rOne (setOf [97]))])])) ⟨[124, 98, 41, 42, 99, 45, 97, 98, 99], 1, 1, 0, 0⟩ = some ((rBoth [(rThen [(rOne (setOf [97]))])]), ⟨[124, 98, 41, 42, 99, 45, 97, 98, 99], 1, 1, 0, 0⟩) := P_minusLE rfl
  have h9 : P 11 220 .minus ⟨[97, 124, 98, 41, 42, 99, 45, 97, 98, 99], 1, 0, 0, 0⟩ = some ((rBoth [(rThen [(rOne (setOf [97]))])]), ⟨[124, 98, 41, 42, 99, 45, 97, 98, 99], 1, 1, 0, 0⟩) := P_minus h7 h8
  have h10 : P 11 215 .atom ⟨[98, 41, 42, 99, 45, 97, 98, 99], 1, 1, 0, 0⟩ = some ((rOne (setOf [98])), ⟨[41, 42, 99, 45, 97, 98, 99], 1, 2, 0, 0⟩) := rfl
  have h11 : P 11 215 (.postL (rOne (setOf [98]))) ⟨[41, 42, 99, 45, 97, 98, 99], 1, 2, 0, 0⟩ = some ((rOne (setOf [98])), ⟨[41, 42, 99, 45, 97, 98, 99], 1, 2, 0, 0⟩) := rfl
  have h12 : P 11 216 .post ⟨[98, 41, 42, 99, 45, 97, 98, 99], 1, 1, 0, 0⟩ = some ((rOne (setOf [98])), ⟨[41, 42, 99, 45, 97, 98, 99], 1, 2, 0, 0⟩) := P_post h10 h11
  have h13 : P 11 216 (.catL [(rOne (setOf [98]))]) ⟨[41, 42, 99, 45, 97, 98, 99], 1, 2, 0, 0⟩ = some ((rThen [(rOne (setOf [98]))]), ⟨[41, 42, 99, 45, 97, 98, 99], 1, 2, 0, 0⟩) := rfl
  have h14 : P 11 217 .cat ⟨[98, 41, 42, 99, 45, 97, 98, 99], 1, 1, 0, 0⟩ = some ((rThen [(rOne (setOf [98]))]), ⟨[41, 42, 99, 45, 97, 98, 99], 1, 2, 0, 0⟩) := P_cat h12 h13
  have h15 : P 11 217 (.andL [(rThen [(rOne (setOf [98]))])]) ⟨[41, 42, 99, 45, 97, 98, 99], 1, 2, 0, 0⟩ = some ((rBoth [(rThen [(rOne (setOf [98]))])]), ⟨[41, 42, 99, 45, 97, 98, 99], 1, 2, 0, 0⟩) := P_andLE rfl
  have h16 : P 11 218 .and ⟨[98, 41, 42, 99, 45, 97, 98, 99], 1, 1, 0, 0⟩ = some ((rBoth [(rThen [(rOne (setOf [98]))])]), ⟨[41, 42, 99, 45, 97, 98, 99], 1, 2, 0, 0⟩) := P_and h14 h15
  have h17 : P 11 218 (.minusL (rBoth [(rThen [(rOne (setOf [98]))])])) ⟨[41, 42, 99, 45, 97, 98, 99], 1, 2, 0, 0⟩ = some ((rBoth [(rThen [(rOne (setOf [98]))])]), ⟨[41, 42, 99, 45, 97, 98, 99], 1, 2, 0, 0⟩) := P_minusLE rfl
  have h18 : P 11 219 .minus ⟨[98, 41, 42, 99, 45, 97, 98, 99], 1, 1, 0, 0⟩ = some ((rBoth [(rThen [(rOne (setOf [98]))])]), ⟨[41, 42, 99, 45, 97, 98, 99], 1, 2, 0, 0⟩) := P_minus h16 h17
  have h19 : P 11 219 (.orL [(rBoth [(rThen [(rOne (setOf [97]))])]), (rBoth [(rThen [(rOne (setOf [98]))])])]) ⟨[41, 42, 99, 45, 97, 98, 99], 1, 2, 0, 0⟩ = some ((rAny [(rBoth [(rThen [(rOne (setOf [97]))])]), (rBoth [(rThen [(rOne (setOf [98]))])])]), ⟨[41, 42, 99, 45, 97, 98, 99], 1, 2, 0, 0⟩) := P_orLE rfl
  have h20 : P 11 220 (.orL [(rBoth [(rThen [(rOne (setOf [97]))])])]) ⟨[124, 98, 41, 42, 99, 45, 97, 98, 99], 1, 1, 0, 0⟩ = some ((rAny [(rBoth [(rThen [(rOne (setOf [97]))])]), (rBoth [(rThen [(rOne (setOf [98]))])])]), ⟨[41, 42, 99, 45, 97, 98, 99], 1, 2, 0, 0⟩) := P_orL rfl h18 h19
  have h21 : P 11 221 .or ⟨[97, 124, 98, 41, 42, 99, 45, 97, 98, 99], 1, 0, 0, 0⟩ = some ((rAny [(rBoth [(rThen [(rOne (setOf [97]))])]), (rBoth [(rThen [(rOne (setOf [98]))])])]), ⟨[41, 42, 99, 45, 97, 98, 99], 1, 2, 0, 0⟩) := P_or h9 h20
  have h22 : P 11 222 .group ⟨[97, 124, 98, 41, 42, 99, 45, 97, 98, 99], 0, 0, 0, 0⟩ = some ((rAny [(rBoth [(rThen [(rOne (setOf [97]))])]), (rBoth [(rThen [(rOne (setOf [98]))])])]), ⟨[42, 99, 45, 97, 98, 99], 0, 2, 0, 0⟩) := P_group rfl h21 rfl
  have h23 : P 11 223 .atom ⟨[40, 97, 124, 98, 41, 42, 99, 45, 97, 98, 99], 0, 0, 0, 0⟩ = some ((rAny [(rBoth [(rThen [(rOne (setOf [97]))])]), (rBoth [(rThen [(rOne (setOf [98]))])])]), ⟨[42, 99, 45, 97, 98, 99], 0, 3, 0, 0⟩) := P_paren rfl h22 rfl
  have h24 : P 11 222 (.postL (rMany (rAny [(rBoth [(rThen [(rOne (setOf [97]))])]), (rBoth [(rThen [(rOne (setOf [98]))])])]))) ⟨[99, 45, 97, 98, 99], 0, 4, 0, 0⟩ = some ((rMany (rAny [(rBoth [(rThen [(rOne (setOf [97]))])]), (rBoth [(rThen [(rOne (setOf [98]))])])])), ⟨[99, 45, 97, 98, 99], 0, 4, 0, 0⟩) := rfl
  have h25 : P 11 223 (.postL (rAny [(rBoth [(rThen [(rOne (setOf [97]))])]), (rBoth [(rThen [(rOne (setOf [98]))])])])) ⟨[42, 99, 45, 97, 98, 99], 0, 3, 0, 0⟩ = some ((rMany (rAny [(rBoth [(rThen [(rOne (setOf [97]))])]), (rBoth [(rThen [(rOne (setOf [98]))])])])), ⟨[99, 45, 97, 98, 99], 0, 4, 0, 0⟩) := P_star rfl hz1 rfl h24
  have h26 : P 11 224 .post ⟨[40, 97, 124, 98, 41, 42, 99, 45, 97, 98, 99], 0, 0, 0, 0⟩ = some ((rMany (rAny [(rBoth [(rThen [(rOne (setOf [97]))])]), (rBoth [(rThen [(rOne (setOf [98]))])])])), ⟨[99, 45, 97, 98, 99], 0, 4, 0, 0⟩) := P_post h23 h25
  have h27 : P 11 222 .atom ⟨[99, 45, 97, 98, 99], 0, 4, 0, 0⟩ = some ((rOne (setOf [99])), ⟨[45, 97, 98, 99], 0, 5, 0, 0⟩) := rfl
  have h28 : P 11 222 (.postL (rOne (setOf [99]))) ⟨[45, 97, 98, 99], 0, 5, 0, 0⟩ = some ((rOne (setOf [99])), ⟨[45, 97, 98, 99], 0, 5, 0, 0⟩) := rfl
  have h29 : P 11 223 .post ⟨[99, 45, 97, 98, 99], 0, 4, 0, 0⟩ = some ((rOne (setOf [99])), ⟨[45, 97, 98, 99], 0, 5, 0, 0⟩) := P_post h27 h28
  have h30 : P 11 223 (.catL [(rMany (rAny [(rBoth [(rThen [(rOne (setOf [97]))])]), (rBoth [(rThen [(rOne (setOf [98]))])])])), (rOne (setOf [99]))]) ⟨[45, 97, 98, 99], 0, 5, 0, 0⟩ = some ((rThen [(rMany (rAny [(rBoth [(rThen [(rOne (setOf [97]))])]), (rBoth [(rThen [(rOne (setOf [98]))])])])), (rOne (setOf [99]))]), ⟨[45, 97, 98, 99], 0, 5, 0, 0⟩) := rfl
  have h31 : P 11 224 (.catL [(rMany (rAny [(rBoth [(rThen [(rOne (setOf [97]))])]), (rBoth [(rThen [(rOne (setOf [98]))])])]))]) ⟨[99, 45, 97, 98, 99], 0, 4, 0, 0⟩ = some ((rThen [(rMany (rAny [(rBoth [(rThen [(rOne (setOf [97]))])]), (rBoth [(rThen [(rOne (setOf [98]))])])])), (rOne (setOf [99]))]), ⟨[45, 97, 98, 99], 0, 5, 0, 0⟩) := P_catL rfl rfl h29 h30
  have h32 : P 11 225 .cat ⟨[40, 97, 124, 98, 41, 42, 99, 45, 97, 98, 99], 0, 0, 0, 0⟩ = some ((rThen [(rMany (rAny [(rBoth [(rThen [(rOne (setOf [97]))])]), (rBoth [(rThen [(rOne (setOf [98]))])])])), (rOne (setOf [99]))]), ⟨[45, 97, 98, 99], 0, 5, 0, 0⟩) := P_cat h26 h31
  have h33 : P 11 225 (.andL [(rThen [(rMany (rAny [(rBoth [(rThen [(rOne (setOf [97]))])]), (rBoth [(rThen [(rOne (setOf [98]))])])])), (rOne (setOf [99]))])]) ⟨[45, 97, 98, 99], 0, 5, 0, 0⟩ = some ((rBoth [(rThen [(rMany (rAny [(rBoth [(rThen [(rOne (setOf [97]))])]), (rBoth [(rThen [(rOne (setOf [98]))])])])), (rOne (setOf [99]))])]), ⟨[45, 97, 98, 99], 0, 5, 0, 0⟩) := P_andLE rfl
  have h34 : P 11 226 .and ⟨[40, 97, 124, 98, 41, 42, 99, 45, 97, 98, 99], 0, 0, 0, 0⟩ = some ((rBoth [(rThen [(rMany (rAny [(rBoth [(rThen [(rOne (setOf [97]))])]), (rBoth [(rThen [(rOne (setOf [98]))])])])), (rOne (setOf [99]))])]), ⟨[45, 97, 98, 99], 0, 5, 0, 0⟩) := P_and h32 h33
  have h35 : P 11 222 .atom ⟨[97, 98, 99], 0, 5, 0, 0⟩ = some ((rOne (setOf [97])), ⟨[98, 99], 0, 6, 0, 0⟩) := rfl
  have h36 : P 11 222 (.postL (rOne (setOf [97]))) ⟨[98, 99], 0, 6, 0, 0⟩ = some ((rOne (setOf [97])), ⟨[98, 99], 0, 6, 0, 0⟩) := rfl
  have h37 : P 11 223 .post ⟨[97, 98, 99], 0, 5, 0, 0⟩ = some ((rOne (setOf [97])), ⟨[98, 99], 0, 6, 0, 0⟩) := P_post h35 h36
  have h38 : P 11 221 .atom ⟨[98, 99], 0, 6, 0, 0⟩ = some ((rOne (setOf [98])), ⟨[99], 0, 7, 0, 0⟩) := rfl
  have h39 : P 11 221 (.postL (rOne (setOf [98]))) ⟨[99], 0, 7, 0, 0⟩ = some ((rOne (setOf [98])), ⟨[99], 0, 7, 0, 0⟩) := rfl
  have h40 : P 11 222 .post ⟨[98, 99], 0, 6, 0, 0⟩ = some ((rOne (setOf [98])), ⟨[99], 0, 7, 0, 0⟩) := P_post h38 h39
  have h41 : P 11 220 .atom ⟨[99], 0, 7, 0, 0⟩ = some ((rOne (setOf [99])), ⟨[], 0, 8, 0, 0⟩) := rfl
  have h42 : P 11 220 (.postL (rOne (setOf [99]))) ⟨[], 0, 8, 0, 0⟩ = some ((rOne (setOf [99])), ⟨[], 0, 8, 0, 0⟩) := rfl
  have h43 : P 11 221 .post ⟨[99], 0, 7, 0, 0⟩ = some ((rOne (setOf [99])), ⟨[], 0, 8, 0, 0⟩) := P_post h41 h42
  have h44 : P 11 221 (.catL [(rOne (setOf [97])), (rOne (setOf [98])), (rOne (setOf [99]))]) ⟨[], 0, 8, 0, 0⟩ = some ((rThen [(rOne (setOf [97])), (rOne (setOf [98])), (rOne (setOf [99]))]), ⟨[], 0, 8, 0, 0⟩) := rfl
  have h45 : P 11 222 (.catL [(rOne (setOf [97])), (rOne (setOf [98]))]) ⟨[99], 0, 7, 0, 0⟩ = some ((rThen [(rOne (setOf [97])), (rOne (setOf [98])), (rOne (setOf [99]))]), ⟨[], 0, 8, 0, 0⟩) := P_catL rfl rfl h43 h44
  have h46 : P 11 223 (.catL [(rOne (setOf [97]))]) ⟨[98, 99], 0, 6, 0, 0⟩ = some ((rThen [(rOne (setOf [97])), (rOne (setOf [98])), (rOne (setOf [99]))]), ⟨[], 0, 8, 0, 0⟩) := P_catL rfl rfl h40 h45
  have h47 : P 11 224 .cat ⟨[97, 98, 99], 0, 5, 0, 0⟩ = some ((rThen [(rOne (setOf [97])), (rOne (setOf [98])), (rOne (setOf [99]))]), ⟨[], 0, 8, 0, 0⟩) := P_cat h37 h46
  have h48 : P 11 224 (.andL [(rThen [(rOne (setOf [97])), (rOne (setOf [98])), (rOne (setOf [99]))])]) ⟨[], 0, 8, 0, 0⟩ = some ((rBoth [(rThen [(rOne (setOf [97])), (rOne (setOf [98])), (rOne (setOf [99]))])]), ⟨[], 0, 8, 0, 0⟩) := P_andLE rfl
  have h49 : P 11 225 .and ⟨[97, 98, 99], 0, 5, 0, 0⟩ = some ((rBoth [(rThen [(rOne (setOf [97])), (rOne (setOf [98])), (rOne (setOf [99]))])]), ⟨[], 0, 8, 0, 0⟩) := P_and h47 h48
  have h50 : P 11 225 (.minusL (rBut (rBoth [(rThen [(rMany (rAny [(rBoth [(rThen [(rOne (setOf [97]))])]), (rBoth [(rThen [(rOne (setOf [98]))])])])), (rOne (setOf [99]))])]) (rBoth [(rThen [(rOne (setOf [97])), (rOne (setOf [98])), (rOne (setOf [99]))])]))) ⟨[], 0, 8, 0, 0⟩ = some ((rBut (rBoth [(rThen [(rMany (rAny [(rBoth [(rThen [(rOne (setOf [97]))])]), (rBoth [(rThen [(rOne (setOf [98]))])])])), (rOne (setOf [99]))])]) (rBoth [(rThen [(rOne (setOf [97])), (rOne (setOf [98])), (rOne (setOf [99]))])])), ⟨[], 0, 8, 0, 0⟩) := P_minusLE rfl
  have h51 : P 11 226 (.minusL (rBoth [(rThen [(rMany (rAny [(rBoth [(rThen [(rOne (setOf [97]))])]), (rBoth [(rThen [(rOne (setOf [98]))])])])), (rOne (setOf [99]))])])) ⟨[45, 97, 98, 99], 0, 5, 0, 0⟩ = some ((rBut (rBoth [(rThen [(rMany (rAny [(rBoth [(rThen [(rOne (setOf [97]))])]), (rBoth [(rThen [(rOne (setOf [98]))])])])), (rOne (setOf [99]))])]) (rBoth [(rThen [(rOne (setOf [97])), (rOne (setOf [98])), (rOne (setOf [99]))])])), ⟨[], 0, 8, 0, 0⟩) := P_minusL rfl h49 h50
  have h52 : P 11 227 .minus ⟨[40, 97, 124, 98, 41, 42, 99, 45, 97, 98, 99], 0, 0, 0, 0⟩ = some ((rBut (rBoth [(rThen [(rMany (rAny [(rBoth [(rThen [(rOne (setOf [97]))])]), (rBoth [(rThen [(rOne (setOf [98]))])])])), (rOne (setOf [99]))])]) (rBoth [(rThen [(rOne (setOf [97])), (rOne (setOf [98])), (rOne (setOf [99]))])])), ⟨[], 0, 8, 0, 0⟩) := P_minus h34 h51
  have h53 : P 11 227 (.orL [(rBut (rBoth [(rThen [(rMany (rAny [(rBoth [(rThen [(rOne (setOf [97]))])]), (rBoth [(rThen [(rOne (setOf [98]))])])])), (rOne (setOf [99]))])]) (rBoth [(rThen [(rOne (setOf [97])), (rOne (setOf [98])), (rOne (setOf [99]))])]))]) ⟨[], 0, 8, 0, 0⟩ = some ((rAny [(rBut (rBoth [(rThen [(rMany (rAny [(rBoth [(rThen [(rOne (setOf [97]))])]), (rBoth [(rThen [(rOne (setOf [98]))])])])), (rOne (setOf [99]))])]) (rBoth [(rThen [(rOne (setOf [97])), (rOne (setOf [98])), (rOne (setOf [99]))])]))]), ⟨[], 0, 8, 0, 0⟩) := P_orLE rfl
  have h54 : P 11 228 .or ⟨[40, 97, 124, 98, 41, 42, 99, 45, 97, 98, 99], 0, 0, 0, 0⟩ = some ((rAny [(rBut (rBoth [(rThen [(rMany (rAny [(rBoth [(rThen [(rOne (setOf [97]))])]), (rBoth [(rThen [(rOne (setOf [98]))])])])), (rOne (setOf [99]))])]) (rBoth [(rThen [(rOne (setOf [97])), (rOne (setOf [98])), (rOne (setOf [99]))])]))]), ⟨[], 0, 8, 0, 0⟩) := P_or h52 h53
  exact h54
end Go.Proofs.YtdbdjjjmomociaaGreatDoor
/- A set that came in, opened; the table of math/bits, out of the row's condition. -/
namespace Go.Proofs.YtdbdjjjmomociaaGreatDoor
set_option maxRecDepth 100000
open Go.ChangeShapes Go.WideShapes Go.ChangeAt Go.WideMaps Go.WideElems Go.RowKit

/-- A set as data. -/
def SD {H : Type} (s : BitVec 256) : DataW H := .agg [.lit (.int .u64 (wd s 0)), .lit (.int .u64 (wd s 1)), .lit (.int .u64 (wd s 2)), .lit (.int .u64 (wd s 3))]

theorem mk_set (a b c d : Nat) (ha : a < 18446744073709551616) (hb : b < 18446744073709551616) (hc : c < 18446744073709551616) (hd : d < 18446744073709551616) : ∃ s : BitVec 256, wd s 0 = a ∧ wd s 1 = b ∧ wd s 2 = c ∧ wd s 3 = d := by
  refine ⟨BitVec.ofNat 256 (a + 18446744073709551616 * (b + 18446744073709551616 * (c + 18446744073709551616 * d))), ?_, ?_, ?_, ?_⟩ <;>
    (unfold wd; rw [BitVec.extractLsb'_toNat, BitVec.toNat_ofNat, Nat.shiftRight_eq_div_pow]; omega)

theorem own : ownKnob Tryz.prog.godebug = none := by kernel_rfl
theorem cells4 : Tryz.prog.cellsOf 44 = 4 := by kernel_rfl
theorem cells1 : Tryz.prog.cellsOf 42 = 1 := by kernel_rfl
theorem cellsB : Tryz.prog.cellsOf 5 = 1 := by kernel_rfl

theorem okWide_arr {P : Program} {w : World} {r : Reach} {base : Nat} {t e : TypeId} {v : Value} {n : Nat} (ht : P.underlying t = some (.array n e)) (h : Value.okWide P w r base t v) : ∃ cs, v = .agg cs ∧ cs.size = P.cellsOf t := by
  simp only [Value.okWide, ht] at h
  obtain ⟨cs, h1, h2, _⟩ := h
  exact ⟨cs, h1, h2⟩

theorem open_set {H : Type} {enc : TypeId × Value → H} {w : World} {r : Reach} {b0 base : Nat} {sp : Nat → Bool} {held : Bool} {v : Value} {d : DataW H} {p : List MemPlace}
    (hv : Value.okWide Tryz.prog w r b0 44 v) (h : DataW.Trod enc Tryz.prog w base sp held 44 v d p) : ∃ s, v = SV s ∧ d = SD s ∧ p = [] := by
  obtain ⟨cs, rfl, hsz⟩ := okWide_arr Tryz.underlying44 hv
  obtain ⟨fuel, hf⟩ := h
  obtain ⟨xs, m, rfl, hx, hl, hn, hel⟩ := DataW.trod_array Tryz.underlying44 hf
  rw [cells4] at hsz
  have h0 := hel 0 (by omega); have h1 := hel 1 (by omega); have h2 := hel 2 (by omega); have h3 := hel 3 (by omega)
  rw [cells1] at h0 h1 h2 h3
  obtain ⟨l⟩ := cs
  match l, hsz, xs, hn with
  | [c0, c1, c2, c3], _, [x0, x1, x2, x3], _ =>
    simp only [Value.cells, List.getElem?_cons_zero, List.getElem?_cons_succ] at h0 h1 h2 h3
    obtain ⟨a, e0, rfl, w0⟩ := DataW.trod_int Tryz.underlying42 h0
    obtain ⟨b, e1, rfl, w1⟩ := DataW.trod_int Tryz.underlying42 h1
    obtain ⟨c, e2, rfl, w2⟩ := DataW.trod_int Tryz.underlying42 h2
    obtain ⟨d', e3, rfl, w3⟩ := DataW.trod_int Tryz.underlying42 h3
    simp at e0 e1 e2 e3
    subst e0 e1 e2 e3
    have b0 := bounds_u64 w0; have b1 := bounds_u64 w1; have b2 := bounds_u64 w2; have b3 := bounds_u64 w3
    obtain ⟨a, rfl⟩ := Int.eq_ofNat_of_zero_le b0.1
    obtain ⟨b, rfl⟩ := Int.eq_ofNat_of_zero_le b1.1
    obtain ⟨c, rfl⟩ := Int.eq_ofNat_of_zero_le b2.1
    obtain ⟨d', rfl⟩ := Int.eq_ofNat_of_zero_le b3.1
    obtain ⟨s, g0, g1, g2, g3⟩ := mk_set a b c d' (by omega) (by omega) (by omega) (by omega)
    subst g0 g1 g2 g3
    simp at hx
    exact ⟨s, rfl, hx.1, hx.2⟩

theorem wf_wd (s : BitVec 256) (i : Nat) : (Lit.int .u64 (wd s i : Int)).wf = true := by
  have := wd_lt s i
  exact WalkArith.wf_u64 ⟨by omega, by omega⟩

theorem shut_set {H : Type} {enc : TypeId × Value → H} {w : World} {base : Nat} {sp : Nat → Bool} {held : Bool} (s : BitVec 256) : DataW.Trod enc Tryz.prog w base sp held 44 (SV s) (SD s) [] := by
  refine ⟨3, ?_⟩
  simp [DataW.trod, Tryz.underlying44, Tryz.underlying42, cells1, cells4, Value.cells, SD, wf_wd, List.range_succ]

theorem laidOut : laidOutB Tryz.prog = true := by kernel_rfl
theorem open_bytes {H : Type} {enc : TypeId × Value → H} {w : World} {r : Reach} {b0 base : Nat} {sp : Nat → Bool} {held : Bool} {v : Value} {d : DataW H} {p : List MemPlace}
    (hv : Value.okWide Tryz.prog w r b0 52 v) (h : DataW.Trod enc Tryz.prog w base sp held 52 v d p) : ∃ l, BytesRow w v l := by
  obtain ⟨a, len, cap, rfl⟩ := okWide_slice Tryz.underlying52 hv
  obtain ⟨fuel, hf⟩ := h
  rcases open_ints Tryz.underlying52 Tryz.underlying5 cellsB hf with ⟨hcs, _⟩ | ⟨x, l, c, zs, hcs, _, hl, hm, hz, _, hcell, hwz⟩
  · simp [Value.cells] at hcs
    obtain ⟨rfl, rfl, rfl⟩ := hcs
    exact ⟨[], by simp, by simp, none, 0, rfl, fun k hk => by simp at hk⟩
  · simp [Value.cells] at hcs
    obtain ⟨rfl, rfl, rfl⟩ := hcs
    have hlen : len ≤ zs.length := by rw [hz]; split <;> omega
    unfold maxLen at hm
    have hb : ∀ k, k < zs.length → 0 ≤ zs.getD k 0 ∧ zs.getD k 0 ≤ 255 := fun k hk => by
      refine bounds_u8 (hwz _ ?_)
      rw [List.getD_eq_getElem?_getD, List.getElem?_eq_getElem hk]; simp
    refine ⟨(zs.take len).map Int.toNat, ?_, by simp; omega, some x, cap, by simp [Nat.min_eq_left hlen], fun k hk => ?_⟩
    · intro y hy
      obtain ⟨z, hz1, rfl⟩ := List.mem_map.1 hy
      have := bounds_u8 (hwz z (List.mem_of_mem_take hz1))
      omega
    · have hk' : k < len := by simpa [Nat.min_eq_left hlen] using hk
      obtain ⟨b, off, rfl, hc⟩ := ints_at hcell (show 0 < zs.length by omega)
      refine ⟨b, off, rfl, World.block_lt_of_cell? _ _ (hc k (by omega)), ?_⟩
      rw [hc k (by omega)]
      have h0 := hb k (by omega)
      have e : ((zs.take len).map Int.toNat).getD k 0 = (zs.getD k 0).toNat := by
        rw [List.getD_eq_getElem?_getD, List.getD_eq_getElem?_getD, List.getElem?_map, List.getElem?_take_of_lt hk', List.getElem?_eq_getElem (show k < zs.length by omega)]; simp
      rw [e]
      congr 2
      omega

theorem gTab : Tryz.prog.globalNamed "math/bits.deBruijn64tab" = some 0 := by kernel_rfl
theorem tTab : (Tryz.prog.globals[0]?).map (·.type) = some 131 := by kernel_rfl
theorem cells64 : Tryz.prog.cellsOf 131 = 64 := by kernel_rfl
theorem laidTab : (Rows.laid_math_bits_deBruijn64tab : DataW Unit) = Lib.tabData .u8 (Lib.deBruijn64tab.map fun n : Nat => (n : Int)) := by kernel_rfl

theorem tab_of_laid {W : World} (h : laidMetH Tryz.prog [("math/bits.deBruijn64tab", Rows.laid_math_bits_deBruijn64tab)] W) : TabAt W := by
  rw [MakeChecks.laidMetH_plain _ _ _ (by kernel_rfl), laidTab] at h
  have hT := Lib.tabIs_of_head gTab tTab Tryz.underlying131 Tryz.underlying5 cellsB cells64 h
  intro j hj
  have := hT.cell gTab j (by simpa [Lib.deBruijn64tab] using hj)
  rw [this]
  have e : ((Lib.deBruijn64tab.map fun n : Nat => (n : Int)).getD j 0) = ((Lib.deBruijn64tab.getD j 0 : Nat) : Int) := by
    rw [List.getD_eq_getElem?_getD, List.getD_eq_getElem?_getD, List.getElem?_map]
    cases Lib.deBruijn64tab[j]? <;> rfl
  rw [e]

theorem door_met (os : Os) (args : Array Value) : laidMetH Tryz.prog [("math/bits.deBruijn64tab", Rows.laid_math_bits_deBruijn64tab)] ((World.doorLaid Tryz.prog 400 os).forCall (fun _ _ => 0) ⟨#[], args, []⟩).memory :=
  laidMetH_of_parts3 (fuel := 8) (laidMet_of_run' 8 (by kernel_rfl) (by kernel_rfl)) (by kernel_rfl) (by kernel_rfl)
end Go.Proofs.YtdbdjjjmomociaaGreatDoor
