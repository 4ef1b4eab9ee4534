/- Texts of this claim put together: MathRd, MathRd2. -/
import Derived.Test.YthhfpjehamhcbaaGreatDoorJoinReN
import Derived.Test.YthhfpjehamhcbaaGreatDoorJoinMathWf
/- The reader of expressions, as a function: what is left of the text, and the state. -/
namespace Go.Proofs.YthhfpjehamhcbaaGreatDoor
set_option maxRecDepth 100000
set_option linter.unusedSimpArgs false
set_option linter.unusedVariables false

/-- The reader's state: what is left, how many ( are open, how many parts were counted, the first error and its place. -/
structure St where
  rest : List Nat
  deep : Nat
  cnt : Nat
  err : Nat
  wh : Nat
def isWs (b : Nat) : Bool := b == 32 || b == 9 || b == 10 || b == 13
def plainB (b : Nat) : Bool := decide (32 ≤ b) && decide (b ≤ 126)
def letterB (b : Nat) : Bool := (decide (48 ≤ b) && decide (b ≤ 57)) || (decide (97 ≤ b) && decide (b ≤ 122)) || (decide (65 ≤ b) && decide (b ≤ 90))
def signsL : List Nat := [32, 40, 41, 91, 93, 124, 38, 45, 42, 43, 63, 46, 92]
def digitsL : List Nat := [48, 49, 50, 51, 52, 53, 54, 55, 56, 57, 97, 98, 99, 100, 101, 102]
/-- The byte that is written at a text's beginning, and by how many bytes. -/
def scanN : List Nat → Nat × Nat
  | [] => (0, 0)
  | a :: r =>
    if a = 92 then
      match r with
      | [] => (0, 0)
      | b :: r2 =>
        if b = 110 then (10, 2) else if b = 116 then (9, 2) else if b = 120 then
          match r2 with
          | c :: d :: _ => if digitsL.contains c && digitsL.contains d then (16 * digitsL.idxOf c + digitsL.idxOf d, 4) else (0, 0)
          | _ => (0, 0)
        else if !plainB b || letterB b then (0, 0) else (b, 2)
    else if !plainB a || signsL.contains a then (0, 0) else (a, 1)

namespace St
def pos (n : Nat) (st : St) : Nat := n - st.rest.length
def fail (e p : Nat) (st : St) : St := ⟨[], st.deep, st.cnt, if st.err = 0 then e else st.err, if st.err = 0 then p else st.wh⟩
def to (st : St) (r : List Nat) : St := ⟨r, st.deep, st.cnt, st.err, st.wh⟩
def skip (st : St) : St := st.to (st.rest.dropWhile isWs)
/-- Whether a byte stands just here; what is left behind it. -/
def isAt (b : Nat) (st : St) : Bool := st.rest.head? == some b
def here (b : Nat) (st : St) : St := if st.isAt b then st.to st.rest.tail else st
def signB (b : Nat) (st : St) : Bool := st.skip.isAt b
def sign (b : Nat) (st : St) : St := st.skip.here b
def counted (n : Nat) (st : St) : St := if 1000 < st.cnt + 1 then St.fail 3 (st.pos n) ⟨st.rest, st.deep, st.cnt + 1, st.err, st.wh⟩ else ⟨st.rest, st.deep, st.cnt + 1, st.err, st.wh⟩
def byteV (st : St) : Nat := (scanN st.rest).1
def byte (n : Nat) (st : St) : St := if (scanN st.rest).2 = 0 then st.fail 2 (st.pos n) else st.to (st.rest.drop (scanN st.rest).2)
def deeper (n : Nat) (st : St) : St := if 60 < st.deep + 1 then St.fail 4 (st.pos n - 1) ⟨st.rest, st.deep + 1, st.cnt, st.err, st.wh⟩ else ⟨st.rest, st.deep + 1, st.cnt, st.err, st.wh⟩
def upper (st : St) : St := ⟨st.rest, st.deep - 1, st.cnt, st.err, st.wh⟩
/-- What stands behind a [. -/
def classL (n : Nat) : Nat → BitVec 256 → St → Option (BitVec 256 × St)
  | 0, _, _ => none
  | f + 1, s, st =>
    if st.isAt 93 then some (s, st.here 93) else if st.err = 0 then
      let low := st.byteV
      let st2 := st.byte n
      let high := if st2.isAt 45 then (st2.here 45).byteV else low
      let st3 := if st2.isAt 45 then (st2.here 45).byte n else st2
      let st4 := if high < low then st3.fail 2 (st3.pos n) else st3
      classL n f (s ||| span low (high + 1)) st4
    else some (s, st)
def clas (n f : Nat) (st : St) : Option (BitVec 256 × St) :=
  if st.isAt 94 then (classL n f 0#256 (st.here 94)).map fun q => (~~~q.1, q.2) else classL n f 0#256 st
/-- Which part of the grammar is read; with what was read of it. -/
inductive Md where
  | or | orL (l : List RE) | minus | minusL (r : RE) | and | andL (l : List RE) | cat | catL (l : List RE) | post | postL (r : RE) | atom | group
def sized (n : Nat) (q : RE × St) : St := if 1000 < q.1.size then (q.2.counted n).fail 3 ((q.2.counted n).pos n) else q.2.counted n
def P (n : Nat) : Nat → Md → St → Option (RE × St)
  | 0, _, _ => none
  | f + 1, .or, st => (P n f .minus st).bind fun q => P n f (.orL [q.1]) q.2
  | f + 1, .orL l, st => if st.signB 124 then (P n f .minus (st.sign 124)).bind fun q => P n f (.orL (l ++ [q.1])) q.2 else some (rAny l, st.sign 124)
  | f + 1, .minus, st => (P n f .and st).bind fun q => P n f (.minusL q.1) q.2
  | f + 1, .minusL r, st => if st.signB 45 then (P n f .and (st.sign 45)).bind fun q => P n f (.minusL (rBut r q.1)) q.2 else some (r, st.sign 45)
  | f + 1, .and, st => (P n f .cat st).bind fun q => P n f (.andL [q.1]) q.2
  | f + 1, .andL l, st => if st.signB 38 then (P n f .cat (st.sign 38)).bind fun q => P n f (.andL (l ++ [q.1])) q.2 else some (rBoth l, st.sign 38)
  | f + 1, .cat, st => (P n f .post st).bind fun q => P n f (.catL [q.1]) q.2
  | f + 1, .catL l, st => match st.skip.rest with
    | [] => some (rThen l, st.skip)
    | b :: _ => if [124, 45, 38, 41].contains b then some (rThen l, st.skip) else (P n f .post st.skip).bind fun q => P n f (.catL (l ++ [q.1])) q.2
  | f + 1, .post, st => (P n f .atom st).bind fun q => P n f (.postL q.1) q.2
  | f + 1, .postL r, st =>
    if st.signB 42 then P n f (.postL (rMany r)) (sized n (rMany r, st.sign 42))
    else if (st.sign 42).signB 43 then P n f (.postL (rThen [r, rMany r])) (sized n (rThen [r, rMany r], (st.sign 42).sign 43))
    else if ((st.sign 42).sign 43).signB 63 then P n f (.postL (rAny [r, rEmpty])) (sized n (rAny [r, rEmpty], ((st.sign 42).sign 43).sign 63))
    else some (r, ((st.sign 42).sign 43).sign 63)
  | f + 1, .atom, st =>
    if st.signB 40 then (P n f .group (st.sign 40)).map fun q => (q.1, q.2.counted n)
    else if (st.sign 40).signB 91 then (clas n f ((st.sign 40).sign 91)).map fun q => (rOne q.1, q.2.counted n)
    else if ((st.sign 40).sign 91).signB 46 then some (rOne allB, (((st.sign 40).sign 91).sign 46).counted n)
    else some (rOne (setOf [(((st.sign 40).sign 91).sign 46).byteV]), ((((st.sign 40).sign 91).sign 46).byte n).counted n)
  | f + 1, .group, st =>
    if (st.deeper n).signB 41 then some (rEmpty, ((st.deeper n).sign 41).upper)
    else (P n f .or ((st.deeper n).sign 41)).map fun q => (q.1, (if q.2.signB 41 then q.2.sign 41 else (q.2.sign 41).fail 2 ((q.2.sign 41).pos n)).upper)
end St
end Go.Proofs.YthhfpjehamhcbaaGreatDoor
/- The reader as a function: what it keeps, step by step. -/
namespace Go.Proofs.YthhfpjehamhcbaaGreatDoor
set_option maxRecDepth 100000
set_option linter.unusedSimpArgs false
set_option linter.unusedVariables false
open St

/-- A state that may be. -/
structure Ok (st : St) : Prop where
  deep : st.deep ≤ 61
  ok : st.err = 0 → st.cnt + st.rest.length ≤ 65536 ∧ st.deep ≤ 60
  bad : st.err ≠ 0 → st.rest = []
  cnt : st.cnt ≤ 65538
/-- x parts since c0 were counted. -/
def Bd (x y c0 : Nat) (st : St) : Prop := (st.err = 0 → x + 4000 * c0 ≤ 4000 * st.cnt + y) ∧ (st.err ≠ 0 → x + 8000 * c0 ≤ 8000 * st.cnt + y) ∧ c0 ≤ st.cnt
/-- From one state to another one. -/
structure To (st st' : St) : Prop where
  deep : st'.deep = st.deep
  ok : st'.err = 0 → st.err = 0 ∧ st'.cnt + st'.rest.length ≤ st.cnt + st.rest.length
  bad : st'.err ≠ 0 → st'.rest = [] ∧ st'.cnt ≤ st.cnt + st.rest.length + 1
  len : st'.rest.length ≤ st.rest.length
  cnt : st.cnt ≤ st'.cnt

theorem dropWhile_len (p : Nat → Bool) (l : List Nat) : (l.dropWhile p).length ≤ l.length := by
  induction l with
  | nil => simp
  | cons a l ih => rw [List.dropWhile_cons]; split <;> simp <;> omega
theorem skip_len (st : St) : st.skip.rest.length ≤ st.rest.length := dropWhile_len _ _
theorem here_len (b : Nat) (st : St) : (st.here b).rest.length ≤ st.rest.length := by
  unfold here; split
  · show st.rest.tail.length ≤ _; simp
  · exact Nat.le_refl _
theorem here_eq (b : Nat) (st : St) : (st.here b).deep = st.deep ∧ (st.here b).cnt = st.cnt ∧ (st.here b).err = st.err ∧ (st.here b).wh = st.wh := by
  unfold here; split <;> exact ⟨rfl, rfl, rfl, rfl⟩
theorem here_true {b : Nat} {st : St} (h : st.isAt b = true) : (st.here b).rest.length + 1 ≤ st.rest.length := by
  unfold here; rw [if_pos h]
  unfold isAt at h
  show st.rest.tail.length + 1 ≤ _
  cases hr : st.rest with
  | nil => rw [hr] at h; simp at h
  | cons a l => simp
theorem sign_eq (b : Nat) (st : St) : (st.sign b).deep = st.deep ∧ (st.sign b).cnt = st.cnt ∧ (st.sign b).err = st.err ∧ (st.sign b).wh = st.wh := here_eq b st.skip
theorem sign_len (b : Nat) (st : St) : (st.sign b).rest.length ≤ st.rest.length := Nat.le_trans (here_len b st.skip) (skip_len st)
theorem sign_true {b : Nat} {st : St} (h : st.signB b = true) : (st.sign b).rest.length + 1 ≤ st.rest.length := Nat.le_trans (here_true h) (skip_len st)
theorem nil_of_len {l m : List Nat} (h : l.length ≤ m.length) (hm : m = []) : l = [] := List.eq_nil_of_length_eq_zero (by rw [hm] at h; simpa using h)
theorem Ok.moved {st st' : St} (h : Ok st) (hd : st'.deep = st.deep) (hc : st'.cnt = st.cnt) (he : st'.err = st.err) (hl : st'.rest.length ≤ st.rest.length) : Ok st' :=
  ⟨by rw [hd]; exact h.deep, fun e => by have := h.ok (he ▸ e); omega, fun e => nil_of_len hl (h.bad (he ▸ e)), by rw [hc]; exact h.cnt⟩
theorem Ok.sign {st : St} (h : Ok st) (b : Nat) : Ok (st.sign b) := by
  obtain ⟨h1, h2, h3, -⟩ := sign_eq b st
  exact h.moved h1 h2 h3 (sign_len b st)
theorem Ok.skip {st : St} (h : Ok st) : Ok st.skip := h.moved rfl rfl rfl (skip_len st)
theorem Ok.err0 {st : St} (h : Ok st) (hr : st.rest ≠ []) : st.err = 0 := Classical.byContradiction fun e => hr (h.bad e)
theorem Ok.sign0 {st : St} (h : Ok st) {b : Nat} (hs : st.signB b = true) : st.err = 0 := h.err0 fun e => by
  have := sign_true hs
  rw [e] at this; simp at this
theorem To.refl (st : St) (h : Ok st) : To st st := ⟨rfl, fun h => ⟨h, Nat.le_refl _⟩, fun e => ⟨h.bad e, by omega⟩, Nat.le_refl _, Nat.le_refl _⟩
theorem To.sign (st : St) (h : Ok st) (b : Nat) : To st (st.sign b) := by
  obtain ⟨h1, h2, h3, -⟩ := sign_eq b st
  have hl := sign_len b st
  exact ⟨h1, fun e => ⟨h3 ▸ e, by omega⟩, fun e => ⟨nil_of_len hl (h.bad (h3 ▸ e)), by omega⟩, hl, by omega⟩
theorem To.skip (st : St) (h : Ok st) : To st st.skip := ⟨rfl, fun e => ⟨e, by have := skip_len st; show st.cnt + _ ≤ _; omega⟩, fun e => ⟨nil_of_len (skip_len st) (h.bad e), by show st.cnt ≤ _; omega⟩, skip_len st, Nat.le_refl _⟩
/-- Behind an error nothing more is counted, if nothing more is read. -/
theorem To.trans {a b c : St} (h : To a b) (k : To b c) (hb : b.err ≠ 0 → c.cnt = b.cnt) : To a c := by
  refine ⟨k.deep.trans h.deep, fun e => ?_, fun e => ?_, Nat.le_trans k.len h.len, Nat.le_trans h.cnt k.cnt⟩
  · have h1 := k.ok e
    have h2 := h.ok h1.1
    exact ⟨h2.1, by omega⟩
  · have h1 := k.bad e
    refine ⟨h1.1, ?_⟩
    by_cases hb0 : b.err = 0
    · have h2 := h.ok hb0; omega
    · have h2 := h.bad hb0; have := hb hb0; omega

theorem counted_eq (n : Nat) (st : St) : (st.counted n).deep = st.deep ∧ (st.counted n).cnt = st.cnt + 1 ∧ (st.counted n).rest.length ≤ st.rest.length ∧ ((st.counted n).err = 0 → st.err = 0 ∧ (st.counted n).rest = st.rest) ∧ ((st.counted n).err ≠ 0 → st.err ≠ 0 ∨ (st.counted n).rest = []) := by
  unfold counted
  split
  · refine ⟨rfl, rfl, Nat.zero_le _, fun e => ?_, fun _ => .inr rfl⟩
    exfalso
    simp only [St.fail] at e
    split at e
    · omega
    · rename_i h; exact h e
  · exact ⟨rfl, rfl, Nat.le_refl _, fun e => ⟨e, rfl⟩, fun e => .inl e⟩
theorem fail_err (e p : Nat) (st : St) (he : e ≠ 0) : (st.fail e p).err ≠ 0 := by
  unfold fail; simp only; split <;> assumption
theorem scan_pos {l : List Nat} (h : (scanN l).2 ≠ 0) : (l.drop (scanN l).2).length + 1 ≤ l.length := by
  cases l with
  | nil => simp [scanN] at h
  | cons a l => rw [List.length_drop, List.length_cons]; omega
theorem byte_eq (n : Nat) (st : St) : (st.byte n).deep = st.deep ∧ (st.byte n).cnt = st.cnt ∧ (st.byte n).rest.length ≤ st.rest.length ∧ ((st.byte n).err = 0 → st.err = 0 ∧ (st.byte n).rest.length + 1 ≤ st.rest.length) ∧ ((st.byte n).err ≠ 0 → st.err ≠ 0 ∨ (st.byte n).rest = []) := by
  unfold byte
  split
  · exact ⟨rfl, rfl, Nat.zero_le _, fun e => absurd e (fail_err 2 _ st (by omega)), fun _ => .inr rfl⟩
  · rename_i h
    have := scan_pos h
    exact ⟨rfl, rfl, by show (st.rest.drop _).length ≤ _; omega, fun e => ⟨e, this⟩, fun e => .inl e⟩
theorem classL_eq (n : Nat) : ∀ (f : Nat) (s : BitVec 256) (st : St) (q : BitVec 256) (st' : St), classL n f s st = some (q, st') → (st.err ≠ 0 → st.rest = []) →
    st'.deep = st.deep ∧ st'.cnt = st.cnt ∧ st'.rest.length ≤ st.rest.length ∧ (st'.err = 0 → st.err = 0) ∧ (st'.err ≠ 0 → st'.rest = [])
  | 0, s, st, q, st', h, _ => by simp [classL] at h
  | f + 1, s, st, q, st', h, hb => by
    unfold classL at h
    split at h
    · injection h with h; injection h with h1 h2
      subst h2
      obtain ⟨e1, e2, e3, -⟩ := here_eq 93 st
      exact ⟨e1, e2, here_len 93 st, fun e => e3 ▸ e, fun e => nil_of_len (here_len 93 st) (hb (e3 ▸ e))⟩
    · split at h
      · rename_i h0
        simp only at h
        generalize hst2 : st.byte n = st2 at h
        generalize hst3 : (if st2.isAt 45 = true then (st2.here 45).byte n else st2) = st3 at h
        generalize hhi : (if st2.isAt 45 = true then (st2.here 45).byteV else st.byteV) = high at h
        generalize hst4 : (if high < st.byteV then st3.fail 2 (st3.pos n) else st3) = st4 at h
        obtain ⟨b1, b2, b3, b4, b5⟩ := byte_eq n st
        rw [hst2] at b1 b2 b3 b4 b5
        have hb2 : st2.err ≠ 0 → st2.rest = [] := fun e => (b5 e).resolve_left (fun x => x h0)
        have c3 : st3.deep = st.deep ∧ st3.cnt = st.cnt ∧ st3.rest.length ≤ st.rest.length ∧ (st3.err ≠ 0 → st3.rest = []) := by
          rw [← hst3]
          split
          · obtain ⟨d1, d2, d3, d4, d5⟩ := byte_eq n (st2.here 45)
            obtain ⟨e1, e2, e3, -⟩ := here_eq 45 st2
            have e4 := here_len 45 st2
            refine ⟨by omega, by omega, by omega, fun e => ?_⟩
            rcases d5 e with x | x
            · exact nil_of_len d3 (nil_of_len e4 (hb2 (e3 ▸ x)))
            · exact x
          · exact ⟨b1, b2, b3, hb2⟩
        obtain ⟨c3, c4, c5, c6⟩ := c3
        have c7 : st4.deep = st.deep ∧ st4.cnt = st.cnt ∧ st4.rest.length ≤ st.rest.length ∧ (st4.err ≠ 0 → st4.rest = []) := by
          rw [← hst4]
          split
          · exact ⟨c3, c4, Nat.zero_le _, fun _ => rfl⟩
          · exact ⟨c3, c4, c5, c6⟩
        obtain ⟨d3, d4, d5, d6⟩ := c7
        obtain ⟨r1, r2, r3, r4, r5⟩ := classL_eq n f _ st4 q st' h d6
        exact ⟨by omega, by omega, by omega, fun _ => h0, r5⟩
      · rename_i h0
        injection h with h; injection h with h1 h2
        subst h2
        exact ⟨rfl, rfl, Nat.le_refl _, fun e => e, hb⟩
theorem clas_eq (n f : Nat) (st : St) (q : BitVec 256) (st' : St) (h : clas n f st = some (q, st')) (hb : st.err ≠ 0 → st.rest = []) :
    st'.deep = st.deep ∧ st'.cnt = st.cnt ∧ st'.rest.length ≤ st.rest.length ∧ (st'.err = 0 → st.err = 0) ∧ (st'.err ≠ 0 → st'.rest = []) := by
  unfold clas at h
  split at h
  · obtain ⟨⟨a, b⟩, h1, h2⟩ := Option.map_eq_some_iff.1 h
    simp at h2
    obtain ⟨-, rfl⟩ := h2
    obtain ⟨e1, e2, e3, -⟩ := here_eq 94 st
    have hl := here_len 94 st
    obtain ⟨r1, r2, r3, r4, r5⟩ := classL_eq n f _ _ _ _ h1 (fun e => nil_of_len hl (hb (e3 ▸ e)))
    exact ⟨by omega, by omega, by omega, fun e => e3 ▸ r4 e, r5⟩
  · exact classL_eq n f _ _ _ _ h hb
end Go.Proofs.YthhfpjehamhcbaaGreatDoor
