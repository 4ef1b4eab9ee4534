/- Texts of this claim put together: MathRd2, MathRd3, MathRd4. -/
import Derived.Test.YtjlgepahgmkamaaGreatDoorJoinTwB
/- The reader as a function: what it keeps, step by step. -/
namespace Go.Proofs.YtjlgepahgmkamaaGreatDoor
set_option maxRecDepth 100000
set_option linter.unusedSimpArgs false
set_option linter.unusedVariables false
open St

/-- A state that may be. -/
structure Ok (st : St) : Prop where
  deep : st.deep ≤ 61
  ok : st.err = 0 → st.cnt + st.rest.length ≤ 65536 ∧ st.deep ≤ 60
  bad : st.err ≠ 0 → st.rest = []
  cnt : st.cnt ≤ 65538
/-- x parts since c0 were counted. -/
def Bd (x y c0 : Nat) (st : St) : Prop := (st.err = 0 → x + 4000 * c0 ≤ 4000 * st.cnt + y) ∧ (st.err ≠ 0 → x + 8000 * c0 ≤ 8000 * st.cnt + y) ∧ c0 ≤ st.cnt
/-- From one state to another one. -/
structure To (st st' : St) : Prop where
  deep : st'.deep = st.deep
  ok : st'.err = 0 → st.err = 0 ∧ st'.cnt + st'.rest.length ≤ st.cnt + st.rest.length
  bad : st'.err ≠ 0 → st'.rest = [] ∧ st'.cnt ≤ st.cnt + st.rest.length + 1
  len : st'.rest.length ≤ st.rest.length
  cnt : st.cnt ≤ st'.cnt

theorem dropWhile_len (p : Nat → Bool) (l : List Nat) : (l.dropWhile p).length ≤ l.length := by
  induction l with
  | nil => simp
  | cons a l ih => rw [List.dropWhile_cons]; split <;> simp <;> omega
theorem skip_len (st : St) : st.skip.rest.length ≤ st.rest.length := dropWhile_len _ _
theorem here_len (b : Nat) (st : St) : (st.here b).rest.length ≤ st.rest.length := by
  unfold here; split
  · show st.rest.tail.length ≤ _; simp
  · exact Nat.le_refl _
theorem here_eq (b : Nat) (st : St) : (st.here b).deep = st.deep ∧ (st.here b).cnt = st.cnt ∧ (st.here b).err = st.err ∧ (st.here b).wh = st.wh := by
  unfold here; split <;> exact ⟨rfl, rfl, rfl, rfl⟩
theorem here_true {b : Nat} {st : St} (h : st.isAt b = true) : (st.here b).rest.length + 1 ≤ st.rest.length := by
  unfold here; rw [if_pos h]
  unfold isAt at h
  show st.rest.tail.length + 1 ≤ _
  cases hr : st.rest with
  | nil => rw [hr] at h; simp at h
  | cons a l => simp
theorem sign_eq (b : Nat) (st : St) : (st.sign b).deep = st.deep ∧ (st.sign b).cnt = st.cnt ∧ (st.sign b).err = st.err ∧ (st.sign b).wh = st.wh := here_eq b st.skip
theorem sign_len (b : Nat) (st : St) : (st.sign b).rest.length ≤ st.rest.length := Nat.le_trans (here_len b st.skip) (skip_len st)
theorem sign_true {b : Nat} {st : St} (h : st.signB b = true) : (st.sign b).rest.length + 1 ≤ st.rest.length := Nat.le_trans (here_true h) (skip_len st)
theorem nil_of_len {l m : List Nat} (h : l.length ≤ m.length) (hm : m = []) : l = [] := List.eq_nil_of_length_eq_zero (by rw [hm] at h; simpa using h)
theorem Ok.moved {st st' : St} (h : Ok st) (hd : st'.deep = st.deep) (hc : st'.cnt = st.cnt) (he : st'.err = st.err) (hl : st'.rest.length ≤ st.rest.length) : Ok st' :=
  ⟨by rw [hd]; exact h.deep, fun e => by have := h.ok (he ▸ e); omega, fun e => nil_of_len hl (h.bad (he ▸ e)), by rw [hc]; exact h.cnt⟩
theorem Ok.sign {st : St} (h : Ok st) (b : Nat) : Ok (st.sign b) := by
  obtain ⟨h1, h2, h3, -⟩ := sign_eq b st
  exact h.moved h1 h2 h3 (sign_len b st)
theorem Ok.skip {st : St} (h : Ok st) : Ok st.skip := h.moved rfl rfl rfl (skip_len st)
theorem Ok.err0 {st : St} (h : Ok st) (hr : st.rest ≠ []) : st.err = 0 := Classical.byContradiction fun e => hr (h.bad e)
theorem Ok.sign0 {st : St} (h : Ok st) {b : Nat} (hs : st.signB b = true) : st.err = 0 := h.err0 fun e => by
  have := sign_true hs
  rw [e] at this; simp at this
theorem To.refl (st : St) (h : Ok st) : To st st := ⟨rfl, fun h => ⟨h, Nat.le_refl _⟩, fun e => ⟨h.bad e, by omega⟩, Nat.le_refl _, Nat.le_refl _⟩
theorem To.sign (st : St) (h : Ok st) (b : Nat) : To st (st.sign b) := by
  obtain ⟨h1, h2, h3, -⟩ := sign_eq b st
  have hl := sign_len b st
  exact ⟨h1, fun e => ⟨h3 ▸ e, by omega⟩, fun e => ⟨nil_of_len hl (h.bad (h3 ▸ e)), by omega⟩, hl, by omega⟩
theorem To.skip (st : St) (h : Ok st) : To st st.skip := ⟨rfl, fun e => ⟨e, by have := skip_len st; show st.cnt + _ ≤ _; omega⟩, fun e => ⟨nil_of_len (skip_len st) (h.bad e), by show st.cnt ≤ _; omega⟩, skip_len st, Nat.le_refl _⟩
/-- Behind an error nothing more is counted, if nothing more is read. -/
theorem To.trans {a b c : St} (h : To a b) (k : To b c) (hb : b.err ≠ 0 → c.cnt = b.cnt) : To a c := by
  refine ⟨k.deep.trans h.deep, fun e => ?_, fun e => ?_, Nat.le_trans k.len h.len, Nat.le_trans h.cnt k.cnt⟩
  · have h1 := k.ok e
    have h2 := h.ok h1.1
    exact ⟨h2.1, by omega⟩
  · have h1 := k.bad e
    refine ⟨h1.1, ?_⟩
    by_cases hb0 : b.err = 0
    · have h2 := h.ok hb0; omega
    · have h2 := h.bad hb0; have := hb hb0; omega

theorem counted_eq (n : Nat) (st : St) : (st.counted n).deep = st.deep ∧ (st.counted n).cnt = st.cnt + 1 ∧ (st.counted n).rest.length ≤ st.rest.length ∧ ((st.counted n).err = 0 → st.err = 0 ∧ (st.counted n).rest = st.rest) ∧ ((st.counted n).err ≠ 0 → st.err ≠ 0 ∨ (st.counted n).rest = []) := by
  unfold counted
  split
  · refine ⟨rfl, rfl, Nat.zero_le _, fun e => ?_, fun _ => .inr rfl⟩
    exfalso
    simp only [St.fail] at e
    split at e
    · omega
    · rename_i h; exact h e
  · exact ⟨rfl, rfl, Nat.le_refl _, fun e => ⟨e, rfl⟩, fun e => .inl e⟩
theorem fail_err (e p : Nat) (st : St) (he : e ≠ 0) : (st.fail e p).err ≠ 0 := by
  unfold fail; simp only; split <;> assumption
theorem scan_pos {l : List Nat} (h : (scanN l).2 ≠ 0) : (l.drop (scanN l).2).length + 1 ≤ l.length := by
  cases l with
  | nil => simp [scanN] at h
  | cons a l => rw [List.length_drop, List.length_cons]; omega
theorem byte_eq (n : Nat) (st : St) : (st.byte n).deep = st.deep ∧ (st.byte n).cnt = st.cnt ∧ (st.byte n).rest.length ≤ st.rest.length ∧ ((st.byte n).err = 0 → st.err = 0 ∧ (st.byte n).rest.length + 1 ≤ st.rest.length) ∧ ((st.byte n).err ≠ 0 → st.err ≠ 0 ∨ (st.byte n).rest = []) := by
  unfold byte
  split
  · exact ⟨rfl, rfl, Nat.zero_le _, fun e => absurd e (fail_err 2 _ st (by omega)), fun _ => .inr rfl⟩
  · rename_i h
    have := scan_pos h
    exact ⟨rfl, rfl, by show (st.rest.drop _).length ≤ _; omega, fun e => ⟨e, this⟩, fun e => .inl e⟩
theorem classL_eq (n : Nat) : ∀ (f : Nat) (s : BitVec 256) (st : St) (q : BitVec 256) (st' : St), classL n f s st = some (q, st') → (st.err ≠ 0 → st.rest = []) →
    st'.deep = st.deep ∧ st'.cnt = st.cnt ∧ st'.rest.length ≤ st.rest.length ∧ (st'.err = 0 → st.err = 0) ∧ (st'.err ≠ 0 → st'.rest = [])
  | 0, s, st, q, st', h, _ => by simp [classL] at h
  | f + 1, s, st, q, st', h, hb => by
    unfold classL at h
    split at h
    · injection h with h; injection h with h1 h2
      subst h2
      obtain ⟨e1, e2, e3, -⟩ := here_eq 93 st
      exact ⟨e1, e2, here_len 93 st, fun e => e3 ▸ e, fun e => nil_of_len (here_len 93 st) (hb (e3 ▸ e))⟩
    · split at h
      · rename_i h0
        simp only at h
        generalize hst2 : st.byte n = st2 at h
        generalize hst3 : (if st2.isAt 45 = true then (st2.here 45).byte n else st2) = st3 at h
        generalize hhi : (if st2.isAt 45 = true then (st2.here 45).byteV else st.byteV) = high at h
        generalize hst4 : (if high < st.byteV then st3.fail 2 (st3.pos n) else st3) = st4 at h
        obtain ⟨b1, b2, b3, b4, b5⟩ := byte_eq n st
        rw [hst2] at b1 b2 b3 b4 b5
        have hb2 : st2.err ≠ 0 → st2.rest = [] := fun e => (b5 e).resolve_left (fun x => x h0)
        have c3 : st3.deep = st.deep ∧ st3.cnt = st.cnt ∧ st3.rest.length ≤ st.rest.length ∧ (st3.err ≠ 0 → st3.rest = []) := by
          rw [← hst3]
          split
          · obtain ⟨d1, d2, d3, d4, d5⟩ := byte_eq n (st2.here 45)
            obtain ⟨e1, e2, e3, -⟩ := here_eq 45 st2
            have e4 := here_len 45 st2
            refine ⟨by omega, by omega, by omega, fun e => ?_⟩
            rcases d5 e with x | x
            · exact nil_of_len d3 (nil_of_len e4 (hb2 (e3 ▸ x)))
            · exact x
          · exact ⟨b1, b2, b3, hb2⟩
        obtain ⟨c3, c4, c5, c6⟩ := c3
        have c7 : st4.deep = st.deep ∧ st4.cnt = st.cnt ∧ st4.rest.length ≤ st.rest.length ∧ (st4.err ≠ 0 → st4.rest = []) := by
          rw [← hst4]
          split
          · exact ⟨c3, c4, Nat.zero_le _, fun _ => rfl⟩
          · exact ⟨c3, c4, c5, c6⟩
        obtain ⟨d3, d4, d5, d6⟩ := c7
        obtain ⟨r1, r2, r3, r4, r5⟩ := classL_eq n f _ st4 q st' h d6
        exact ⟨by omega, by omega, by omega, fun _ => h0, r5⟩
      · rename_i h0
        injection h with h; injection h with h1 h2
        subst h2
        exact ⟨rfl, rfl, Nat.le_refl _, fun e => e, hb⟩
theorem clas_eq (n f : Nat) (st : St) (q : BitVec 256) (st' : St) (h : clas n f st = some (q, st')) (hb : st.err ≠ 0 → st.rest = []) :
    st'.deep = st.deep ∧ st'.cnt = st.cnt ∧ st'.rest.length ≤ st.rest.length ∧ (st'.err = 0 → st.err = 0) ∧ (st'.err ≠ 0 → st'.rest = []) := by
  unfold clas at h
  split at h
  · obtain ⟨⟨a, b⟩, h1, h2⟩ := Option.map_eq_some_iff.1 h
    simp at h2
    obtain ⟨-, rfl⟩ := h2
    obtain ⟨e1, e2, e3, -⟩ := here_eq 94 st
    have hl := here_len 94 st
    obtain ⟨r1, r2, r3, r4, r5⟩ := classL_eq n f _ _ _ _ h1 (fun e => nil_of_len hl (hb (e3 ▸ e)))
    exact ⟨by omega, by omega, by omega, fun e => e3 ▸ r4 e, r5⟩
  · exact classL_eq n f _ _ _ _ h hb
end Go.Proofs.YtjlgepahgmkamaaGreatDoor
/- The reader as a function: what it yields is settled, and not too great. -/
namespace Go.Proofs.YtjlgepahgmkamaaGreatDoor
set_option maxRecDepth 100000
set_option linter.unusedSimpArgs false
set_option linter.unusedVariables false
open St

theorem sat_min (l : List RE) (n : Nat) (h : ∀ k ∈ l, k.size = min k.cnt 9223372036854775807) : (l.map RE.size).foldl sat (min n 9223372036854775807) = min (n + cntL l) 9223372036854775807 := by
  induction l generalizing n with
  | nil => simp [cntL]
  | cons k l ih =>
    rw [cntL_cons, List.map_cons, List.foldl_cons, h k (by simp)]
    have e : sat (min n 9223372036854775807) (min k.cnt 9223372036854775807) = min (n + k.cnt) 9223372036854775807 := by unfold sat; omega
    rw [e, ih _ (fun x hx => h x (by simp [hx])), Nat.add_assoc]
theorem size_min (r : RE) : r.size = min r.cnt 9223372036854775807 := by
  refine RE.ind (P := fun r => r.size = min r.cnt 9223372036854775807) ?_ r
  intro o s ks ih
  rw [RE.size_mk, RE.cnt_mk]
  exact sat_min ks 1 ih
theorem cnt_of_size {r : RE} (h : ¬ 1000 < r.size) : r.cnt ≤ 1000 := by
  rw [size_min] at h; omega

def offM : Md → Nat
  | .or => 5 | .orL _ => 5 | .minus => 7 | .minusL _ => 7 | .and => 7 | .andL _ => 7 | .cat => 9 | .catL _ => 9 | .post => 10 | .postL _ => 10 | .atom => 10 | .group => 5
def slackM : Md → Nat
  | .group => 3990
  | _ => 0
def Pre (c0 : Nat) (st : St) : Md → Prop
  | .orL l => l ≠ [] ∧ (∀ r ∈ l, Wf r) ∧ Bd (cntL l + 7 * l.length) 0 c0 st ∧ l.length + c0 ≤ st.cnt
  | .minusL r => Wf r ∧ Bd (r.cnt + 7) 0 c0 st
  | .andL l => l ≠ [] ∧ (∀ r ∈ l, Wf r) ∧ Bd (cntL l + 9 * l.length) 0 c0 st ∧ l.length + c0 ≤ st.cnt
  | .catL l => l ≠ [] ∧ (∀ r ∈ l, Wf r) ∧ Bd (cntL l + 10 * l.length) 0 c0 st ∧ l.length + c0 ≤ st.cnt
  | .postL r => Wf r ∧ Bd (r.cnt + 10) 0 c0 st
  | .group => c0 = st.cnt ∧ st.cnt ≤ 65536 ∧ st.err = 0
  | _ => c0 = st.cnt ∧ st.cnt ≤ 65536
def loopB : Md → Bool
  | .orL _ => true | .minusL _ => true | .andL _ => true | .catL _ => true | .postL _ => true | _ => false
structure Res (m : Md) (c0 : Nat) (st : St) (r : RE) (st' : St) : Prop where
  wf : Wf r
  ok : Ok st'
  to : To st st'
  bd : Bd (r.cnt + offM m) (slackM m) c0 st'
  still : loopB m = true → st.err ≠ 0 → st'.cnt = st.cnt

theorem ok_of {st st' : St} (h : Ok st) (ht : To st st') (hc : st.cnt ≤ 65536) : Ok st' := by
  refine ⟨by rw [ht.deep]; exact h.deep, fun e => ?_, fun e => (ht.bad e).1, ?_⟩
  · have h1 := ht.ok e
    have h2 := h.ok h1.1
    rw [ht.deep]
    omega
  · by_cases e : st'.err = 0
    · have h1 := ht.ok e
      have h2 := h.ok h1.1
      omega
    · have h1 := ht.bad e
      by_cases e0 : st.err = 0
      · have h2 := h.ok e0; omega
      · have h2 := h.bad e0
        rw [h2] at h1
        simp at h1; omega
theorem sized_eq (n : Nat) (r : RE) (st : St) (hb : st.err ≠ 0 → st.rest = []) : (sized n (r, st)).deep = st.deep ∧ (sized n (r, st)).cnt = st.cnt + 1 ∧ (sized n (r, st)).rest.length ≤ st.rest.length ∧ ((sized n (r, st)).err = 0 → st.err = 0 ∧ r.cnt ≤ 1000) ∧ ((sized n (r, st)).err ≠ 0 → (sized n (r, st)).rest = []) := by
  obtain ⟨c1, c2, c3, c4, c5⟩ := counted_eq n st
  unfold sized
  simp only
  split
  · exact ⟨c1, c2, Nat.zero_le _, fun e => absurd e (fail_err 3 _ _ (by omega)), fun _ => rfl⟩
  · rename_i h
    refine ⟨c1, c2, c3, fun e => ⟨(c4 e).1, cnt_of_size h⟩, fun e => ?_⟩
    rcases c5 e with x | x
    · exact nil_of_len c3 (hb x)
    · exact x
/-- One more behind a list. -/
theorem Bd.snoc {k x y c0 : Nat} {a b : St} {l : List RE} {r : RE} (h : Bd (cntL l + k * l.length) 0 c0 a) (h0 : a.err = 0) (hr : Bd (r.cnt + k) 0 a.cnt b) : Bd (cntL (l ++ [r]) + k * (l ++ [r]).length) 0 c0 b := by
  have e1 : cntL (l ++ [r]) = cntL l + r.cnt := by rw [cntL_append, cntL_cons]; simp [cntL]
  have e2 : k * (l ++ [r]).length = k * l.length + k := by rw [List.length_append, List.length_singleton, Nat.mul_add, Nat.mul_one]
  rw [e1, e2]
  obtain ⟨h1, h2, h3⟩ := h
  obtain ⟨r1, r2, r3⟩ := hr
  have h1 := h1 h0
  exact ⟨fun e => by have := r1 e; omega, fun e => by have := r2 e; omega, by omega⟩
theorem Bd.one {k c0 : Nat} {a : St} {r : RE} (h : Bd (r.cnt + k) 0 c0 a) : Bd (cntL [r] + k * [r].length) 0 c0 a := by
  have e1 : cntL [r] = r.cnt := by simp [cntL]
  rw [e1, List.length_singleton, Nat.mul_one]; exact h
theorem Bd.less {x x' y c0 : Nat} {a b : St} (h : Bd x y c0 a) (hx : x' ≤ x) (hc : b.cnt = a.cnt) (he : b.err = a.err) : Bd x' y c0 b := by
  obtain ⟨h1, h2, h3⟩ := h
  exact ⟨fun e => by have := h1 (he ▸ e); omega, fun e => by have := h2 (he ▸ e); omega, by omega⟩
theorem Bd.lt {x c0 : Nat} {a : St} (h : Bd x 0 c0 a) (hx : 1 ≤ x) : c0 < a.cnt := by
  obtain ⟨h1, h2, h3⟩ := h
  by_cases e : a.err = 0
  · have := h1 e; omega
  · have := h2 e; omega
theorem len_pos {l : List RE} (h : l ≠ []) : 1 ≤ l.length := by cases l with | nil => exact absurd rfl h | cons => simp

theorem P_inv (n : Nat) : ∀ (f : Nat) (m : Md) (c0 : Nat) (st : St) (r : RE) (st' : St), P n f m st = some (r, st') → Ok st → Pre c0 st m → Res m c0 st r st'
  | 0, m, c0, st, r, st', h, _, _ => by simp [P] at h
  | f + 1, .or, c0, st, r, st', h, ho, hp => by
    obtain ⟨rfl, hc⟩ := hp
    simp only [P] at h
    obtain ⟨⟨q, s1⟩, h1, h2⟩ := Option.bind_eq_some_iff.1 h
    have r1 := P_inv n f .minus _ st q s1 h1 ho ⟨rfl, hc⟩
    have r2 := P_inv n f (.orL [q]) st.cnt s1 r st' h2 r1.ok ⟨by simp, fun x hx => by rw [List.mem_singleton] at hx; subst hx; exact r1.wf, r1.bd.one, by have := r1.bd.lt (by simp only [offM]; omega); simp; omega⟩
    exact ⟨r2.wf, r2.ok, r1.to.trans r2.to (r2.still rfl), r2.bd, fun e => by cases e⟩
  | f + 1, .orL l, c0, st, r, st', h, ho, hp => by
    obtain ⟨hl, hw, hb, hlc⟩ := hp
    simp only [P] at h
    split at h
    · rename_i hs
      have h0 := ho.sign0 hs
      obtain ⟨⟨q, s1⟩, h1, h2⟩ := Option.bind_eq_some_iff.1 h
      obtain ⟨d1, d2, d3, -⟩ := sign_eq 124 st
      have hlen := sign_true hs
      have hcc := (ho.ok h0).1
      have r1 := P_inv n f .minus _ _ q s1 h1 (ho.sign 124) ⟨rfl, by omega⟩
      have hb1 : Bd (q.cnt + 7) 0 st.cnt s1 := by rw [← d2]; exact r1.bd
      have r2 := P_inv n f (.orL (l ++ [q])) c0 s1 r st' h2 r1.ok ⟨by simp, fun x hx => by
        rcases List.mem_append.1 hx with hx | hx
        · exact hw x hx
        · rw [List.mem_singleton] at hx; subst hx; exact r1.wf, Bd.snoc (x := 0) (y := 0) hb h0 hb1, by have := hb1.lt (by omega); rw [List.length_append, List.length_singleton]; omega⟩
      exact ⟨r2.wf, r2.ok, ((To.sign st ho 124).trans r1.to (fun e => absurd (d3.trans h0) e)).trans r2.to (r2.still rfl), r2.bd, fun _ e => absurd h0 e⟩
    · injection h with h; injection h with h1 h2
      subst h1 h2
      obtain ⟨d1, d2, d3, -⟩ := sign_eq 124 st
      have hk := cnt_any l
      have hlp := len_pos hl
      exact ⟨wf_any hw, ho.sign 124, To.sign st ho 124, hb.less (by simp only [offM]; omega) d2 d3, fun _ _ => d2⟩
  | f + 1, .minus, c0, st, r, st', h, ho, hp => by
    obtain ⟨rfl, hc⟩ := hp
    simp only [P] at h
    obtain ⟨⟨q, s1⟩, h1, h2⟩ := Option.bind_eq_some_iff.1 h
    have r1 := P_inv n f .and _ st q s1 h1 ho ⟨rfl, hc⟩
    have r2 := P_inv n f (.minusL q) st.cnt s1 r st' h2 r1.ok ⟨r1.wf, r1.bd⟩
    exact ⟨r2.wf, r2.ok, r1.to.trans r2.to (r2.still rfl), r2.bd, fun e => by cases e⟩
  | f + 1, .minusL x, c0, st, r, st', h, ho, hp => by
    obtain ⟨hw, hb⟩ := hp
    simp only [P] at h
    split at h
    · rename_i hs
      have h0 := ho.sign0 hs
      obtain ⟨⟨q, s1⟩, h1, h2⟩ := Option.bind_eq_some_iff.1 h
      obtain ⟨d1, d2, d3, -⟩ := sign_eq 45 st
      have hlen := sign_true hs
      have hcc := (ho.ok h0).1
      have r1 := P_inv n f .and _ _ q s1 h1 (ho.sign 45) ⟨rfl, by omega⟩
      obtain ⟨k1, k2, k3⟩ := r1.bd
      rw [d2] at k1 k2 k3
      simp only [offM, slackM] at k1 k2
      have kb := hb.1 h0
      have kc := hb.2.2
      have hk := cnt_but x q
      have r2 := P_inv n f (.minusL (rBut x q)) c0 s1 r st' h2 r1.ok ⟨wf_but hw r1.wf, fun e => by have := k1 e; omega, fun e => by have := k2 e; omega, by omega⟩
      exact ⟨r2.wf, r2.ok, ((To.sign st ho 45).trans r1.to (fun e => absurd (d3.trans h0) e)).trans r2.to (r2.still rfl), r2.bd, fun _ e => absurd h0 e⟩
    · injection h with h; injection h with h1 h2
      subst h1 h2
      obtain ⟨d1, d2, d3, -⟩ := sign_eq 45 st
      exact ⟨hw, ho.sign 45, To.sign st ho 45, hb.less (by simp only [offM]; omega) d2 d3, fun _ _ => d2⟩
  | f + 1, .and, c0, st, r, st', h, ho, hp => by
    obtain ⟨rfl, hc⟩ := hp
    simp only [P] at h
    obtain ⟨⟨q, s1⟩, h1, h2⟩ := Option.bind_eq_some_iff.1 h
    have r1 := P_inv n f .cat _ st q s1 h1 ho ⟨rfl, hc⟩
    have r2 := P_inv n f (.andL [q]) st.cnt s1 r st' h2 r1.ok ⟨by simp, fun x hx => by rw [List.mem_singleton] at hx; subst hx; exact r1.wf, r1.bd.one, by have := r1.bd.lt (by simp only [offM]; omega); simp; omega⟩
    exact ⟨r2.wf, r2.ok, r1.to.trans r2.to (r2.still rfl), r2.bd, fun e => by cases e⟩
  | f + 1, .andL l, c0, st, r, st', h, ho, hp => by
    obtain ⟨hl, hw, hb, hlc⟩ := hp
    simp only [P] at h
    split at h
    · rename_i hs
      have h0 := ho.sign0 hs
      obtain ⟨⟨q, s1⟩, h1, h2⟩ := Option.bind_eq_some_iff.1 h
      obtain ⟨d1, d2, d3, -⟩ := sign_eq 38 st
      have hlen := sign_true hs
      have hcc := (ho.ok h0).1
      have r1 := P_inv n f .cat _ _ q s1 h1 (ho.sign 38) ⟨rfl, by omega⟩
      have hb1 : Bd (q.cnt + 9) 0 st.cnt s1 := by rw [← d2]; exact r1.bd
      have r2 := P_inv n f (.andL (l ++ [q])) c0 s1 r st' h2 r1.ok ⟨by simp, fun x hx => by
        rcases List.mem_append.1 hx with hx | hx
        · exact hw x hx
        · rw [List.mem_singleton] at hx; subst hx; exact r1.wf, Bd.snoc (x := 0) (y := 0) hb h0 hb1, by have := hb1.lt (by omega); rw [List.length_append, List.length_singleton]; omega⟩
      exact ⟨r2.wf, r2.ok, ((To.sign st ho 38).trans r1.to (fun e => absurd (d3.trans h0) e)).trans r2.to (r2.still rfl), r2.bd, fun _ e => absurd h0 e⟩
    · injection h with h; injection h with h1 h2
      subst h1 h2
      obtain ⟨d1, d2, d3, -⟩ := sign_eq 38 st
      have hk := cnt_both l
      have hlp := len_pos hl
      exact ⟨wf_both hw, ho.sign 38, To.sign st ho 38, hb.less (by simp only [offM]; omega) d2 d3, fun _ _ => d2⟩
  | f + 1, .cat, c0, st, r, st', h, ho, hp => by
    obtain ⟨rfl, hc⟩ := hp
    simp only [P] at h
    obtain ⟨⟨q, s1⟩, h1, h2⟩ := Option.bind_eq_some_iff.1 h
    have r1 := P_inv n f .post _ st q s1 h1 ho ⟨rfl, hc⟩
    have r2 := P_inv n f (.catL [q]) st.cnt s1 r st' h2 r1.ok ⟨by simp, fun x hx => by rw [List.mem_singleton] at hx; subst hx; exact r1.wf, r1.bd.one, by have := r1.bd.lt (by simp only [offM]; omega); simp; omega⟩
    exact ⟨r2.wf, r2.ok, r1.to.trans r2.to (r2.still rfl), r2.bd, fun e => by cases e⟩
  | f + 1, .catL l, c0, st, r, st', h, ho, hp => by
    obtain ⟨hl, hw, hb, hlc⟩ := hp
    have hk := cnt_then l
    have hlp := len_pos hl
    have done : r = rThen l → st' = st.skip → Res (.catL l) c0 st r st' := fun e1 e2 => by
      subst e1 e2
      exact ⟨wf_then hw, ho.skip, To.skip st ho, hb.less (by simp only [offM]; omega) rfl rfl, fun _ _ => rfl⟩
    simp only [P] at h
    split at h
    · injection h with h; injection h with h1 h2
      exact done h1.symm h2.symm
    · rename_i b bs hr
      split at h
      · injection h with h; injection h with h1 h2
        exact done h1.symm h2.symm
      · have h0 : st.err = 0 := ho.skip.err0 (by rw [hr]; simp)
        obtain ⟨⟨q, s1⟩, h1, h2⟩ := Option.bind_eq_some_iff.1 h
        have hcc := (ho.ok h0).1
        have r1 := P_inv n f .post _ _ q s1 h1 ho.skip ⟨rfl, by show st.cnt ≤ _; omega⟩
        have hb1 : Bd (q.cnt + 10) 0 st.cnt s1 := r1.bd
        have r2 := P_inv n f (.catL (l ++ [q])) c0 s1 r st' h2 r1.ok ⟨by simp, fun x hx => by
          rcases List.mem_append.1 hx with hx | hx
          · exact hw x hx
          · rw [List.mem_singleton] at hx; subst hx; exact r1.wf, Bd.snoc (x := 0) (y := 0) hb h0 hb1, by have := hb1.lt (by omega); rw [List.length_append, List.length_singleton]; omega⟩
        exact ⟨r2.wf, r2.ok, ((To.skip st ho).trans r1.to (fun e => absurd h0 e)).trans r2.to (r2.still rfl), r2.bd, fun _ e => absurd h0 e⟩
  | f + 1, .post, c0, st, r, st', h, ho, hp => by
    obtain ⟨rfl, hc⟩ := hp
    simp only [P] at h
    obtain ⟨⟨q, s1⟩, h1, h2⟩ := Option.bind_eq_some_iff.1 h
    have r1 := P_inv n f .atom _ st q s1 h1 ho ⟨rfl, hc⟩
    have r2 := P_inv n f (.postL q) st.cnt s1 r st' h2 r1.ok ⟨r1.wf, r1.bd⟩
    exact ⟨r2.wf, r2.ok, r1.to.trans r2.to (r2.still rfl), r2.bd, fun e => by cases e⟩
  | f + 1, .postL x, c0, st, r, st', h, ho, hp => by
    obtain ⟨hw, hb⟩ := hp
    -- one op that was read
    have step : ∀ (y : RE) (s1 : St), Ok s1 → s1.cnt = st.cnt → s1.err = st.err → s1.deep = st.deep → s1.rest.length + 1 ≤ st.rest.length → Wf y → y.cnt ≤ 2 + 2 * x.cnt ∨ y.cnt ≤ 3 + x.cnt →
        P n f (.postL y) (sized n (y, s1)) = some (r, st') → Res (.postL x) c0 st r st' := by
      intro y s1 o1 e1 e2 e3 e4 wy hy hh
      have h0 : st.err = 0 := ho.err0 fun e => by rw [e] at e4; simp at e4
      obtain ⟨z1, z2, z3, z4, z5⟩ := sized_eq n y s1 o1.bad
      generalize hz : sized n (y, s1) = s2 at *
      have hcc := ho.ok h0
      have kb := hb.1 h0
      have kc := hb.2.2
      have o2 : Ok s2 := ⟨by rw [z1, e3]; exact ho.deep, fun e => by rw [z1, e3]; omega, z5, by omega⟩
      have r2 := P_inv n f (.postL y) c0 s2 r st' hh o2 ⟨wy, fun e => by have := (z4 e).2; omega, fun e => by omega, by omega⟩
      have t1 : To st s2 := ⟨by omega, fun e => ⟨h0, by omega⟩, fun e => ⟨z5 e, by omega⟩, by omega, by omega⟩
      exact ⟨r2.wf, r2.ok, t1.trans r2.to (r2.still rfl), r2.bd, fun _ e => absurd h0 e⟩
    have hq1 := sign_eq 42 st
    have hq2 := sign_eq 43 (st.sign 42)
    have hq3 := sign_eq 63 ((st.sign 42).sign 43)
    have hn1 := sign_len 42 st
    have hn2 := sign_len 43 (st.sign 42)
    have hn3 := sign_len 63 ((st.sign 42).sign 43)
    have o1 := ho.sign 42
    have o2 := o1.sign 43
    have o3 := o2.sign 63
    have hk1 := cnt_many x
    have hk2 := cnt_then [x, rMany x]
    have hk3 := cnt_any [x, rEmpty]
    have hk4 : cntL [x, rMany x] = x.cnt + (rMany x).cnt := by rw [cntL_cons]; simp [cntL]
    have hk5 : cntL [x, rEmpty] = x.cnt + 1 := by rw [cntL_cons, cntL_cons, cnt_empty]; rfl
    simp only [P] at h
    split at h
    · rename_i hs
      exact step _ _ o1 hq1.2.1 hq1.2.2.1 hq1.1 (sign_true hs) (wf_many hw) (.inr (by omega)) h
    split at h
    · rename_i hs
      have := sign_true hs
      refine step _ _ o2 (by omega) (hq2.2.2.1.trans hq1.2.2.1) (by omega) (by omega) (wf_then ?_) (.inl (by omega)) h
      intro y hy
      simp at hy
      rcases hy with rfl | rfl
      · exact hw
      · exact wf_many hw
    split at h
    · rename_i hs
      have := sign_true hs
      refine step _ _ o3 (by omega) (hq3.2.2.1.trans (hq2.2.2.1.trans hq1.2.2.1)) (by omega) (by omega) (wf_any ?_) (.inr (by omega)) h
      intro y hy
      simp at hy
      rcases hy with rfl | rfl
      · exact hw
      · exact wf_empty
    · injection h with h; injection h with h1 h2
      subst h1 h2
      have t := ((To.sign st ho 42).trans (To.sign _ o1 43) (fun _ => hq2.2.1)).trans (To.sign _ o2 63) (fun _ => hq3.2.1)
      exact ⟨hw, o3, t, hb.less (by simp only [offM]; omega) (by omega) (hq3.2.2.1.trans (hq2.2.2.1.trans hq1.2.2.1)), fun _ _ => by omega⟩
  | f + 1, .atom, c0, st, r, st', h, ho, hp => by
    obtain ⟨rfl, hc⟩ := hp
    have hq1 := sign_eq 40 st
    have hq2 := sign_eq 91 (st.sign 40)
    have hq3 := sign_eq 46 ((st.sign 40).sign 91)
    have hn1 := sign_len 40 st
    have hn2 := sign_len 91 (st.sign 40)
    have hn3 := sign_len 46 ((st.sign 40).sign 91)
    have o1 := ho.sign 40
    have o2 := o1.sign 91
    have o3 := o2.sign 46
    -- a part of one, counted
    have last : ∀ (y : RE) (s1 : St), Wf y → y.cnt = 1 → s1.cnt = st.cnt → s1.deep = st.deep → s1.rest.length ≤ st.rest.length → (s1.err = 0 → st.err = 0 ∧ s1.rest.length + 1 ≤ st.rest.length) → (s1.err ≠ 0 → s1.rest = []) →
        r = y → st' = s1.counted n → Res .atom st.cnt st r st' := by
      intro y s1 wy hy e1 e2 e3 e4 e5 er es
      subst er es
      obtain ⟨c1, c2, c3, c4, c5⟩ := counted_eq n s1
      have t : To st (s1.counted n) := by
        refine ⟨by omega, fun e => ?_, fun e => ⟨?_, by omega⟩, by omega, by omega⟩
        · have h1 := c4 e
          have h2 := e4 h1.1
          rw [h1.2]
          exact ⟨h2.1, by omega⟩
        · rcases c5 e with x | x
          · exact nil_of_len c3 (e5 x)
          · exact x
      exact ⟨wy, ok_of ho t hc, t, ⟨fun e => by simp only [offM, slackM]; omega, fun e => by simp only [offM, slackM]; omega, by omega⟩, fun e => by cases e⟩
    simp only [P] at h
    split at h
    · rename_i hs
      have h0 := ho.sign0 hs
      obtain ⟨⟨q, s1⟩, h1, h2⟩ := Option.map_eq_some_iff.1 h
      simp only [Prod.mk.injEq] at h2
      obtain ⟨rfl, rfl⟩ := h2
      have hlen := sign_true hs
      have hcc := (ho.ok h0).1
      have r1 := P_inv n f .group _ _ q s1 h1 o1 ⟨rfl, by omega, hq1.2.2.1.trans h0⟩
      obtain ⟨c1, c2, c3, c4, c5⟩ := counted_eq n s1
      have t1 := r1.to
      have t : To st (s1.counted n) := by
        refine ⟨by rw [c1, t1.deep]; exact hq1.1, fun e => ?_, fun e => ⟨?_, ?_⟩, by have := t1.len; omega, by have := t1.cnt; omega⟩
        · have h1 := c4 e
          have h2 := t1.ok h1.1
          rw [h1.2]
          exact ⟨h0, by omega⟩
        · rcases c5 e with x | x
          · exact nil_of_len c3 (t1.bad x).1
          · exact x
        · by_cases e1 : s1.err = 0
          · have := t1.ok e1; omega
          · have := t1.bad e1; omega
      obtain ⟨k1, k2, k3⟩ := r1.bd
      rw [hq1.2.1] at k1 k2 k3
      simp only [offM, slackM] at k1 k2
      refine ⟨r1.wf, ok_of ho t hc, t, ⟨fun e => ?_, fun e => ?_, by omega⟩, fun e => by cases e⟩
      · have := k1 (c4 e).1
        simp only [offM, slackM]; omega
      · simp only [offM, slackM]
        by_cases e1 : s1.err = 0
        · have := k1 e1; omega
        · have := k2 e1; omega
    split at h
    · rename_i hs
      obtain ⟨⟨q, s1⟩, h1, h2⟩ := Option.map_eq_some_iff.1 h
      simp only [Prod.mk.injEq] at h2
      have hlen := sign_true hs
      have h0 := o1.sign0 hs
      obtain ⟨k1, k2, k3, k4, k5⟩ := clas_eq n f _ q s1 h1 o2.bad
      exact last (rOne q) s1 (wf_one q) (cnt_one q) (by omega) (by omega) (by omega) (fun e => ⟨hq1.2.2.1 ▸ h0, by omega⟩) k5 h2.1.symm h2.2.symm
    split at h
    · rename_i hs
      injection h with h; injection h with h1 h2
      have hlen := sign_true hs
      have h0 := o2.sign0 hs
      exact last (rOne allB) _ (wf_one _) (cnt_one _) (by omega) (by omega) (by omega) (fun e => ⟨by rw [← hq1.2.2.1, ← hq2.2.2.1]; exact h0, by omega⟩) o3.bad h1.symm h2.symm
    · injection h with h; injection h with h1 h2
      obtain ⟨k1, k2, k3, k4, k5⟩ := byte_eq n (((st.sign 40).sign 91).sign 46)
      refine last _ _ (wf_one _) (cnt_one _) (by omega) (by omega) (by omega) (fun e => ?_) (fun e => ?_) h1.symm h2.symm
      · have := k4 e
        exact ⟨by rw [← hq1.2.2.1, ← hq2.2.2.1, ← hq3.2.2.1]; exact this.1, by omega⟩
      · rcases k5 e with x | x
        · exact nil_of_len k3 (o3.bad x)
        · exact x
  | f + 1, .group, c0, st, r, st', h, ho, hp => by
    obtain ⟨rfl, hc, h0⟩ := hp
    have hcc := ho.ok h0
    have od : Ok (st.deeper n) ∧ (st.deeper n).cnt = st.cnt ∧ (st.deeper n).deep = st.deep + 1 ∧ (st.deeper n).rest.length ≤ st.rest.length := by
      unfold deeper
      split
      · exact ⟨⟨by show st.deep + 1 ≤ 61; omega, fun e => absurd e (fail_err 4 _ _ (by omega)), fun _ => rfl, by show st.cnt ≤ _; omega⟩, rfl, rfl, Nat.zero_le _⟩
      · exact ⟨⟨by show st.deep + 1 ≤ 61; omega, fun e => ⟨by show st.cnt + st.rest.length ≤ _; omega, by show st.deep + 1 ≤ 60; omega⟩, fun e => absurd h0 e, by show st.cnt ≤ _; omega⟩, rfl, rfl, Nat.le_refl _⟩
    obtain ⟨od, od1, od2, od3⟩ := od
    simp only [P] at h
    generalize st.deeper n = s0 at *
    have hq := sign_eq 41 s0
    have hn := sign_len 41 s0
    have o1 := od.sign 41
    split at h
    · rename_i hs
      injection h with h; injection h with h1 h2
      subst h1 h2
      have hlen := sign_true hs
      have h00 := od.sign0 hs
      have t : To st (s0.sign 41).upper := ⟨by show (s0.sign 41).deep - 1 = _; omega, fun e => ⟨h0, by show (s0.sign 41).cnt + (s0.sign 41).rest.length ≤ _; omega⟩, fun e => absurd (hq.2.2.1.trans h00) e, by show (s0.sign 41).rest.length ≤ _; omega, by show _ ≤ (s0.sign 41).cnt; omega⟩
      exact ⟨wf_empty, ok_of ho t hc, t, ⟨fun e => by rw [cnt_empty]; show 1 + 5 + 4000 * st.cnt ≤ 4000 * (s0.sign 41).cnt + 3990; omega, fun e => absurd (hq.2.2.1.trans h00) e, by show _ ≤ (s0.sign 41).cnt; omega⟩, fun e => by cases e⟩
    · obtain ⟨⟨q, s1⟩, h1, h2⟩ := Option.map_eq_some_iff.1 h
      simp only [Prod.mk.injEq] at h2
      obtain ⟨rfl, rfl⟩ := h2
      have r1 := P_inv n f .or _ _ q s1 h1 o1 ⟨rfl, by omega⟩
      have t1 := r1.to
      have hq2 := sign_eq 41 s1
      have hn2 := sign_len 41 s1
      have o2 := r1.ok.sign 41
      obtain ⟨k1, k2, k3⟩ := r1.bd
      rw [hq.2.1] at k1 k2 k3
      simp only [offM, slackM] at k1 k2
      generalize hs2 : (if s1.signB 41 = true then s1.sign 41 else (s1.sign 41).fail 2 ((s1.sign 41).pos n)) = s2
      have c2 : s2.deep = s1.deep ∧ s2.cnt = s1.cnt ∧ s2.rest.length ≤ s1.rest.length ∧ (s2.err = 0 → s1.err = 0) ∧ (s2.err ≠ 0 → s2.rest = []) := by
        rw [← hs2]
        split
        · exact ⟨hq2.1, hq2.2.1, hn2, fun e => hq2.2.2.1 ▸ e, o2.bad⟩
        · exact ⟨hq2.1, hq2.2.1, Nat.zero_le _, fun e => absurd e (fail_err 2 _ _ (by omega)), fun _ => rfl⟩
      obtain ⟨u1, u2, u3, u4, u5⟩ := c2
      have hd1 := t1.deep
      have hl1 := t1.len
      have hc1 := t1.cnt
      have t : To st s2.upper := by
        refine ⟨by show s2.deep - 1 = _; omega, fun e => ⟨h0, ?_⟩, fun e => ⟨u5 e, ?_⟩, by show s2.rest.length ≤ _; omega, by show _ ≤ s2.cnt; omega⟩
        · show s2.cnt + s2.rest.length ≤ _
          have := t1.ok (u4 e)
          omega
        · show s2.cnt ≤ _
          by_cases e1 : s1.err = 0
          · have := t1.ok e1; omega
          · have := t1.bad e1; omega
      refine ⟨r1.wf, ok_of ho t hc, t, ⟨fun e => ?_, fun e => ?_, by show _ ≤ s2.cnt; omega⟩, fun e => by cases e⟩
      · have := k1 (u4 e)
        show q.cnt + 5 + 4000 * st.cnt ≤ 4000 * s2.cnt + 3990
        omega
      · show q.cnt + 5 + 8000 * st.cnt ≤ 8000 * s2.cnt + 3990
        by_cases e1 : s1.err = 0
        · have := k1 e1; omega
        · have := k2 e1; omega
end Go.Proofs.YtjlgepahgmkamaaGreatDoor
/- The reader as a function: it always comes to an end. -/
namespace Go.Proofs.YtjlgepahgmkamaaGreatDoor
set_option maxRecDepth 100000
set_option linter.unusedSimpArgs false
set_option linter.unusedVariables false
open St

theorem classL_total (n : Nat) : ∀ (f : Nat) (s : BitVec 256) (st : St), (st.err ≠ 0 → st.rest = []) → (st.err = 0 → st.rest.length + 2 ≤ f) → 1 ≤ f → ∃ q, classL n f s st = some q
  | 0, s, st, _, _, h => by omega
  | f + 1, s, st, hb, hf, _ => by
    unfold classL
    split
    · exact ⟨_, rfl⟩
    · split
      · rename_i h0
        have hf := hf h0
        simp only
        generalize hst2 : st.byte n = st2
        generalize hst3 : (if st2.isAt 45 = true then (st2.here 45).byte n else st2) = st3
        generalize hhi : (if st2.isAt 45 = true then (st2.here 45).byteV else st.byteV) = high
        generalize hst4 : (if high < st.byteV then st3.fail 2 (st3.pos n) else st3) = st4
        obtain ⟨b1, b2, b3, b4, b5⟩ := byte_eq n st
        rw [hst2] at b1 b2 b3 b4 b5
        have hb2 : st2.err ≠ 0 → st2.rest = [] := fun e => (b5 e).resolve_left (fun x => x h0)
        have c3 : (st3.err = 0 → st3.rest.length + 1 ≤ st.rest.length) ∧ (st3.err ≠ 0 → st3.rest = []) := by
          rw [← hst3]
          split
          · obtain ⟨d1, d2, d3, d4, d5⟩ := byte_eq n (st2.here 45)
            obtain ⟨e1, e2, e3, -⟩ := here_eq 45 st2
            have e4 := here_len 45 st2
            refine ⟨fun e => ?_, fun e => ?_⟩
            · have := d4 e
              have := b4 (e3 ▸ this.1)
              omega
            · rcases d5 e with x | x
              · exact nil_of_len d3 (nil_of_len e4 (hb2 (e3 ▸ x)))
              · exact x
          · exact ⟨fun e => (b4 e).2, hb2⟩
        have c4 : (st4.err = 0 → st4.rest.length + 1 ≤ st.rest.length) ∧ (st4.err ≠ 0 → st4.rest = []) := by
          rw [← hst4]
          split
          · exact ⟨fun e => absurd e (fail_err 2 _ _ (by omega)), fun _ => rfl⟩
          · exact c3
        exact classL_total n f _ st4 c4.2 (fun e => by have := c4.1 e; omega) (by omega)
      · exact ⟨_, rfl⟩
theorem clas_total (n f : Nat) (st : St) (hb : st.err ≠ 0 → st.rest = []) (hf : st.rest.length + 2 ≤ f) : ∃ q, clas n f st = some q := by
  unfold clas
  split
  · obtain ⟨e1, e2, e3, -⟩ := here_eq 94 st
    have hl := here_len 94 st
    obtain ⟨q, hq⟩ := classL_total n f 0#256 (st.here 94) (fun e => nil_of_len hl (hb (e3 ▸ e))) (fun _ => by omega) (by omega)
    exact ⟨_, by rw [hq]; rfl⟩
  · exact classL_total n f 0#256 st hb (fun _ => hf) (by omega)

def rankM : Md → Nat
  | .or => 7 | .orL _ => 1 | .minus => 6 | .minusL _ => 1 | .and => 5 | .andL _ => 1 | .cat => 4 | .catL _ => 3 | .post => 2 | .postL _ => 1 | .atom => 1 | .group => 8

theorem Res.len {m : Md} {c0 : Nat} {st : St} {r : RE} {st' : St} (h : Res m c0 st r st') : st'.rest.length ≤ st.rest.length := h.to.len
/-- A part that was read has taken something, or nothing is left. -/
theorem Res.less {m : Md} {st : St} {r : RE} {st' : St} (h : Res m st.cnt st r st') (hs : slackM m = 0) (hn : st.rest ≠ []) : st'.rest.length + 1 ≤ st.rest.length := by
  have hb := h.bd
  rw [hs] at hb
  have hlt := hb.lt (by cases m <;> simp only [offM] <;> omega)
  have hp : 1 ≤ st.rest.length := by cases hr : st.rest with | nil => exact absurd hr hn | cons => simp
  by_cases e : st'.err = 0
  · have := h.to.ok e; omega
  · have := (h.to.bad e).1
    rw [this]; simpa using hp

theorem P_total (n : Nat) : ∀ (f : Nat) (m : Md) (c0 : Nat) (st : St), Ok st → Pre c0 st m → 20 * st.rest.length + rankM m < f → ∃ q, P n f m st = some q
  | 0, m, c0, st, _, _, h => by omega
  | f + 1, .or, c0, st, ho, hp, hf => by
    obtain ⟨rfl, hc⟩ := hp
    simp only [rankM] at hf
    obtain ⟨⟨q, s1⟩, h1⟩ := P_total n f .minus _ st ho ⟨rfl, hc⟩ (by simp only [rankM]; omega)
    have r1 := P_inv n f .minus _ st q s1 h1 ho ⟨rfl, hc⟩
    have hl := r1.len
    simp only [P, h1, Option.bind_some]
    exact P_total n f (.orL [q]) st.cnt s1 r1.ok ⟨by simp, fun x hx => by rw [List.mem_singleton] at hx; subst hx; exact r1.wf, r1.bd.one, by have := r1.bd.lt (by simp only [offM]; omega); simp; omega⟩ (by simp only [rankM]; omega)
  | f + 1, .orL l, c0, st, ho, hp, hf => by
    obtain ⟨hl, hw, hb, hlc⟩ := hp
    simp only [rankM] at hf
    simp only [P]
    split
    · rename_i hs
      have h0 := ho.sign0 hs
      obtain ⟨d1, d2, d3, -⟩ := sign_eq 124 st
      have hlen := sign_true hs
      have hcc := (ho.ok h0).1
      have hpre : Pre (st.sign 124).cnt (st.sign 124) .minus := ⟨rfl, by omega⟩
      obtain ⟨⟨q, s1⟩, h1⟩ := P_total n f .minus _ _ (ho.sign 124) hpre (by simp only [rankM]; omega)
      have r1 := P_inv n f .minus _ _ q s1 h1 (ho.sign 124) hpre
      have hl1 := r1.len
      have hb1 : Bd (q.cnt + 7) 0 st.cnt s1 := by rw [← d2]; exact r1.bd
      simp only [h1, Option.bind_some]
      exact P_total n f (.orL (l ++ [q])) c0 s1 r1.ok ⟨by simp, fun x hx => by
        rcases List.mem_append.1 hx with hx | hx
        · exact hw x hx
        · rw [List.mem_singleton] at hx; subst hx; exact r1.wf, Bd.snoc (x := 0) (y := 0) hb h0 hb1, by have := hb1.lt (by omega); rw [List.length_append, List.length_singleton]; omega⟩ (by simp only [rankM]; omega)
    · exact ⟨_, rfl⟩
  | f + 1, .minus, c0, st, ho, hp, hf => by
    obtain ⟨rfl, hc⟩ := hp
    simp only [rankM] at hf
    obtain ⟨⟨q, s1⟩, h1⟩ := P_total n f .and _ st ho ⟨rfl, hc⟩ (by simp only [rankM]; omega)
    have r1 := P_inv n f .and _ st q s1 h1 ho ⟨rfl, hc⟩
    have hl := r1.len
    simp only [P, h1, Option.bind_some]
    exact P_total n f (.minusL q) st.cnt s1 r1.ok ⟨r1.wf, r1.bd⟩ (by simp only [rankM]; omega)
  | f + 1, .minusL x, c0, st, ho, hp, hf => by
    obtain ⟨hw, hb⟩ := hp
    simp only [rankM] at hf
    simp only [P]
    split
    · rename_i hs
      have h0 := ho.sign0 hs
      obtain ⟨d1, d2, d3, -⟩ := sign_eq 45 st
      have hlen := sign_true hs
      have hcc := (ho.ok h0).1
      have hpre : Pre (st.sign 45).cnt (st.sign 45) .and := ⟨rfl, by omega⟩
      obtain ⟨⟨q, s1⟩, h1⟩ := P_total n f .and _ _ (ho.sign 45) hpre (by simp only [rankM]; omega)
      have r1 := P_inv n f .and _ _ q s1 h1 (ho.sign 45) hpre
      have hl1 := r1.len
      obtain ⟨k1, k2, k3⟩ := r1.bd
      rw [d2] at k1 k2 k3
      simp only [offM, slackM] at k1 k2
      have kb := hb.1 h0
      have kc := hb.2.2
      have hk := cnt_but x q
      simp only [h1, Option.bind_some]
      exact P_total n f (.minusL (rBut x q)) c0 s1 r1.ok ⟨wf_but hw r1.wf, fun e => by have := k1 e; omega, fun e => by have := k2 e; omega, by omega⟩ (by simp only [rankM]; omega)
    · exact ⟨_, rfl⟩
  | f + 1, .and, c0, st, ho, hp, hf => by
    obtain ⟨rfl, hc⟩ := hp
    simp only [rankM] at hf
    obtain ⟨⟨q, s1⟩, h1⟩ := P_total n f .cat _ st ho ⟨rfl, hc⟩ (by simp only [rankM]; omega)
    have r1 := P_inv n f .cat _ st q s1 h1 ho ⟨rfl, hc⟩
    have hl := r1.len
    simp only [P, h1, Option.bind_some]
    exact P_total n f (.andL [q]) st.cnt s1 r1.ok ⟨by simp, fun x hx => by rw [List.mem_singleton] at hx; subst hx; exact r1.wf, r1.bd.one, by have := r1.bd.lt (by simp only [offM]; omega); simp; omega⟩ (by simp only [rankM]; omega)
  | f + 1, .andL l, c0, st, ho, hp, hf => by
    obtain ⟨hl, hw, hb, hlc⟩ := hp
    simp only [rankM] at hf
    simp only [P]
    split
    · rename_i hs
      have h0 := ho.sign0 hs
      obtain ⟨d1, d2, d3, -⟩ := sign_eq 38 st
      have hlen := sign_true hs
      have hcc := (ho.ok h0).1
      have hpre : Pre (st.sign 38).cnt (st.sign 38) .cat := ⟨rfl, by omega⟩
      obtain ⟨⟨q, s1⟩, h1⟩ := P_total n f .cat _ _ (ho.sign 38) hpre (by simp only [rankM]; omega)
      have r1 := P_inv n f .cat _ _ q s1 h1 (ho.sign 38) hpre
      have hl1 := r1.len
      have hb1 : Bd (q.cnt + 9) 0 st.cnt s1 := by rw [← d2]; exact r1.bd
      simp only [h1, Option.bind_some]
      exact P_total n f (.andL (l ++ [q])) c0 s1 r1.ok ⟨by simp, fun x hx => by
        rcases List.mem_append.1 hx with hx | hx
        · exact hw x hx
        · rw [List.mem_singleton] at hx; subst hx; exact r1.wf, Bd.snoc (x := 0) (y := 0) hb h0 hb1, by have := hb1.lt (by omega); rw [List.length_append, List.length_singleton]; omega⟩ (by simp only [rankM]; omega)
    · exact ⟨_, rfl⟩
  | f + 1, .cat, c0, st, ho, hp, hf => by
    obtain ⟨rfl, hc⟩ := hp
    simp only [rankM] at hf
    obtain ⟨⟨q, s1⟩, h1⟩ := P_total n f .post _ st ho ⟨rfl, hc⟩ (by simp only [rankM]; omega)
    have r1 := P_inv n f .post _ st q s1 h1 ho ⟨rfl, hc⟩
    have hl := r1.len
    simp only [P, h1, Option.bind_some]
    exact P_total n f (.catL [q]) st.cnt s1 r1.ok ⟨by simp, fun x hx => by rw [List.mem_singleton] at hx; subst hx; exact r1.wf, r1.bd.one, by have := r1.bd.lt (by simp only [offM]; omega); simp; omega⟩ (by simp only [rankM]; omega)
  | f + 1, .catL l, c0, st, ho, hp, hf => by
    obtain ⟨hl, hw, hb, hlc⟩ := hp
    simp only [rankM] at hf
    simp only [P]
    split
    · exact ⟨_, rfl⟩
    · rename_i b bs hr
      split
      · exact ⟨_, rfl⟩
      · have h0 : st.err = 0 := ho.skip.err0 (by rw [hr]; simp)
        have hcc := (ho.ok h0).1
        have hsl := skip_len st
        have hpre : Pre st.skip.cnt st.skip .post := ⟨rfl, by show st.cnt ≤ _; omega⟩
        obtain ⟨⟨q, s1⟩, h1⟩ := P_total n f .post _ _ ho.skip hpre (by simp only [rankM]; omega)
        have r1 := P_inv n f .post _ _ q s1 h1 ho.skip hpre
        have hl1 := r1.less rfl (by rw [hr]; simp)
        have hb1 : Bd (q.cnt + 10) 0 st.cnt s1 := r1.bd
        simp only [h1, Option.bind_some]
        exact P_total n f (.catL (l ++ [q])) c0 s1 r1.ok ⟨by simp, fun x hx => by
          rcases List.mem_append.1 hx with hx | hx
          · exact hw x hx
          · rw [List.mem_singleton] at hx; subst hx; exact r1.wf, Bd.snoc (x := 0) (y := 0) hb h0 hb1, by have := hb1.lt (by omega); rw [List.length_append, List.length_singleton]; omega⟩ (by simp only [rankM]; omega)
  | f + 1, .post, c0, st, ho, hp, hf => by
    obtain ⟨rfl, hc⟩ := hp
    simp only [rankM] at hf
    obtain ⟨⟨q, s1⟩, h1⟩ := P_total n f .atom _ st ho ⟨rfl, hc⟩ (by simp only [rankM]; omega)
    have r1 := P_inv n f .atom _ st q s1 h1 ho ⟨rfl, hc⟩
    have hl := r1.len
    simp only [P, h1, Option.bind_some]
    exact P_total n f (.postL q) st.cnt s1 r1.ok ⟨r1.wf, r1.bd⟩ (by simp only [rankM]; omega)
  | f + 1, .postL x, c0, st, ho, hp, hf => by
    simp only [rankM] at hf
    obtain ⟨hw, hb⟩ := hp
    have step : ∀ (y : RE) (s1 : St), Ok s1 → s1.cnt = st.cnt → s1.err = st.err → s1.deep = st.deep → s1.rest.length + 1 ≤ st.rest.length → Wf y → y.cnt ≤ 2 + 2 * x.cnt ∨ y.cnt ≤ 3 + x.cnt →
        ∃ q, P n f (.postL y) (sized n (y, s1)) = some q := by
      intro y s1 o1 e1 e2 e3 e4 wy hy
      have h0 : st.err = 0 := ho.err0 fun e => by rw [e] at e4; simp at e4
      obtain ⟨z1, z2, z3, z4, z5⟩ := sized_eq n y s1 o1.bad
      generalize sized n (y, s1) = s2 at *
      have hcc := ho.ok h0
      have kb := hb.1 h0
      have kc := hb.2.2
      have o2 : Ok s2 := ⟨by rw [z1, e3]; exact ho.deep, fun e => by rw [z1, e3]; omega, z5, by omega⟩
      exact P_total n f (.postL y) c0 s2 o2 ⟨wy, fun e => by have := (z4 e).2; omega, fun e => by omega, by omega⟩ (by simp only [rankM]; omega)
    have hq1 := sign_eq 42 st
    have hq2 := sign_eq 43 (st.sign 42)
    have hq3 := sign_eq 63 ((st.sign 42).sign 43)
    have hn1 := sign_len 42 st
    have hn2 := sign_len 43 (st.sign 42)
    have hn3 := sign_len 63 ((st.sign 42).sign 43)
    have o1 := ho.sign 42
    have o2 := o1.sign 43
    have o3 := o2.sign 63
    have hk1 := cnt_many x
    have hk2 := cnt_then [x, rMany x]
    have hk3 := cnt_any [x, rEmpty]
    have hk4 : cntL [x, rMany x] = x.cnt + (rMany x).cnt := by rw [cntL_cons]; simp [cntL]
    have hk5 : cntL [x, rEmpty] = x.cnt + 1 := by rw [cntL_cons, cntL_cons, cnt_empty]; rfl
    simp only [P]
    split
    · rename_i hs
      exact step _ _ o1 hq1.2.1 hq1.2.2.1 hq1.1 (sign_true hs) (wf_many hw) (.inr (by omega))
    split
    · rename_i hs
      have := sign_true hs
      refine step _ _ o2 (by omega) (hq2.2.2.1.trans hq1.2.2.1) (by omega) (by omega) (wf_then ?_) (.inl (by omega))
      intro y hy
      simp at hy
      rcases hy with rfl | rfl
      · exact hw
      · exact wf_many hw
    split
    · rename_i hs
      have := sign_true hs
      refine step _ _ o3 (by omega) (hq3.2.2.1.trans (hq2.2.2.1.trans hq1.2.2.1)) (by omega) (by omega) (wf_any ?_) (.inr (by omega))
      intro y hy
      simp at hy
      rcases hy with rfl | rfl
      · exact hw
      · exact wf_empty
    · exact ⟨_, rfl⟩
  | f + 1, .atom, c0, st, ho, hp, hf => by
    obtain ⟨rfl, hc⟩ := hp
    simp only [rankM] at hf
    have hq1 := sign_eq 40 st
    have hn1 := sign_len 40 st
    have hn2 := sign_len 91 (st.sign 40)
    have o1 := ho.sign 40
    have o2 := o1.sign 91
    simp only [P]
    split
    · rename_i hs
      have h0 := ho.sign0 hs
      have hlen := sign_true hs
      obtain ⟨q, h1⟩ := P_total n f .group _ _ o1 ⟨rfl, by omega, hq1.2.2.1.trans h0⟩ (by simp only [rankM]; omega)
      exact ⟨_, by rw [h1]; rfl⟩
    split
    · rename_i hs
      have hlen := sign_true hs
      obtain ⟨q, h1⟩ := clas_total n f _ o2.bad (by omega)
      exact ⟨_, by rw [h1]; rfl⟩
    split
    · exact ⟨_, rfl⟩
    · exact ⟨_, rfl⟩
  | f + 1, .group, c0, st, ho, hp, hf => by
    obtain ⟨rfl, hc, h0⟩ := hp
    simp only [rankM] at hf
    have hcc := ho.ok h0
    have od : Ok (st.deeper n) ∧ (st.deeper n).cnt = st.cnt ∧ (st.deeper n).rest.length ≤ st.rest.length := by
      unfold deeper
      split
      · exact ⟨⟨by show st.deep + 1 ≤ 61; omega, fun e => absurd e (fail_err 4 _ _ (by omega)), fun _ => rfl, by show st.cnt ≤ _; omega⟩, rfl, Nat.zero_le _⟩
      · exact ⟨⟨by show st.deep + 1 ≤ 61; omega, fun e => ⟨by show st.cnt + st.rest.length ≤ _; omega, by show st.deep + 1 ≤ 60; omega⟩, fun e => absurd h0 e, by show st.cnt ≤ _; omega⟩, rfl, Nat.le_refl _⟩
    obtain ⟨od, od1, od3⟩ := od
    simp only [P]
    generalize st.deeper n = s0 at *
    have hq := sign_eq 41 s0
    have hn := sign_len 41 s0
    split
    · exact ⟨_, rfl⟩
    · obtain ⟨q, h1⟩ := P_total n f .or _ _ (od.sign 41) ⟨rfl, by omega⟩ (by simp only [rankM]; omega)
      exact ⟨_, by rw [h1]; rfl⟩

/-- Before anything was read. -/
def St.init (l : List Nat) : St := ⟨l, 0, 0, 0, 0⟩
theorem init_ok {l : List Nat} (h : l.length ≤ 65536) : Ok (St.init l) := ⟨by show 0 ≤ 61; omega, fun _ => ⟨by show 0 + l.length ≤ _; omega, by show 0 ≤ 60; omega⟩, fun e => absurd rfl e, by show 0 ≤ _; omega⟩
/-- The whole text: what it is, and the state behind it. -/
def readQ (l : List Nat) : RE × St := (P l.length (20 * l.length + 8) .or (St.init l)).getD (rNothing, St.init l)
theorem readQ_some {l : List Nat} (h : l.length ≤ 65536) : P l.length (20 * l.length + 8) .or (St.init l) = some (readQ l) := by
  obtain ⟨q, hq⟩ := P_total l.length (20 * l.length + 8) .or 0 (St.init l) (init_ok h) ⟨rfl, by show 0 ≤ _; omega⟩ (by show 20 * l.length + 7 < _; omega)
  unfold readQ
  rw [hq]; rfl
/-- The state at the end: an error, or none. -/
def rdEnd (l : List Nat) : St :=
  let q := readQ l
  let s1 := if q.2.skip.rest.isEmpty then q.2.skip else q.2.skip.fail 2 (q.2.skip.pos l.length)
  if s1.err = 0 ∧ 1000 < q.1.size then s1.fail 3 0 else s1
end Go.Proofs.YtjlgepahgmkamaaGreatDoor
