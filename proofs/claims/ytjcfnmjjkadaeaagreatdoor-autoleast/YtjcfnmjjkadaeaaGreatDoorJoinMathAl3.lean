/- Texts of this claim put together: MathAl, MathAl2, MathAl3. -/
import Derived.Test.YtjcfnmjjkadaeaaGreatDoorJoinSetD
/- States in groups, split and split again (package alike): in the end two are in one just where no text tells them apart. Mathematics alone. -/
namespace Go.Proofs.YtjcfnmjjkadaeaaGreatDoor
set_option maxRecDepth 100000
set_option linter.unusedSimpArgs false
set_option linter.unusedVariables false

/-- Where a row of columns leads to. -/
def alRun (w : List (Nat → Nat)) (q : Nat) : Nat := w.foldl (fun q c => c q) q
/-- No row of columns tells two states apart. -/
def AlEq (ys : Nat → Bool) (cs : List (Nat → Nat)) (p q : Nat) : Prop := ∀ w, (∀ c ∈ w, c ∈ cs) → ys (alRun w p) = ys (alRun w q)
theorem AlEq.step {ys : Nat → Bool} {cs : List (Nat → Nat)} {p q : Nat} (h : AlEq ys cs p q) {c : Nat → Nat} (hc : c ∈ cs) : AlEq ys cs (c p) (c q) := fun w hw => by
  have := h (c :: w) (fun d hd => by
    rcases List.mem_cons.1 hd with rfl | hd
    · exact hc
    · exact hw d hd)
  exact this
/-- Numbers of groups before and behind a split: a state keeps its number, or has a new one; two are in one group yet just where they were, and both are marked or none. -/
structure AlSp (n : Nat) (M : Nat → Bool) (f : Nat → Nat) (N : Nat) (f' : Nat → Nat) (N' : Nat) : Prop where
  le : N ≤ N'
  new : ∀ q, q < n → f' q = f q ∨ N ≤ f' q
  lt : ∀ q, q < n → f' q < N'
  iff : ∀ p q, p < n → q < n → (f' p = f' q ↔ f p = f q ∧ M p = M q)
/-- Groups below g were looked at. -/
structure Ali (n : Nat) (ys : Nat → Bool) (cs : List (Nat → Nat)) (g : Nat) (f : Nat → Nat) (N : Nat) : Prop where
  lt : ∀ q, q < n → f q < N
  gN : g ≤ N
  yes : ∀ p q, p < n → q < n → f p = f q → ys p = ys q
  old : ∀ k, k < g → ∃ S : Nat → Bool, (∀ q, q < n → f q = k → S q = true) ∧ (∀ q, q < n → f q < k → S q = false) ∧ ∀ c ∈ cs, ∀ p q, p < n → q < n → f p = f q → S (c p) = S (c q)
  coarse : ∀ p q, p < n → q < n → AlEq ys cs p q → f p = f q
/-- Within group g: S is what it was, the columns of 'dn' are done. -/
structure AliM (n : Nat) (ys : Nat → Bool) (cs : List (Nat → Nat)) (g : Nat) (S : Nat → Bool) (dn : List (Nat → Nat)) (f : Nat → Nat) (N : Nat) : Prop extends Ali n ys cs g f N where
  gl : g < N
  here : ∀ q, q < n → f q = g → S q = true
  low : ∀ q, q < n → f q < g → S q = false
  done : ∀ c ∈ dn, ∀ p q, p < n → q < n → f p = f q → S (c p) = S (c q)
  one : ∀ p q, p < n → q < n → AlEq ys cs p q → S p = S q
theorem Ali.start {n : Nat} {ys : Nat → Bool} {cs : List (Nat → Nat)} {f f' : Nat → Nat} {N N' : Nat} (h0 : ∀ p q, p < n → q < n → f p = f q) (h : AlSp n ys f N f' N') : Ali n ys cs 0 f' N' where
  lt := h.lt
  gN := Nat.zero_le _
  yes p q hp hq e := ((h.iff p q hp hq).1 e).2
  old k hk := absurd hk (Nat.not_lt_zero k)
  coarse p q hp hq e := (h.iff p q hp hq).2 ⟨h0 p q hp hq, e [] (fun c hc => absurd hc (by simp))⟩
theorem Ali.open {n : Nat} {ys : Nat → Bool} {cs : List (Nat → Nat)} {g : Nat} {f : Nat → Nat} {N : Nat} (h : Ali n ys cs g f N) (hg : g < N) : AliM n ys cs g (fun q => decide (f q = g)) [] f N where
  toAli := h
  gl := hg
  here q hq e := by simp [e]
  low q hq e := by simp; omega
  done c hc := absurd hc (by simp)
  one p q hp hq e := by simp only [h.coarse p q hp hq e]
theorem AliM.split {n : Nat} {ys : Nat → Bool} {cs : List (Nat → Nat)} {g : Nat} {S : Nat → Bool} {dn : List (Nat → Nat)} {f f' : Nat → Nat} {N N' : Nat} {c : Nat → Nat} (h : AliM n ys cs g S dn f N) (hc : c ∈ cs) (hcn : ∀ q, q < n → c q < n)
    (hs : AlSp n (fun q => S (c q)) f N f' N') : AliM n ys cs g S (dn ++ [c]) f' N' where
  lt := hs.lt
  gN := Nat.le_trans h.gN hs.le
  yes p q hp hq e := h.yes p q hp hq ((hs.iff p q hp hq).1 e).1
  old k hk := by
    obtain ⟨T, h1, h2, h3⟩ := h.old k hk
    have hkN := Nat.lt_of_lt_of_le hk h.gN
    refine ⟨T, fun q hq e => h1 q hq ?_, fun q hq e => h2 q hq ?_, fun d hd p q hp hq e => h3 d hd p q hp hq ((hs.iff p q hp hq).1 e).1⟩
    · rcases hs.new q hq with h | h <;> omega
    · rcases hs.new q hq with h | h <;> omega
  coarse p q hp hq e := (hs.iff p q hp hq).2 ⟨h.coarse p q hp hq e, h.one _ _ (hcn p hp) (hcn q hq) (e.step hc)⟩
  gl := Nat.lt_of_lt_of_le h.gl hs.le
  here q hq e := h.here q hq (by have := h.gl; rcases hs.new q hq with h | h <;> omega)
  low q hq e := h.low q hq (by have := h.gl; rcases hs.new q hq with h | h <;> omega)
  done d hd p q hp hq e := by
    have h2 := (hs.iff p q hp hq).1 e
    rcases List.mem_append.1 hd with hd | hd
    · exact h.done d hd p q hp hq h2.1
    · obtain rfl : d = c := by simpa using hd
      exact h2.2
  one := h.one
theorem AliM.close {n : Nat} {ys : Nat → Bool} {cs : List (Nat → Nat)} {g : Nat} {S : Nat → Bool} {f : Nat → Nat} {N : Nat} (h : AliM n ys cs g S cs f N) : Ali n ys cs (g + 1) f N where
  lt := h.lt
  gN := h.gl
  yes := h.yes
  old k hk := by
    by_cases e : k = g
    · subst e
      exact ⟨S, h.here, h.low, h.done⟩
    · exact h.old k (by omega)
  coarse := h.coarse
/-- In the end the groups are just those of the texts behind. -/
theorem Ali.step {n : Nat} {ys : Nat → Bool} {cs : List (Nat → Nat)} {f : Nat → Nat} {N : Nat} (h : Ali n ys cs N f N) (hcn : ∀ c ∈ cs, ∀ q, q < n → c q < n) {c : Nat → Nat} (hc : c ∈ cs) {p q : Nat} (hp : p < n) (hq : q < n) (e : f p = f q) : f (c p) = f (c q) := by
  have key : ∀ p q, p < n → q < n → f p = f q → ¬ f (c q) < f (c p) := fun p q hp hq e hlt => by
    obtain ⟨S, h1, h2, h3⟩ := h.old (f (c p)) (h.lt _ (hcn c hc p hp))
    have e1 := h1 (c p) (hcn c hc p hp) rfl
    have e2 := h2 (c q) (hcn c hc q hq) hlt
    have e3 := h3 c hc p q hp hq e
    rw [e1, e2] at e3
    cases e3
  have := key p q hp hq e
  have := key q p hq hp e.symm
  omega
theorem Ali.end {n : Nat} {ys : Nat → Bool} {cs : List (Nat → Nat)} {f : Nat → Nat} {N : Nat} (h : Ali n ys cs N f N) (hcn : ∀ c ∈ cs, ∀ q, q < n → c q < n) {p q : Nat} (hp : p < n) (hq : q < n) : f p = f q ↔ AlEq ys cs p q := by
  refine ⟨fun e w => ?_, h.coarse p q hp hq⟩
  induction w generalizing p q with
  | nil => intro _; exact h.yes p q hp hq e
  | cons c w ih =>
    intro hw
    have hc := hw c (by simp)
    exact ih (hcn c hc p hp) (hcn c hc q hq) (h.step hcn hc hp hq e) fun d hd => hw d (by simp [hd])

/-- Numbers as they are first met: of each element how many different ones were met ahead of its first place. -/
def numK (ms : List Nat) : List Nat → List Nat
  | [] => []
  | x :: r => if x ∈ ms then ms.idxOf x :: numK ms r else ms.length :: numK (ms ++ [x]) r
def numL (l : List Nat) : List Nat := numK [] l
/-- What was met in the end. -/
def metL (ms : List Nat) : List Nat → List Nat
  | [] => ms
  | x :: r => if x ∈ ms then metL ms r else metL (ms ++ [x]) r
theorem metL_pre (l : List Nat) : ∀ ms, ∃ r, metL ms l = ms ++ r := by
  induction l with
  | nil => intro ms; exact ⟨[], by simp [metL]⟩
  | cons x l ih =>
    intro ms
    unfold metL
    split
    · exact ih ms
    · obtain ⟨r, h⟩ := ih (ms ++ [x])
      exact ⟨x :: r, by rw [h]; simp⟩
theorem metL_nodup (l : List Nat) : ∀ ms, ms.Nodup → (metL ms l).Nodup := by
  induction l with
  | nil => intro ms h; exact h
  | cons x l ih =>
    intro ms h
    unfold metL
    split
    · exact ih ms h
    · rename_i hx
      refine ih _ (List.nodup_append.2 ⟨h, by simp, fun a ha b hb e => ?_⟩)
      rcases List.mem_singleton.1 hb with rfl
      exact hx (e ▸ ha)
/-- Each element's number is its place in what was met. -/
theorem numK_idx (l : List Nat) : ∀ ms, numK ms l = l.map (metL ms l).idxOf ∧ ∀ x ∈ l, x ∈ metL ms l := by
  induction l with
  | nil => intro ms; exact ⟨rfl, fun x hx => absurd hx (by simp)⟩
  | cons x l ih =>
    intro ms
    unfold numK metL
    by_cases hx : x ∈ ms
    · rw [if_pos hx, if_pos hx]
      obtain ⟨h1, h2⟩ := ih ms
      obtain ⟨r, hr⟩ := metL_pre l ms
      have hm : x ∈ metL ms l := by rw [hr]; simp [hx]
      refine ⟨?_, fun y hy => ?_⟩
      · rw [h1, List.map_cons]
        congr 1
        rw [hr, List.idxOf_append, if_pos hx]
      · rcases List.mem_cons.1 hy with rfl | hy
        · exact hm
        · exact h2 y hy
    · rw [if_neg hx, if_neg hx]
      obtain ⟨h1, h2⟩ := ih (ms ++ [x])
      obtain ⟨r, hr⟩ := metL_pre l (ms ++ [x])
      have hm : x ∈ metL (ms ++ [x]) l := by rw [hr]; simp
      refine ⟨?_, fun y hy => ?_⟩
      · rw [h1, List.map_cons]
        congr 1
        rw [hr, List.append_assoc, List.idxOf_append, if_neg hx]
        simp
      · rcases List.mem_cons.1 hy with rfl | hy
        · exact hm
        · exact h2 y hy
theorem idxOf_inj {l : List Nat} {x y : Nat} (hx : x ∈ l) (hy : y ∈ l) (h : l.idxOf x = l.idxOf y) : x = y := by
  have h1 := List.getElem_idxOf (List.idxOf_lt_length_of_mem hx)
  have h2 := List.getElem_idxOf (List.idxOf_lt_length_of_mem hy)
  rw [← h1, ← h2]
  congr 1
end Go.Proofs.YtjcfnmjjkadaeaaGreatDoor
/- Package alike's parting: states in an order, groups as pieces of it; what a mark and a split make of them. Mathematics alone. -/
namespace Go.Proofs.YtjcfnmjjkadaeaaGreatDoor
set_option maxRecDepth 100000
set_option linter.unusedSimpArgs false
set_option linter.unusedVariables false

def updN (f : Nat → Nat) (i v : Nat) : Nat → Nat := fun j => if j = i then v else f j
/-- n states: of each its group, the order and its inverse, the groups (where each begins, where its marked ones end, where it ends). -/
structure Prt (n : Nat) (f od pl : Nat → Nat) (gs : List (Nat × Nat × Nat)) : Prop where
  plt : ∀ q, q < n → pl q < n
  olt : ∀ i, i < n → od i < n
  op : ∀ q, q < n → od (pl q) = q
  po : ∀ i, i < n → pl (od i) = i
  grp : ∀ q, q < n → ∃ x, gs[f q]? = some x ∧ x.1 ≤ pl q ∧ pl q < x.2.2
  shp : ∀ k x, gs[k]? = some x → x.1 ≤ x.2.1 ∧ x.2.1 ≤ x.2.2 ∧ x.1 < x.2.2 ∧ x.2.2 ≤ n ∧ ∀ i, x.1 ≤ i → i < x.2.2 → f (od i) = k
/-- Is a state marked? -/
def mkd (f pl : Nat → Nat) (gs : List (Nat × Nat × Nat)) (q : Nat) : Bool := match gs[f q]? with
  | some x => decide (pl q < x.2.1)
  | none => false
theorem mkd_of {f pl : Nat → Nat} {gs : List (Nat × Nat × Nat)} {q : Nat} {x : Nat × Nat × Nat} (h : gs[f q]? = some x) : mkd f pl gs q = decide (pl q < x.2.1) := by
  unfold mkd; rw [h]
theorem Prt.start {n : Nat} (h : 0 < n) : Prt n (fun _ => 0) id id [(0, 0, n)] where
  plt q h := h
  olt q h := h
  op q _ := rfl
  po q _ := rfl
  grp q hq := ⟨_, rfl, Nat.zero_le _, hq⟩
  shp k x hk := by
    cases k with
    | zero =>
      obtain rfl : (0, 0, n) = x := by simpa using hk
      exact ⟨Nat.le_refl _, Nat.zero_le _, h, Nat.le_refl _, fun i _ _ => rfl⟩
    | succ k => simp at hk
theorem Prt.lt {n : Nat} {f od pl : Nat → Nat} {gs : List (Nat × Nat × Nat)} (h : Prt n f od pl gs) {q : Nat} (hq : q < n) : f q < gs.length := by
  obtain ⟨x, hx, -⟩ := h.grp q hq
  exact (List.getElem?_eq_some_iff.1 hx).1
/-- A state that isn't marked is marked. -/
theorem Prt.mark {n : Nat} {f od pl : Nat → Nat} {gs : List (Nat × Nat × Nat)} (h : Prt n f od pl gs) {q : Nat} (hq : q < n) {a m b : Nat} (hx : gs[f q]? = some (a, m, b)) (hm : mkd f pl gs q = false) :
    m < b ∧ Prt n f (updN (updN od (pl q) (od m)) m q) (updN (updN pl (od m) (pl q)) q m) (gs.set (f q) (a, m + 1, b)) ∧
    ∀ r, r < n → mkd f (updN (updN pl (od m) (pl q)) q m) (gs.set (f q) (a, m + 1, b)) r = (mkd f pl gs r || decide (r = q)) := by
  rw [mkd_of hx] at hm
  have hm : m ≤ pl q := by simpa using hm
  obtain ⟨s1, s2, s3, s4, s5⟩ := h.shp _ _ hx
  simp only at s1 s2 s3 s4 s5
  have hg : a ≤ pl q ∧ pl q < b := by
    obtain ⟨x, e, h1, h2⟩ := h.grp q hq
    rw [hx] at e
    injection e with e
    subst e
    exact ⟨h1, h2⟩
  have hmb : m < b := by omega
  have hmn : m < n := by omega
  have hon := h.olt m hmn
  have hpn := h.plt q hq
  have hfo : f (od m) = f q := s5 m (by omega) hmb
  have hset : ∀ k, (gs.set (f q) (a, m + 1, b))[k]? = if k = f q then some (a, m + 1, b) else gs[k]? := fun k => by
    rw [List.getElem?_set]
    by_cases e : f q = k
    · subst e; rw [if_pos rfl, if_pos rfl, if_pos (h.lt hq)]
    · rw [if_neg e, if_neg (fun e' => e e'.symm)]
  -- the order and the places behind it
  have hod : ∀ i, i < n → updN (updN od (pl q) (od m)) m q i = if i = m then q else if i = pl q then od m else od i := fun i _ => by
    unfold updN; rfl
  have hpl : ∀ r, r < n → updN (updN pl (od m) (pl q)) q m r = if r = q then m else if r = od m then pl q else pl r := fun r _ => by
    unfold updN; rfl
  have hpom := h.po m hmn
  have hopq := h.op q hq
  refine ⟨hmb, ⟨fun r hr => ?_, fun i hi => ?_, fun r hr => ?_, fun i hi => ?_, fun r hr => ?_, fun k x hk => ?_⟩, fun r hr => ?_⟩
  · rw [hpl r hr]
    have := h.plt r hr
    repeat' split
    all_goals omega
  · rw [hod i hi]
    have := h.olt i hi
    repeat' split
    all_goals omega
  · rw [hpl r hr]
    by_cases e1 : r = q
    · subst e1
      rw [if_pos rfl, hod m hmn, if_pos rfl]
    · rw [if_neg e1]
      by_cases e2 : r = od m
      · rw [if_pos e2, hod _ hpn]
        by_cases e3 : pl q = m
        · exfalso
          apply e1
          rw [e2, ← e3, hopq]
        · rw [if_neg e3, if_pos rfl, e2]
      · rw [if_neg e2, hod _ (h.plt r hr)]
        have hr2 := h.op r hr
        rw [if_neg (fun e => e2 (by rw [← hr2, e])), if_neg (fun e => e1 (by rw [← hr2, e, hopq])), hr2]
  · rw [hod i hi]
    by_cases e1 : i = m
    · subst e1
      rw [if_pos rfl, hpl q hq, if_pos rfl]
    · rw [if_neg e1]
      by_cases e2 : i = pl q
      · rw [if_pos e2, hpl _ hon]
        by_cases e3 : od m = q
        · exfalso
          apply e1
          rw [e2, ← e3, hpom]
        · rw [if_neg e3, if_pos rfl, e2]
      · rw [if_neg e2, hpl _ (h.olt i hi)]
        have hi2 := h.po i hi
        rw [if_neg (fun e => e2 (by rw [← hi2, e])), if_neg (fun e => e1 (by rw [← hi2, e, hpom])), hi2]
  · rw [hset, hpl r hr]
    by_cases e0 : f r = f q
    · rw [if_pos e0]
      refine ⟨_, rfl, ?_⟩
      simp only
      obtain ⟨x, e, h1, h2⟩ := h.grp r hr
      rw [e0, hx] at e
      injection e with e
      subst e
      simp only at h1 h2
      repeat' split
      all_goals omega
    · rw [if_neg e0, if_neg (fun e => e0 (by rw [e])), if_neg (fun e => e0 (by rw [e, hfo]))]
      exact h.grp r hr
  · rw [hset] at hk
    have hfod : ∀ i, i < n → f (updN (updN od (pl q) (od m)) m q i) = f (od i) := fun i hi => by
      rw [hod i hi]
      by_cases e1 : i = m
      · subst e1; rw [if_pos rfl, hfo]
      · rw [if_neg e1]
        by_cases e2 : i = pl q
        · rw [if_pos e2, hfo, e2, hopq]
        · rw [if_neg e2]
    by_cases e0 : k = f q
    · rw [if_pos e0] at hk
      injection hk with hk
      subst hk
      refine ⟨by simp only; omega, by simp only; omega, by simp only; omega, by simp only; omega, fun i h1 h2 => ?_⟩
      simp only at h1 h2
      rw [hfod i (by omega), e0]
      exact s5 i h1 h2
    · rw [if_neg e0] at hk
      obtain ⟨t1, t2, t3, t4, t5⟩ := h.shp k x hk
      exact ⟨t1, t2, t3, t4, fun i h1 h2 => by rw [hfod i (by omega)]; exact t5 i h1 h2⟩
  · obtain ⟨x, hxr, h1, h2⟩ := h.grp r hr
    by_cases e0 : f r = f q
    · have hx2 : (gs.set (f q) (a, m + 1, b))[f r]? = some (a, m + 1, b) := by rw [hset, if_pos e0]
      rw [mkd_of hx2, mkd_of (show gs[f r]? = some (a, m, b) by rw [e0]; exact hx), hpl r hr]
      simp only
      by_cases e1 : r = q
      · subst e1; simp
      · rw [if_neg e1]
        by_cases e2 : r = od m
        · rw [if_pos e2]
          have e3 : pl r = m := by rw [e2, hpom]
          have e4 : pl q ≠ m := fun e => e1 (by rw [← h.op r hr, e3, ← e, hopq])
          rw [e3]
          simp [e1]; omega
        · rw [if_neg e2]
          have e3 : pl r ≠ m := fun e => e2 (by rw [← h.op r hr, e])
          simp only [e1, decide_false, Bool.or_false]
          congr 1
          exact propext ⟨fun h => by omega, fun h => by omega⟩
    · have hx2 : (gs.set (f q) (a, m + 1, b))[f r]? = some x := by rw [hset, if_neg e0]; exact hxr
      have e1 : r ≠ q := fun e => e0 (by rw [e])
      have e2 : r ≠ od m := fun e => e0 (by rw [e, hfo])
      rw [mkd_of hx2, mkd_of hxr, hpl r hr, if_neg e1, if_neg e2]
      simp [e1]
end Go.Proofs.YtjcfnmjjkadaeaaGreatDoor
/- Package alike's split: the marked states of each group are parted from the others. Mathematics alone. -/
namespace Go.Proofs.YtjcfnmjjkadaeaaGreatDoor
set_option maxRecDepth 100000
set_option linter.unusedSimpArgs false
set_option linter.unusedVariables false

/-- One group is split: the smaller half is the new group. -/
def spl1 (pl : Nat → Nat) (k : Nat) (s : (Nat → Nat) × List (Nat × Nat × Nat)) : (Nat → Nat) × List (Nat × Nat × Nat) := match s.2[k]? with
  | none => s
  | some (a, m, b) =>
    if b - m = 0 then (s.1, s.2.set k (a, a, b))
    else if m - a < b - m then (fun q => if a ≤ pl q ∧ pl q < m then s.2.length else s.1 q, s.2.set k (m, m, b) ++ [(a, a, m)])
    else (fun q => if m ≤ pl q ∧ pl q < b then s.2.length else s.1 q, s.2.set k (a, a, m) ++ [(m, m, b)])
/-- What a split of one group does. -/
structure Sp1 (n : Nat) (k : Nat) (f od pl : Nat → Nat) (gs : List (Nat × Nat × Nat)) (f' : Nat → Nat) (gs' : List (Nat × Nat × Nat)) : Prop where
  prt : Prt n f' od pl gs'
  sp : AlSp n (fun q => decide (f q = k) && mkd f pl gs q) f gs.length f' gs'.length
  same : ∀ q, q < n → f q ≠ k → f' q = f q
  mks : ∀ q, q < n → mkd f' pl gs' q = (mkd f pl gs q && !decide (f q = k))
theorem Prt.in {n : Nat} {f od pl : Nat → Nat} {gs : List (Nat × Nat × Nat)} (h : Prt n f od pl gs) {q : Nat} (hq : q < n) {k : Nat} {x : Nat × Nat × Nat} (hx : gs[k]? = some x) : f q = k ↔ x.1 ≤ pl q ∧ pl q < x.2.2 := by
  constructor
  · rintro rfl
    obtain ⟨y, e, h1, h2⟩ := h.grp q hq
    rw [hx] at e
    injection e with e
    subst e
    exact ⟨h1, h2⟩
  · rintro ⟨h1, h2⟩
    have := (h.shp k x hx).2.2.2.2 (pl q) h1 h2
    rwa [h.op q hq] at this
theorem Prt.cut {n : Nat} {f od pl : Nat → Nat} {gs : List (Nat × Nat × Nat)} (h : Prt n f od pl gs) {k a m b : Nat} (hx : gs[k]? = some (a, m, b)) (h1 : a < m) (h2 : m < b) {u v u2 v2 : Nat}
    (hc : (u = a ∧ v = m ∧ u2 = m ∧ v2 = b) ∨ (u = m ∧ v = b ∧ u2 = a ∧ v2 = m)) :
    Sp1 n k f od pl gs (fun q => if u ≤ pl q ∧ pl q < v then gs.length else f q) (gs.set k (u2, u2, v2) ++ [(u, u, v)]) := by
  obtain ⟨s1, s2, s3, s4, s5⟩ := h.shp _ _ hx
  simp only at s1 s2 s3 s4 s5
  have hk := (List.getElem?_eq_some_iff.1 hx).1
  have hin : ∀ q, q < n → (f q = k ↔ a ≤ pl q ∧ pl q < b) := fun q hq => h.in hq hx
  have hset : ∀ j, (gs.set k (u2, u2, v2) ++ [(u, u, v)])[j]? = if j = gs.length then some (u, u, v) else if j = k then some (u2, u2, v2) else gs[j]? := fun j => by
    by_cases e1 : j = gs.length
    · subst e1
      rw [if_pos rfl, List.getElem?_append_right (by simp)]
      simp
    · rw [if_neg e1]
      by_cases e2 : j < gs.length
      · rw [List.getElem?_append_left (by simpa using e2), List.getElem?_set]
        by_cases e3 : k = j
        · subst e3; rw [if_pos rfl, if_pos rfl, if_pos hk]
        · rw [if_neg e3, if_neg (fun e => e3 e.symm)]
      · rw [List.getElem?_eq_none (by simp; omega), if_neg (by omega), List.getElem?_eq_none (by omega)]
  have hmk : ∀ q, q < n → mkd f pl gs q = true → f q = k → pl q < m := fun q hq e e2 => by
    rw [mkd_of (show gs[f q]? = some (a, m, b) by rw [e2]; exact hx)] at e
    simpa using e
  have hmk2 : ∀ q, q < n → f q = k → mkd f pl gs q = decide (pl q < m) := fun q hq e2 => by
    rw [mkd_of (show gs[f q]? = some (a, m, b) by rw [e2]; exact hx)]
  obtain ⟨F, hF⟩ : ∃ F : Nat → Nat, F = fun q => if u ≤ pl q ∧ pl q < v then gs.length else f q := ⟨_, rfl⟩
  have hFq : ∀ q, F q = if u ≤ pl q ∧ pl q < v then gs.length else f q := fun q => by rw [hF]
  rw [← hF]
  refine ⟨⟨h.plt, h.olt, h.op, h.po, fun q hq => ?_, fun j x hj => ?_⟩, ⟨by simp, fun q hq => ?_, fun q hq => ?_, fun p q hp hq => ?_⟩, fun q hq hne => ?_, fun q hq => ?_⟩
  · rw [hFq]
    by_cases e : u ≤ pl q ∧ pl q < v
    · rw [if_pos e, hset, if_pos rfl]
      exact ⟨_, rfl, e.1, e.2⟩
    · have hl := h.lt hq
      rw [if_neg e, hset, if_neg (by omega)]
      by_cases e2 : f q = k
      · rw [if_pos e2]
        have := (hin q hq).1 e2
        exact ⟨_, rfl, by simp only; omega, by simp only; omega⟩
      · rw [if_neg e2]
        exact h.grp q hq
  · rw [hset] at hj
    by_cases e1 : j = gs.length
    · rw [if_pos e1] at hj
      injection hj with hj
      subst hj
      refine ⟨Nat.le_refl _, by simp only; omega, by simp only; omega, by simp only; omega, fun i i1 i2 => ?_⟩
      simp only at i1 i2
      rw [hFq, h.po i (by omega), if_pos ⟨i1, i2⟩, e1]
    · rw [if_neg e1] at hj
      by_cases e2 : j = k
      · rw [if_pos e2] at hj
        injection hj with hj
        subst hj
        refine ⟨Nat.le_refl _, by simp only; omega, by simp only; omega, by simp only; omega, fun i i1 i2 => ?_⟩
        simp only at i1 i2
        rw [hFq, h.po i (by omega), if_neg (by omega), e2]
        exact s5 i (by omega) (by omega)
      · rw [if_neg e2] at hj
        obtain ⟨t1, t2, t3, t4, t5⟩ := h.shp j x hj
        refine ⟨t1, t2, t3, t4, fun i i1 i2 => ?_⟩
        have e3 := t5 i i1 i2
        rw [hFq, h.po i (by omega), if_neg (fun e => e2 ?_), e3]
        rw [← e3]
        exact s5 i (by omega) (by omega)
  · rw [hFq]
    split
    · exact .inr (Nat.le_refl _)
    · exact .inl rfl
  · have := h.lt hq
    rw [hFq]
    simp only [List.length_append, List.length_set, List.length_cons, List.length_nil]
    split <;> omega
  · have lp := h.lt hp
    have lq := h.lt hq
    have ip := hin p hp
    have iq := hin q hq
    rw [hFq p, hFq q]
    by_cases fp : f p = k
    · have mp := hmk2 p hp fp
      have ap := ip.1 fp
      by_cases fq : f q = k
      · have mq := hmk2 q hq fq
        have aq := iq.1 fq
        rw [mp, mq, fp, fq]
        simp only [decide_true, Bool.true_and, true_and, decide_eq_decide]
        repeat' split
        all_goals omega
      · have nq : ¬ (u ≤ pl q ∧ pl q < v) := fun e => fq (iq.2 (by omega))
        rw [if_neg nq]
        refine ⟨fun e => ?_, fun e => absurd (e.1.symm.trans fp) fq⟩
        split at e
        · omega
        · exact absurd (e.symm.trans fp) fq
    · have np : ¬ (u ≤ pl p ∧ pl p < v) := fun e => fp (ip.2 (by omega))
      rw [if_neg np]
      by_cases fq : f q = k
      · refine ⟨fun e => ?_, fun e => absurd (e.1.trans fq) fp⟩
        split at e
        · omega
        · exact absurd (e.trans fq) fp
      · have nq : ¬ (u ≤ pl q ∧ pl q < v) := fun e => fq (iq.2 (by omega))
        rw [if_neg nq]
        simp [fp, fq]
  · rw [hFq, if_neg (fun e => hne ((hin q hq).2 (by omega)))]
  · have hl := h.lt hq
    by_cases e : u ≤ pl q ∧ pl q < v
    · have e2 := (hin q hq).2 (by omega)
      have e3 : (gs.set k (u2, u2, v2) ++ [(u, u, v)])[F q]? = some (u, u, v) := by
        rw [hFq, if_pos e, hset, if_pos rfl]
      rw [mkd_of e3]
      simp [e2]; omega
    · by_cases e2 : f q = k
      · have e3 : (gs.set k (u2, u2, v2) ++ [(u, u, v)])[F q]? = some (u2, u2, v2) := by
          rw [hFq, if_neg e, hset, if_neg (by omega), if_pos e2]
        have := (hin q hq).1 e2
        rw [mkd_of e3]
        simp [e2]; omega
      · obtain ⟨x, e4, -⟩ := h.grp q hq
        have e3 : (gs.set k (u2, u2, v2) ++ [(u, u, v)])[F q]? = some x := by
          rw [hFq, if_neg e, hset, if_neg (by omega), if_neg e2]
          exact e4
        rw [mkd_of e3, mkd_of e4]
        simp [e2]
theorem Prt.cut1 {n : Nat} {f od pl : Nat → Nat} {gs : List (Nat × Nat × Nat)} (h : Prt n f od pl gs) {k a m b : Nat} (hx : gs[k]? = some (a, m, b)) (h1 : a < m) :
    Sp1 n k f od pl gs (spl1 pl k (f, gs)).1 (spl1 pl k (f, gs)).2 := by
  obtain ⟨s1, s2, s3, s4, s5⟩ := h.shp _ _ hx
  simp only at s1 s2 s3 s4 s5
  have hk := (List.getElem?_eq_some_iff.1 hx).1
  unfold spl1
  simp only [hx]
  by_cases e : b - m = 0
  · rw [if_pos e]
    simp only
    have hset : ∀ j, (gs.set k (a, a, b))[j]? = if j = k then some (a, a, b) else gs[j]? := fun j => by
      rw [List.getElem?_set]
      by_cases e3 : k = j
      · subst e3; rw [if_pos rfl, if_pos rfl, if_pos hk]
      · rw [if_neg e3, if_neg (fun e => e3 e.symm)]
    have hin : ∀ q, q < n → (f q = k ↔ a ≤ pl q ∧ pl q < b) := fun q hq => h.in hq hx
    have hmk2 : ∀ q, q < n → f q = k → mkd f pl gs q = true := fun q hq e2 => by
      have := (hin q hq).1 e2
      rw [mkd_of (show gs[f q]? = some (a, m, b) by rw [e2]; exact hx)]
      simp; omega
    refine ⟨⟨h.plt, h.olt, h.op, h.po, fun q hq => ?_, fun j x hj => ?_⟩, ⟨by simp, fun q hq => .inl rfl, fun q hq => by simpa using h.lt hq, fun p q hp hq => ?_⟩, fun q hq _ => rfl, fun q hq => ?_⟩
    · rw [hset]
      by_cases e2 : f q = k
      · rw [if_pos e2]; exact ⟨_, rfl, (hin q hq).1 e2⟩
      · rw [if_neg e2]; exact h.grp q hq
    · rw [hset] at hj
      by_cases e2 : j = k
      · rw [if_pos e2] at hj
        injection hj with hj
        subst hj
        rw [e2]
        exact ⟨Nat.le_refl _, by simp only; omega, s3, s4, s5⟩
      · rw [if_neg e2] at hj; exact h.shp j x hj
    · refine ⟨fun e2 => ⟨e2, ?_⟩, fun e2 => e2.1⟩
      by_cases fp : f p = k
      · have fq := e2.symm.trans fp
        rw [hmk2 p hp fp, hmk2 q hq fq, fp, fq]
      · have fq : f q ≠ k := fun e3 => fp (e2.trans e3)
        simp [fp, fq]
    · by_cases e2 : f q = k
      · have := (hin q hq).1 e2
        rw [mkd_of (show (gs.set k (a, a, b))[f q]? = some (a, a, b) by rw [hset, if_pos e2])]
        simp [e2]; omega
      · obtain ⟨x, e4, -⟩ := h.grp q hq
        rw [mkd_of (show (gs.set k (a, a, b))[f q]? = some x by rw [hset, if_neg e2]; exact e4), mkd_of e4]
        simp [e2]
  · rw [if_neg e]
    split
    · exact h.cut hx h1 (by omega) (.inl ⟨rfl, rfl, rfl, rfl⟩)
    · exact h.cut hx h1 (by omega) (.inr ⟨rfl, rfl, rfl, rfl⟩)
/-- Some groups, one by one. -/
def splL (pl : Nat → Nat) (ts : List Nat) (s : (Nat → Nat) × List (Nat × Nat × Nat)) : (Nat → Nat) × List (Nat × Nat × Nat) := ts.foldl (fun s k => spl1 pl k s) s
theorem Prt.cutL {n : Nat} {od pl : Nat → Nat} : ∀ (ts : List Nat) {f : Nat → Nat} {gs : List (Nat × Nat × Nat)}, Prt n f od pl gs → ts.Nodup → (∀ k ∈ ts, ∃ a m b, gs[k]? = some (a, m, b) ∧ a < m) →
    Prt n (splL pl ts (f, gs)).1 od pl (splL pl ts (f, gs)).2 ∧ AlSp n (fun q => decide (f q ∈ ts) && mkd f pl gs q) f gs.length (splL pl ts (f, gs)).1 (splL pl ts (f, gs)).2.length ∧
    ∀ q, q < n → mkd (splL pl ts (f, gs)).1 pl (splL pl ts (f, gs)).2 q = (mkd f pl gs q && !decide (f q ∈ ts))
  | [], f, gs, h, _, _ => ⟨h, ⟨Nat.le_refl _, fun q _ => .inl rfl, fun q hq => h.lt hq, fun p q hp hq => by simp [splL]⟩, fun q _ => by simp [splL]⟩
  | k :: ts, f, gs, h, hn, ht => by
    obtain ⟨a, m, b, hx, h1⟩ := ht k (by simp)
    have hs := h.cut1 hx h1
    have hkn : k ∉ ts := (List.nodup_cons.1 hn).1
    obtain ⟨f1, gs1, hfg⟩ : ∃ f1 gs1, spl1 pl k (f, gs) = (f1, gs1) := ⟨_, _, rfl⟩
    rw [hfg] at hs
    simp only at hs
    have he : splL pl (k :: ts) (f, gs) = splL pl ts (f1, gs1) := by
      unfold splL
      rw [List.foldl_cons, hfg]
    have hold : ∀ j x, j ≠ k → gs[j]? = some x → gs1[j]? = some x := fun j x hj hjx => by
      have hjl := (List.getElem?_eq_some_iff.1 hjx).1
      have e := congrArg Prod.snd hfg
      unfold spl1 at e
      simp only [hx] at e
      rw [← hjx]
      split at e
      · rw [← show gs.set k (a, a, b) = gs1 from e, List.getElem?_set, if_neg (fun e => hj e.symm)]
      · split at e
        · rw [← show gs.set k (m, m, b) ++ [(a, a, m)] = gs1 from e, List.getElem?_append_left (by simpa using hjl), List.getElem?_set, if_neg (fun e => hj e.symm)]
        · rw [← show gs.set k (a, a, m) ++ [(m, m, b)] = gs1 from e, List.getElem?_append_left (by simpa using hjl), List.getElem?_set, if_neg (fun e => hj e.symm)]
    obtain ⟨i1, i2, i3⟩ := Prt.cutL ts hs.prt (List.nodup_cons.1 hn).2 fun j hj => by
      obtain ⟨a', m', b', hx', h1'⟩ := ht j (by simp [hj])
      exact ⟨a', m', b', hold j _ (fun e => hkn (e ▸ hj)) hx', h1'⟩
    rw [he]
    have hM : ∀ q, q < n → (decide (f1 q ∈ ts) && mkd f1 pl gs1 q) = (decide (f q ∈ ts) && mkd f pl gs q) := fun q hq => by
      rw [hs.mks q hq]
      by_cases e : f q = k
      · have : f q ∉ ts := by rw [e]; exact hkn
        simp [e, hkn]
      · rw [hs.same q hq e]
        simp [e]
    refine ⟨i1, ⟨Nat.le_trans hs.sp.le i2.le, fun q hq => ?_, i2.lt, fun p q hp hq => ?_⟩, fun q hq => ?_⟩
    · have := hs.sp.le
      rcases i2.new q hq with e | e
      · rw [e]; exact hs.sp.new q hq
      · exact .inr (by omega)
    · rw [i2.iff p q hp hq, hs.sp.iff p q hp hq]
      rw [hM p hp, hM q hq]
      constructor
      · rintro ⟨⟨e, e1⟩, e2⟩
        refine ⟨e, ?_⟩
        rw [← e] at e1 e2 ⊢
        by_cases fk : f p = k
        · simp only [fk, decide_true, Bool.true_and] at e1
          simp [e1]
        · simp only [List.mem_cons, fk, false_or]
          exact e2
      · rintro ⟨e, e1⟩
        rw [← e] at e1 ⊢
        by_cases fk : f p = k
        · simp only [List.mem_cons, fk, true_or, decide_true, Bool.true_and] at e1
          simp [fk, e1]
        · simp only [List.mem_cons, fk, false_or] at e1
          exact ⟨⟨rfl, by simp [fk]⟩, e1⟩
    · rw [i3 q hq, hs.mks q hq]
      by_cases e : f q = k
      · simp [e]
      · rw [hs.same q hq e]
        simp [e]
/-- All groups that have marked states. -/
theorem Prt.split {n : Nat} {f od pl : Nat → Nat} {gs : List (Nat × Nat × Nat)} (h : Prt n f od pl gs) {ts : List Nat} (hn : ts.Nodup) (ht : ∀ k, k ∈ ts ↔ ∃ a m b, gs[k]? = some (a, m, b) ∧ a < m) :
    Prt n (splL pl ts (f, gs)).1 od pl (splL pl ts (f, gs)).2 ∧ AlSp n (mkd f pl gs) f gs.length (splL pl ts (f, gs)).1 (splL pl ts (f, gs)).2.length ∧
    ∀ q, q < n → mkd (splL pl ts (f, gs)).1 pl (splL pl ts (f, gs)).2 q = false := by
  obtain ⟨i1, i2, i3⟩ := Prt.cutL ts h hn fun k hk => (ht k).1 hk
  have key : ∀ q, q < n → mkd f pl gs q = true → f q ∈ ts := fun q hq e => by
    obtain ⟨⟨a, m, b⟩, hx, h1, h2⟩ := h.grp q hq
    rw [mkd_of hx] at e
    simp only at h1 h2
    have e : pl q < m := by simpa using e
    exact (ht _).2 ⟨a, m, b, hx, by omega⟩
  refine ⟨i1, ⟨i2.le, i2.new, i2.lt, fun p q hp hq => ?_⟩, fun q hq => ?_⟩
  · rw [i2.iff p q hp hq]
    have hM : ∀ q, q < n → (decide (f q ∈ ts) && mkd f pl gs q) = mkd f pl gs q := fun q hq => by
      cases e : mkd f pl gs q with
      | false => simp
      | true => simp [key q hq e]
    rw [hM p hp, hM q hq]
  · rw [i3 q hq]
    cases e : mkd f pl gs q with
    | false => rfl
    | true => simp [key q hq e]
end Go.Proofs.YtjcfnmjjkadaeaaGreatDoor
