/- Texts of this claim put together: RunF, RunG. -/
import Derived.Test.YtjlgepahgmkamaaGreatDoorJoinRunE
import Derived.Test.YtjlgepahgmkamaaGreatDoorJoinShE
/- How deep, and how long, the text of what a shape makes is. -/
namespace Go.Proofs.YtjlgepahgmkamaaGreatDoor
set_option maxRecDepth 100000
set_option linter.unusedSimpArgs false
set_option linter.unusedVariables false
open Go.RowKit Go.Shelf St

/-- No more than so many levels. -/
def Ht : Nat → RE → Prop
  | 0, _ => False
  | h + 1, r => ∀ k ∈ r.kids, Ht h k
theorem Ht.up {h : Nat} {r : RE} (hr : Ht h r) : Ht (h + 1) r := by
  induction h generalizing r with
  | zero => exact absurd hr id
  | succ h ih => exact fun k hk => ih (hr k hk)
theorem Ht.le {h h' : Nat} {r : RE} (hr : Ht h r) (hh : h ≤ h') : Ht h' r := by
  obtain ⟨k, rfl⟩ := Nat.exists_eq_add_of_le hh
  clear hh
  induction k with
  | zero => exact hr
  | succ k ih => exact ih.up
theorem Ht.leaf {h : Nat} {r : RE} (hr : r.kids = []) : Ht (h + 1) r := fun k hk => by rw [hr] at hk; cases hk
theorem Ht.kid {h : Nat} {r k : RE} (hr : Ht h r) (hk : k ∈ r.kids) : Ht h k := by
  cases h with
  | zero => exact absurd hr id
  | succ h => exact (hr k hk).up
theorem ht_join {h o : Nat} {l : List RE} (hl : ∀ k ∈ l, Ht h k) (h0 : 0 < h) : Ht (h + 1) (rJoin o l) := by
  unfold rJoin
  split
  · exact (hl _ (by simp)).up
  · exact fun k hk => hl k hk
theorem ht_nothing {h : Nat} : Ht (h + 1) rNothing := Ht.leaf rfl
theorem ht_empty {h : Nat} : Ht (h + 1) rEmpty := Ht.leaf rfl
theorem ht_one {h : Nat} (s : BitVec 256) : Ht (h + 1) (rOne s) := Ht.leaf (rOne_kids s)
theorem ht_one' {h : Nat} (s : BitVec 256) (h0 : 0 < h) : Ht h (rOne s) := by obtain ⟨g, rfl⟩ : ∃ g, h = g + 1 := ⟨h - 1, by omega⟩; exact ht_one s
theorem ht_flat {h o : Nat} {l : List RE} (hl : ∀ k ∈ l, Ht h k) : ∀ k ∈ flatL o l, Ht h k := by
  intro k hk
  unfold flatL at hk
  obtain ⟨x, hx, hk⟩ := List.mem_flatMap.1 hk
  split at hk
  · exact (hl x hx).kid hk
  · rw [List.mem_singleton] at hk; rw [hk]; exact hl x hx
theorem ht_catL {h : Nat} {l : List RE} (hl : ∀ k ∈ l, Ht h k) : ∀ k ∈ catL l, Ht h k := by
  intro k hk
  unfold catL at hk
  obtain ⟨x, hx, hk⟩ := List.mem_flatMap.1 hk
  unfold catK at hk
  split at hk
  · cases hk
  split at hk
  · exact (hl x hx).kid hk
  · rw [List.mem_singleton] at hk; rw [hk]; exact hl x hx
theorem mem_insK_sub (x : RE) (l : List RE) : ∀ r ∈ insK x l, r = x ∨ r ∈ l := by
  induction l with
  | nil => intro r hr; simp [insK] at hr; exact .inl hr
  | cons y l ih =>
    intro r hr
    simp only [insK] at hr
    split at hr
    · rcases List.mem_cons.1 hr with h | h
      · exact .inl h
      · exact .inr h
    · split at hr
      · exact .inr hr
      · rcases List.mem_cons.1 hr with rfl | hr
        · simp
        · rcases ih r hr with h | h
          · exact .inl h
          · exact .inr (by simp [h])
theorem mem_ordL_sub (l : List RE) : ∀ r ∈ ordL l, r ∈ l := by
  induction l with
  | nil => intro r hr; exact hr
  | cons x l ih =>
    intro r hr
    have hr : r ∈ insK x (ordL l) := hr
    rcases mem_insK_sub x _ r hr with h | h
    · simp [h]
    · simp [ih r h]
theorem ht_then {h : Nat} {l : List RE} (hl : ∀ k ∈ l, Ht h k) (h0 : 0 < h) : Ht (h + 1) (rThen l) := by
  unfold rThen
  split
  · exact ht_nothing
  split
  · exact ht_empty
  · exact ht_join (ht_catL hl) h0
theorem ht_any {h : Nat} {l : List RE} (hl : ∀ k ∈ l, Ht h k) (h0 : 0 < h) : Ht (h + 1) (rAny l) := by
  unfold rAny
  simp only
  generalize hks : (orKeep (flatL 4 l) ++ if orSet (flatL 4 l) = 0#256 then [] else [rOne (orSet (flatL 4 l))]) = ks
  split
  · exact ht_nothing
  · refine ht_join (fun k hk => ?_) h0
    have hk := mem_ordL_sub _ k hk
    rw [← hks] at hk
    rcases List.mem_append.1 hk with hk | hk
    · exact ht_flat hl k ((List.mem_filter.1 hk).1)
    · split at hk
      · cases hk
      · rw [List.mem_singleton] at hk; rw [hk]; exact ht_one' _ h0
theorem ht_many {h : Nat} {r : RE} (hr : Ht h r) : Ht (h + 1) (rMany r) := by
  unfold rMany
  split
  · exact ht_empty
  split
  · exact hr.up
  · intro k hk
    rw [List.mem_singleton.1 hk]; exact hr
theorem ht_both {h : Nat} {l : List RE} (hl : ∀ k ∈ l, Ht h k) (h0 : 0 < h) : Ht (h + 1) (rBoth l) := by
  unfold rBoth
  simp only
  split
  · exact ht_nothing
  split
  · exact ht_nothing
  generalize hks : (orKeep (flatL 6 l) ++ if met (flatL 6 l) = true then [rOne (andSet (flatL 6 l))] else []) = ks
  split
  · exact ht_many (ht_one' _ h0)
  · refine ht_join (fun k hk => ?_) h0
    have hk := mem_ordL_sub _ k hk
    rw [← hks] at hk
    rcases List.mem_append.1 hk with hk | hk
    · exact ht_flat hl k ((List.mem_filter.1 hk).1)
    · split at hk
      · rw [List.mem_singleton] at hk; rw [hk]; exact ht_one' _ h0
      · cases hk
theorem ht_but {h : Nat} {a b : RE} (ha : Ht h a) (hb : Ht h b) : Ht (h + 1) (rBut a b) := by
  unfold rBut
  split
  · exact ha.up
  split
  · exact ht_one _
  split
  · exact ht_nothing
  · intro k hk
    simp [RE.kids] at hk
    rcases hk with rfl | rfl
    · exact ha
    · exact hb
theorem ht_word (t : List Nat) : Ht 2 (rWord t) := by
  unfold rWord
  refine ht_then (h := 1) (fun k hk => ?_) (by omega)
  obtain ⟨c, -, rfl⟩ := List.mem_map.1 hk
  exact Ht.leaf (rLetter_kids c)
theorem kidsP_le {h o : Nat} (ks : List RE) (hk : ∀ k ∈ ks, k.pd ≤ h) (i : Nat) : kidsP o i (kidPL ks) ≤ h + 1 := by
  induction ks generalizing i with
  | nil => exact Nat.zero_le _
  | cons k ks ih =>
    rw [kidsP_cons]
    have h1 := hk k (by simp)
    have h2 := ih (fun x hx => hk x (by simp [hx])) (i + 1)
    have h3 : grpN (needN o i) (holdN k.op) k.pd ≤ k.pd + 1 := by unfold grpN; split <;> omega
    omega
theorem Ht.pd {h : Nat} {r : RE} (hr : Ht h r) : r.pd ≤ h := by
  induction h generalizing r with
  | zero => exact absurd hr id
  | succ h ih =>
    cases r with
    | mk o s ks =>
      rw [RE.pd_mk]
      have hk : ∀ k ∈ ks, k.pd ≤ h := fun k hk => ih (hr k hk)
      have := kidsP_le (o := o) ks hk 0
      unfold opP
      split <;> omega

/-- What stands at the ends of runs weighs. -/
def bdw (g : Nat → Nat) (s : BitVec 256) : Nat := ((List.range 255).map fun p => if s.getLsbD p = s.getLsbD (p + 1) then 0 else g p).sum
theorem sum_le {l : List Nat} {f g : Nat → Nat} (h : ∀ x ∈ l, f x ≤ g x) : (l.map f).sum ≤ (l.map g).sum := by
  induction l with
  | nil => simp
  | cons x l ih =>
    have := h x (by simp)
    have := ih (fun y hy => h y (by simp [hy]))
    simp; omega
theorem sum_add (l : List Nat) (f g : Nat → Nat) : (l.map fun x => f x + g x).sum = (l.map f).sum + (l.map g).sum := by
  induction l with
  | nil => simp
  | cons x l ih => simp [ih]; omega
theorem bdw_op {g : Nat → Nat} {a b c : BitVec 256} (op : Bool → Bool → Bool) (h : ∀ i < 256, c.getLsbD i = op (a.getLsbD i) (b.getLsbD i)) : bdw g c ≤ bdw g a + bdw g b := by
  unfold bdw
  rw [← sum_add]
  refine sum_le fun p hp => ?_
  have hp : p < 255 := by simpa using hp
  rw [h p (by omega), h (p + 1) (by omega)]
  by_cases h1 : a.getLsbD p = a.getLsbD (p + 1)
  · by_cases h2 : b.getLsbD p = b.getLsbD (p + 1)
    · rw [h1, h2]; simp
    · rw [if_pos h1, if_neg h2]; split <;> omega
  · rw [if_neg h1]; repeat' split
    all_goals omega
theorem bdw_or (g : Nat → Nat) (a b : BitVec 256) : bdw g (a ||| b) ≤ bdw g a + bdw g b := bdw_op (· || ·) (fun i hi => BitVec.getLsbD_or)
theorem bdw_and (g : Nat → Nat) (a b : BitVec 256) : bdw g (a &&& b) ≤ bdw g a + bdw g b := bdw_op (· && ·) (fun i hi => BitVec.getLsbD_and)
theorem bdw_not (g : Nat → Nat) (a : BitVec 256) : bdw g (~~~a) = bdw g a := by
  unfold bdw
  congr 1
  refine List.map_congr_left fun p hp => ?_
  have hp : p < 255 := by simpa using hp
  rw [BitVec.getLsbD_not, BitVec.getLsbD_not]
  have h1 : decide (p < 256) = true := by simp; omega
  have h2 : decide (p + 1 < 256) = true := by simp; omega
  rw [h1, h2]
  cases a.getLsbD p <;> cases a.getLsbD (p + 1) <;> simp
theorem bdw_zero (g : Nat → Nat) : bdw g 0#256 = 0 := by
  have : ((List.range 255).map fun p => if (0#256).getLsbD p = (0#256).getLsbD (p + 1) then 0 else g p) = (List.range 255).map fun _ => 0 := List.map_congr_left fun p hp => by simp
  unfold bdw
  rw [this]
  have : ∀ l : List Nat, (l.map fun _ => 0).sum = 0 := fun l => by induction l with | nil => rfl | cons x l ih => simp [ih]
  exact this _
theorem bdw_all (g : Nat → Nat) : bdw g allB = 0 := by unfold allB; rw [bdw_not, bdw_zero]
/-- The weight of all classes of an expression. -/
def RE.wt (g : Nat → Nat) : RE → Nat
  | .mk _ s ks => bdw g s + (ks.map fun k => k.wt g).sum
def wtL (g : Nat → Nat) (l : List RE) : Nat := (l.map (RE.wt g)).sum
theorem RE.wt_mk (g : Nat → Nat) (o : Nat) (s : BitVec 256) (ks : List RE) : (RE.mk o s ks).wt g = bdw g s + wtL g ks := by rw [RE.wt, wtL]
theorem RE.wt_kids (g : Nat → Nat) (r : RE) : r.wt g = bdw g r.set + wtL g r.kids := by cases r; exact RE.wt_mk _ _ _ _
section
variable (g : Nat → Nat)
theorem wtL_cons (x : RE) (l : List RE) : wtL g (x :: l) = x.wt g + wtL g l := by simp [wtL]
theorem wtL_append (a b : List RE) : wtL g (a ++ b) = wtL g a + wtL g b := by simp [wtL]
theorem wtL_flatMap (f : RE → List RE) (hf : ∀ r, wtL g (f r) ≤ r.wt g) (l : List RE) : wtL g (l.flatMap f) ≤ wtL g l := by
  induction l with
  | nil => simp [wtL]
  | cons x l ih => rw [List.flatMap_cons, wtL_append, wtL_cons]; have := hf x; omega
theorem wtL_catL (l : List RE) : wtL g (catL l) ≤ wtL g l := wtL_flatMap g _ (fun r => by
  have := r.wt_kids g
  unfold catK
  split
  · simp [wtL]
  · split
    · omega
    · rw [wtL_cons]; simp [wtL]) l
theorem wtL_flatL (o : Nat) (l : List RE) : wtL g (flatL o l) ≤ wtL g l := wtL_flatMap g _ (fun r => by
  have := r.wt_kids g
  split
  · omega
  · rw [wtL_cons]; simp [wtL]) l
theorem wtL_insK (x : RE) (l : List RE) : wtL g (insK x l) ≤ x.wt g + wtL g l := by
  induction l with
  | nil => simp [insK, wtL]
  | cons y l ih =>
    simp only [insK]
    split
    · simp only [wtL_cons]; omega
    · split
      · simp only [wtL_cons]; omega
      · simp only [wtL_cons]; omega
theorem wtL_ordL (l : List RE) : wtL g (ordL l) ≤ wtL g l := by
  induction l with
  | nil => simp [ordL]
  | cons x l ih =>
    have := wtL_insK g x (ordL l)
    rw [wtL_cons]
    have e : ordL (x :: l) = insK x (ordL l) := rfl
    rw [e]; omega
theorem wt_join (o : Nat) (l : List RE) : (rJoin o l).wt g ≤ wtL g l := by
  unfold rJoin
  split
  · simp [wtL]
  · rw [RE.wt_mk, bdw_zero]; omega
theorem wt_nothing : rNothing.wt g = 0 := by rw [RE.wt_kids]; show bdw g 0#256 + wtL g [] = 0; rw [bdw_zero]; rfl
theorem wt_empty : rEmpty.wt g = 0 := by rw [RE.wt_kids]; show bdw g 0#256 + wtL g [] = 0; rw [bdw_zero]; rfl
theorem wt_one (s : BitVec 256) : (rOne s).wt g = bdw g s := by
  unfold rOne
  split
  · rename_i h; rw [h, bdw_zero, wt_nothing]
  · rw [RE.wt_mk]; simp [wtL]
theorem wt_then (l : List RE) : (rThen l).wt g ≤ wtL g l := by
  unfold rThen
  split
  · rw [wt_nothing]; omega
  · split
    · rw [wt_empty]; omega
    · have h1 := wt_join g 3 (catL l); have h2 := wtL_catL g l; omega
/-- What is kept of some, and the classes put together. -/
theorem wt_sets (op : BitVec 256 → BitVec 256 → BitVec 256) (hop : ∀ a b, bdw g (op a b) ≤ bdw g a + bdw g b) (l : List RE) (s0 : BitVec 256) :
    wtL g (orKeep l) + bdw g (l.foldl (fun s r => if r.op = 2 then op s r.set else s) s0) ≤ bdw g s0 + wtL g l := by
  induction l generalizing s0 with
  | nil => simp [orKeep, wtL]
  | cons x l ih =>
    rw [List.foldl_cons, wtL_cons]
    have hx := x.wt_kids g
    by_cases h2 : x.op = 2
    · have e : orKeep (x :: l) = orKeep l := by unfold orKeep; rw [List.filter_cons, if_neg (by simp [h2])]
      rw [e, if_pos h2]
      have := ih (op s0 x.set)
      have := hop s0 x.set
      omega
    · rw [if_neg h2]
      have := ih s0
      have e : wtL g (orKeep (x :: l)) ≤ x.wt g + wtL g (orKeep l) := by
        unfold orKeep; rw [List.filter_cons]; split
        · rw [wtL_cons]; omega
        · omega
      omega
theorem wt_any (l : List RE) : (rAny l).wt g ≤ wtL g l := by
  unfold rAny
  simp only
  have h0 := wt_sets g (· ||| ·) (bdw_or g) (flatL 4 l) 0#256
  rw [bdw_zero] at h0
  have h4 := wtL_flatL g 4 l
  have h0 : wtL g (orKeep (flatL 4 l)) + bdw g (orSet (flatL 4 l)) ≤ 0 + wtL g (flatL 4 l) := h0
  generalize hk : (orKeep (flatL 4 l) ++ if orSet (flatL 4 l) = 0#256 then [] else [rOne (orSet (flatL 4 l))]) = ks
  have h5 : wtL g ks ≤ wtL g (orKeep (flatL 4 l)) + bdw g (orSet (flatL 4 l)) := by
    rw [← hk, wtL_append]
    split
    · simp [wtL]
    · rw [wtL_cons, wt_one]; simp [wtL]
  split
  · rw [wt_nothing]; omega
  · have h1 := wt_join g 4 (ordL ks)
    have h2 := wtL_ordL g ks
    omega
theorem wt_many (r : RE) : (rMany r).wt g ≤ r.wt g := by
  unfold rMany
  split
  · rw [wt_empty]; omega
  · split
    · omega
    · rw [RE.wt_mk, bdw_zero]; simp [wtL]
theorem wt_both (l : List RE) : (rBoth l).wt g ≤ wtL g l := by
  unfold rBoth
  simp only
  have h0 := wt_sets g (· &&& ·) (bdw_and g) (flatL 6 l) allB
  rw [bdw_all] at h0
  have h4 := wtL_flatL g 6 l
  have h0 : wtL g (orKeep (flatL 6 l)) + bdw g (andSet (flatL 6 l)) ≤ 0 + wtL g (flatL 6 l) := h0
  split
  · rw [wt_nothing]; omega
  · split
    · rw [wt_nothing]; omega
    · generalize hk : (orKeep (flatL 6 l) ++ if met (flatL 6 l) = true then [rOne (andSet (flatL 6 l))] else []) = ks
      have h5 : wtL g ks ≤ wtL g (orKeep (flatL 6 l)) + bdw g (andSet (flatL 6 l)) := by
        rw [← hk, wtL_append]
        split
        · rw [wtL_cons, wt_one]; simp [wtL]
        · simp [wtL]
      split
      · have := wt_many g (rOne allB); rw [wt_one, bdw_all] at this; omega
      · have h1 := wt_join g 6 (ordL ks)
        have h2 := wtL_ordL g ks
        omega
theorem wt_but (a b : RE) : (rBut a b).wt g ≤ a.wt g + b.wt g := by
  have ha := a.wt_kids g
  have hb := b.wt_kids g
  unfold rBut
  split
  · omega
  · split
    · rw [wt_one]
      have h1 := bdw_and g a.set (~~~b.set)
      rw [bdw_not] at h1
      omega
    · split
      · rw [wt_nothing]; omega
      · rw [RE.wt_mk, bdw_zero]; simp [wtL]
end
end Go.Proofs.YtjlgepahgmkamaaGreatDoor
/- How long the text of an expression is, and of what a shape makes. -/
namespace Go.Proofs.YtjlgepahgmkamaaGreatDoor
set_option maxRecDepth 100000
set_option linter.unusedSimpArgs false
set_option linter.unusedVariables false
open Go.RowKit Go.Shelf St

theorem sum_at (g : Nat → Nat) (x : Nat) (n : Nat) : ((List.range n).map fun p => if p = x then g p else 0).sum ≤ g x := by
  have key : ∀ n, n ≤ x → ((List.range n).map fun p => if p = x then g p else 0).sum = 0 := fun n => by
    induction n with
    | zero => intro _; rfl
    | succ n ih =>
      intro h
      rw [List.range_succ, List.map_append, List.sum_append, ih (by omega)]
      simp; omega
  induction n with
  | zero => exact Nat.zero_le _
  | succ n ih =>
    rw [List.range_succ, List.map_append, List.sum_append]
    by_cases h : n = x
    · subst h
      rw [key n (Nat.le_refl _)]; simp
    · simp [h]; exact ih
theorem spanG_has (a b i : Nat) (hi : i < 256) : (span a b).getLsbD i = decide (a ≤ i ∧ i < b) := by
  unfold span
  rw [setOf_has _ _ hi]
  simp only [List.mem_range'_1]
  congr 1
  apply propext
  constructor
  · intro h; omega
  · intro h; omega
theorem bdw_span (g : Nat → Nat) (a b : Nat) : bdw g (span a (b + 1)) ≤ g (a - 1) + g b := by
  have h1 := sum_at g (a - 1) 255
  have h2 := sum_at g b 255
  refine Nat.le_trans ?_ (Nat.add_le_add h1 h2)
  unfold bdw
  rw [← sum_add]
  refine sum_le fun p hp => ?_
  have hp : p < 255 := by simpa using hp
  rw [spanG_has a (b + 1) p (by omega), spanG_has a (b + 1) (p + 1) (by omega)]
  split
  · omega
  · rename_i h
    by_cases e1 : p = a - 1
    · rw [if_pos e1]; omega
    · by_cases e2 : p = b
      · rw [if_pos e2, if_neg e1]; omega
      · exfalso
        apply h
        congr 1
        apply propext
        constructor <;> intro _ <;> omega
theorem bdw_setOf1 (g : Nat → Nat) (a : Nat) : bdw g (setOf [a]) ≤ g (a - 1) + g a := by
  have := bdw_span g a a
  rw [← span_1, BitVec.zero_or]; exact this
/-- How many runs there are. -/
def run1 (s : BitVec 256) (k : Nat) : Nat := ((List.range k).map fun p => if s.getLsbD p = s.getLsbD (p + 1) then 0 else 1).sum
theorem run1_succ (s : BitVec 256) (k : Nat) : run1 s (k + 1) = run1 s k + if s.getLsbD k = s.getLsbD (k + 1) then 0 else 1 := by
  unfold run1; rw [List.range_succ, List.map_append, List.sum_append]; simp
def preG (s : BitVec 256) (k : Nat) : List Nat := (List.range k).filter fun b => s.getLsbD b
theorem preB_succ (s : BitVec 256) (k : Nat) : preG s (k + 1) = preG s k ++ if s.getLsbD k then [k] else [] := by
  unfold preG; rw [List.range_succ, List.filter_append]
  congr 1
  by_cases h : s.getLsbD k <;> simp [h]
theorem runsG_le (s : BitVec 256) (k : Nat) : ((runSt (preG s (k + 1))).1 ++ (runSt (preG s (k + 1))).2.toList).length ≤ 1 + run1 s k := by
  induction k with
  | zero =>
    rw [preB_succ, show preG s 0 = [] from rfl]
    split
    · simp [runSt, runStep]
    · simp [runSt]
  | succ k ih =>
    rw [preB_succ, run1_succ]
    by_cases h : s.getLsbD (k + 1)
    · rw [if_pos h, runSt_snoc]
      have hl : ∀ f l, (runSt (preG s (k + 1))).2 = some (f, l) → s.getLsbD k = true → l = k := by
        intro f l h1 h2
        obtain ⟨q, hq⟩ := runSt_last _ f l h1
        rw [preB_succ, if_pos h2] at hq
        have := congrArg List.getLast? hq
        simp at this
        omega
      have he : runSt (preG s (k + 1)) = runSt (preG s (k + 1)) := rfl
      generalize hst : runSt (preG s (k + 1)) = st at *
      obtain ⟨em, cur⟩ := st
      cases cur with
      | none =>
        have := runSt_none (preG s (k + 1)) (by rw [hst])
        rw [this] at hst
        simp [runSt] at hst
        subst hst
        simp [runStep]
      | some r =>
        obtain ⟨f, l⟩ := r
        simp only [runStep]
        split
        · simp at ih ⊢; omega
        · rename_i hb
          have hk : ¬ s.getLsbD k = s.getLsbD (k + 1) := by
            rw [h]
            intro e
            have := hl f l rfl e
            omega
          rw [if_neg hk]
          simp at ih ⊢; omega
    · rw [if_neg h, List.append_nil]
      omega
theorem runsOf_len (s : BitVec 256) : (runsOf s).length ≤ 1 + bdw (fun _ => 1) s := by
  have h := runsG_le s 255
  have e : preG s (255 + 1) = bytesOf s := (bytesOf_filter s).symm
  rw [e] at h
  exact h
theorem runsWG_len (l : List (Nat × Nat)) : (runsW l).length ≤ 9 * l.length := by
  induction l with
  | nil => simp [runsW]
  | cons x l ih =>
    have := runW_len x
    rw [show runsW (x :: l) = runW x ++ runsW l from rfl, List.length_append, List.length_cons]; omega
theorem classW_len (s : BitVec 256) : (classW s).length ≤ 12 + 9 * bdw (fun _ => 1) s := by
  have h1 := runsWG_len (runsOf s)
  have h2 := runsOf_len s
  have h3 := runsWG_len (runsOf (~~~s))
  have h4 := runsOf_len (~~~s)
  rw [bdw_not] at h4
  unfold classW
  repeat' split
  all_goals simp; try omega
theorem grpT_len (k h : Nat) (t : List Nat) : (grpT k h t).length ≤ t.length + 2 := by
  unfold grpT; split <;> simp
theorem sepB_len (o : Nat) : (sepB o).length ≤ 1 := by unfold sepB; repeat' split
                                                       all_goals simp
theorem kidsT_len (o : Nat) (ks : List RE) (h : ∀ k ∈ ks, k.txt.length ≤ 16 * k.cnt + 9 * k.wt (fun _ => 1)) (hc : ∀ k ∈ ks, k.txt.length + 3 ≤ 16 * k.cnt + 9 * k.wt (fun _ => 1)) (i : Nat) : (kidsT o i (kidL ks)).length ≤ 16 * cntL ks + 9 * wtL (fun _ => 1) ks := by
  induction ks generalizing i with
  | nil => exact Nat.zero_le _
  | cons k ks ih =>
    have h1 := hc k (by simp)
    have h2 := ih (fun x hx => h x (by simp [hx])) (fun x hx => hc x (by simp [hx])) (i + 1)
    have h3 := grpT_len (needN o i) (holdN k.op) k.txt
    have h4 := sepB_len o
    have h5 : (if 0 < i then sepB o else []).length ≤ 1 := by
      split
      · exact h4
      · simp
    rw [kidsT_cons, cntL_cons, wtL_cons, List.length_append, List.length_append]
    omega
theorem txt_len (r : RE) : r.txt.length + 3 ≤ 16 * r.cnt + 9 * r.wt (fun _ => 1) := by
  refine RE.ind (P := fun r => r.txt.length + 3 ≤ 16 * r.cnt + 9 * r.wt (fun _ => 1)) ?_ r
  intro o s ks ih
  have h := kidsT_len o ks (fun k hk => by have := ih k hk; omega) ih 0
  have h2 := classW_len s
  rw [RE.txt_mk, RE.cnt_mk, RE.wt_mk]
  unfold opT
  repeat' split
  all_goals simp; try omega
theorem wt_word (t : List Nat) : (rWord t).wt (fun _ => 1) ≤ 2 * t.length := by
  have h := wt_then (fun _ => 1) (t.map rLetter)
  have key : ∀ t : List Nat, wtL (fun _ => 1) (t.map rLetter) ≤ 2 * t.length := fun t => by
    induction t with
    | nil => simp [wtL]
    | cons x t ih =>
      have h1 : (rLetter x).wt (fun _ => 1) ≤ 2 := by
        show (rOne _).wt _ ≤ 2
        rw [wt_one]
        exact bdw_setOf1 (fun _ => 1) x
      rw [List.map_cons, wtL_cons, List.length_cons]; omega
  have := key t
  unfold rWord; omega
theorem wt_mkAt (k a b : Nat) (t : List Nat) (ks : List RE) (ht : t.length ≤ 20) : (mkAt k a b t ks).wt (fun _ => 1) ≤ 40 + wtL (fun _ => 1) ks := by
  have hg : ∀ i, (ks.getD i rNothing).wt (fun _ => 1) ≤ wtL (fun _ => 1) ks := fun i => by
    by_cases hi : i < ks.length
    · rw [show ks.getD i rNothing = ks[i] from by simp [List.getD_eq_getElem?_getD, hi]]
      have : wtL (fun _ => 1) ks = wtL (fun _ => 1) (ks.take i) + wtL (fun _ => 1) (ks.drop i) := by rw [← wtL_append, List.take_append_drop]
      rw [← List.getElem_cons_drop hi, wtL_cons] at this
      omega
    · rw [show ks.getD i rNothing = rNothing from by simp [List.getD_eq_getElem?_getD, hi], wt_nothing]; omega
  have h01 : (ks.getD 0 rNothing).wt (fun _ => 1) + (ks.getD 1 rNothing).wt (fun _ => 1) ≤ wtL (fun _ => 1) ks := by
    match ks with
    | [] => simp [wt_nothing, wtL]
    | [x] => simp [wt_nothing, wtL]
    | x :: y :: r => simp [wtL] <;> omega
  have g0 := hg 0
  have q1 := wt_then (fun _ => 1) ks; have q2 := wt_any (fun _ => 1) ks; have q3 := wt_both (fun _ => 1) ks; have q4 := wt_many (fun _ => 1) (ks.getD 0 rNothing); have q5 := wt_but (fun _ => 1) (ks.getD 0 rNothing) (ks.getD 1 rNothing); have q6 := wt_word t
  have q7 := bdw_span (fun _ => 1) a b
  unfold mkAt
  repeat' split
  · rw [wt_nothing]; omega
  · rw [wt_empty]; omega
  · rw [wt_one]; omega
  all_goals omega
theorem SHP.wt (s : SHP) : Tx s → s.re.wt (fun _ => 1) ≤ 40 * s.nodes := by
  refine SHP.ind (P := fun s => Tx s → s.re.wt (fun _ => 1) ≤ 40 * s.nodes) ?_ s
  intro o l u t ks ih h
  cases h with
  | mk _ _ _ _ _ ht hk =>
    rw [SHP.re_mk, SHP.nodes_mk]
    have h1 := wt_mkAt (SHP.mk o l u t ks).k (97 + l % 4) (97 + u % 4) (bytesN t) (ks.map SHP.re) (by simpa [bytesN] using ht)
    have h2 : wtL (fun _ => 1) (ks.map SHP.re) ≤ 40 * (ks.map SHP.nodes).sum := by
      clear h1
      induction ks with
      | nil => simp [wtL]
      | cons x ks ihk =>
        have e1 := ih x (by simp) (hk x (by simp))
        have e2 := ihk (fun k hk' => ih k (by simp [hk'])) (fun k hk' => hk k (by simp [hk']))
        rw [List.map_cons, wtL_cons, List.map_cons, List.sum_cons]
        omega
    omega
theorem ht_mkAt (h k a b : Nat) (t : List Nat) (ks : List RE) (h0 : 0 < h) (hk : ∀ x ∈ ks, Ht h x) : Ht (h + 1) (mkAt k a b t ks) := by
  have hg : ∀ i, Ht h (ks.getD i rNothing) := fun i => by
    by_cases hi : i < ks.length
    · rw [show ks.getD i rNothing = ks[i] from by simp [List.getD_eq_getElem?_getD, hi]]
      exact hk _ (List.getElem_mem hi)
    · rw [show ks.getD i rNothing = rNothing from by simp [List.getD_eq_getElem?_getD, hi]]
      obtain ⟨g, rfl⟩ : ∃ g, h = g + 1 := ⟨h - 1, by omega⟩
      exact ht_nothing
  unfold mkAt
  repeat' split
  · exact ht_nothing
  · exact ht_empty
  · exact ht_one _
  · exact ht_then hk h0
  · exact ht_any hk h0
  · exact ht_many (hg 0)
  · exact ht_both hk h0
  · exact ht_but (hg 0) (hg 1)
  · exact (ht_word t).le (by omega)
theorem nodesG_pos (s : SHP) : 1 ≤ s.nodes := by cases s; rw [SHP.nodes_mk]; omega
theorem nodesG_kid {k : SHP} {ks : List SHP} (h : k ∈ ks) : k.nodes ≤ (ks.map SHP.nodes).sum := by
  induction ks with
  | nil => cases h
  | cons x ks ih =>
    rw [List.map_cons, List.sum_cons]
    rcases List.mem_cons.1 h with rfl | h
    · omega
    · have := ih h; omega
theorem SHP.ht (s : SHP) : Ht (s.nodes + 1) s.re := by
  refine SHP.ind (P := fun s => Ht (s.nodes + 1) s.re) ?_ s
  intro o l u t ks ih
  rw [SHP.re_mk]
  have hp := nodesG_pos (SHP.mk o l u t ks)
  refine ht_mkAt _ _ _ _ _ _ hp fun x hx => ?_
  obtain ⟨k, hk, rfl⟩ := List.mem_map.1 hx
  refine (ih k hk).le ?_
  rw [SHP.nodes_mk]
  have := nodesG_kid hk
  omega
/-- What a shape makes is read as it is written. -/
theorem SHP.again (s : SHP) (ht : Tx s) (hn : s.nodes ≤ 30) (hz : s.re.cnt ≤ 300) : s.re.txt.length ≤ 65536 ∧ readQ s.re.txt = (s.re, ⟨[], 0, s.re.cost, 0, 0⟩) ∧ (rdEnd s.re.txt).err = 0 := by
  have h1 := txt_len s.re
  have h2 := s.wt ht
  have h3 := s.ht.pd
  have hl : s.re.txt.length ≤ 65536 := by omega
  exact ⟨hl, read_txt s.wf (by omega) (by omega) hl⟩
/-- Texts are of bytes. -/
theorem grpT_lt {k h : Nat} {t : List Nat} (ht : ∀ x ∈ t, x < 256) : ∀ x ∈ grpT k h t, x < 256 := by
  unfold grpT
  split
  · intro x hx
    simp at hx
    rcases hx with rfl | hx | rfl
    · decide
    · exact ht x hx
    · decide
  · exact ht
theorem kidsT_lt {o : Nat} {ks : List RE} (h : ∀ k ∈ ks, ∀ x ∈ k.txt, x < 256) (i : Nat) : ∀ x ∈ kidsT o i (kidL ks), x < 256 := by
  induction ks generalizing i with
  | nil => intro x hx; cases hx
  | cons k ks ih =>
    intro x hx
    rw [kidsT_cons] at hx
    rcases List.mem_append.1 hx with hx | hx
    · have : ∀ y ∈ sepB o, y < 256 := by
        unfold sepB
        repeat' split
        all_goals simp
      split at hx
      · exact this x hx
      · cases hx
    · rcases List.mem_append.1 hx with hx | hx
      · exact grpT_lt (h k (by simp)) x hx
      · exact ih (fun y hy => h y (by simp [hy])) (i + 1) x hx
theorem bW_lt : ∀ c < 256, ∀ x ∈ byteW c, x < 256 := by decide +kernel
theorem runsW_lt (l : List (Nat × Nat)) (hl : ∀ x ∈ l, x.1 ≤ x.2 ∧ x.2 < 256) : ∀ x ∈ runsW l, x < 256 := by
  intro x hx
  unfold runsW at hx
  obtain ⟨y, hy, hx⟩ := List.mem_flatMap.1 hx
  have := hl y hy
  unfold runW at hx
  rcases List.mem_append.1 hx with hx | hx
  · exact bW_lt _ (by omega) x hx
  · split at hx
    · rcases List.mem_cons.1 hx with rfl | hx
      · decide
      · exact bW_lt _ (by omega) x hx
    · cases hx
theorem classW_lt (s : BitVec 256) : ∀ x ∈ classW s, x < 256 := by
  have h1 := runsW_lt (runsOf s) (runsOf_ok s).1
  have h2 := runsW_lt (runsOf (~~~s)) (runsOf_ok _).1
  unfold classW
  repeat' split
  · exact h1
  · simp
  · intro x hx
    simp at hx
    rcases hx with rfl | rfl | hx | rfl
    · decide
    · decide
    · exact h2 x hx
    · decide
  · intro x hx
    simp at hx
    rcases hx with rfl | hx | rfl
    · decide
    · exact h1 x hx
    · decide
theorem txt_lt (r : RE) : ∀ x ∈ r.txt, x < 256 := by
  refine RE.ind (P := fun r => ∀ x ∈ r.txt, x < 256) ?_ r
  intro o s ks ih
  have h1 := kidsT_lt (o := o) ih 0
  have h2 := classW_lt s
  rw [RE.txt_mk]
  unfold opT
  repeat' split
  · simp
  · exact h2
  · exact h1
  · intro x hx
    rcases List.mem_append.1 hx with hx | hx
    · exact h1 x hx
    · simp at hx; omega
  · simp
end Go.Proofs.YtjlgepahgmkamaaGreatDoor
