/- Texts of this claim put together: Flow, FlowR. -/
import Derived.OrdersHeld
import Derived.WalkKit
import Derived.Test.YtdbdjjjmomociaaGreatDoorJoinReO
/- A region that draws its order, operation by operation: what each must yield, whatever came up ahead of it. -/
namespace Go.Proofs.YtdbdjjjmomociaaGreatDoor
set_option maxRecDepth 100000
open Go.RowKit
set_option linter.unusedSimpArgs false

/-- What was yielded, laid in the text's order. -/
def lay : List Oper → List (Option Value) → Act → Act
  | o :: os, x :: xs, a => lay os xs (match x with | some v => a.put o.dst v | none => a)
  | _, _, a => a

def dstsB : List Oper → Bool
  | [] => true
  | o :: os => (os.all fun o' => match o.dst, o'.dst with | some t, some t' => t != t' | _, _ => true) && dstsB os
def backB : List Oper → Nat → Bool
  | [], _ => true
  | o :: os, k => (o.after.toList.all fun e => Nat.blt e.on k) && backB os (k + 1)

theorem dstsB_cons {o : Oper} {os : List Oper} (h : dstsB (o :: os) = true) : (∀ o' ∈ os, ∀ t, o.dst = some t → o'.dst ≠ some t) ∧ dstsB os = true := by
  simp only [dstsB, Bool.and_eq_true, List.all_eq_true] at h
  refine ⟨fun o' ho' t ht e => ?_, h.2⟩
  have := h.1 o' ho'
  rw [ht, e] at this
  simp at this
theorem lay_put {d : Option Tmp} {v : Value} : ∀ (os : List Oper) (xs : List (Option Value)) (a : Act), (∀ o' ∈ os, ∀ t, d = some t → o'.dst ≠ some t) → lay os xs (a.put d v) = (lay os xs a).put d v
  | [], xs, a, _ => by cases xs <;> rfl
  | o :: os, [], a, _ => rfl
  | o :: os, none :: xs, a, h => lay_put os xs a fun o' ho' => h o' (List.mem_cons_of_mem _ ho')
  | o :: os, some u :: xs, a, h => by
    show lay os xs ((a.put d v).put o.dst u) = _
    rw [Act.put_comm a v u (h o List.mem_cons_self)]
    exact lay_put os xs _ fun o' ho' => h o' (List.mem_cons_of_mem _ ho')
theorem lay_set {v : Value} {o : Oper} : ∀ (os : List Oper) (L : List (Option Value)) (a : Act) (i : Nat), dstsB os = true → L[i]? = some none → os[i]? = some o → lay os (L.set i (some v)) a = (lay os L a).put o.dst v
  | [], _, _, i, _, _, ho => by simp at ho
  | _ :: _, [], _, i, _, hL, _ => by simp at hL
  | o' :: os, x :: xs, a, 0, hd, hL, ho => by
    have e1 : x = none := by simpa using hL
    have e2 : o' = o := by simpa using ho
    subst e1 e2
    exact lay_put os xs a (dstsB_cons hd).1
  | o' :: os, x :: xs, a, i + 1, hd, hL, ho => by
    rw [List.set_cons_succ]
    exact lay_set os xs _ i (dstsB_cons hd).2 (by simpa using hL) (by simpa using ho)
theorem put_size (a : Act) (d : Option Tmp) (v : Value) : (a.put d v).tmps.size = a.tmps.size := by
  cases d <;> simp [Act.put]
theorem lay_size : ∀ (os : List Oper) (L : List (Option Value)) (a : Act), (lay os L a).tmps.size = a.tmps.size
  | [], L, a => by cases L <;> rfl
  | _ :: _, [], _ => rfl
  | o :: os, none :: xs, a => lay_size os xs a
  | o :: os, some u :: xs, a => (lay_size os xs _).trans (put_size _ _ _)
theorem lay_other {t : Nat} : ∀ (os : List Oper) (L : List (Option Value)) (a : Act), (∀ o ∈ os, o.dst ≠ some t) → (lay os L a).tmps[t]? = a.tmps[t]?
  | [], L, a, _ => by cases L <;> rfl
  | _ :: _, [], _, _ => rfl
  | o :: os, none :: xs, a, h => lay_other os xs a fun o' ho' => h o' (List.mem_cons_of_mem _ ho')
  | o :: os, some u :: xs, a, h => by
    refine (lay_other os xs _ fun o' ho' => h o' (List.mem_cons_of_mem _ ho')).trans ?_
    have h0 := h o List.mem_cons_self
    cases hd : o.dst with
    | none => rfl
    | some d =>
      have : d ≠ t := fun e => h0 (by rw [hd, e])
      simp [Act.put, Array.getElem?_setIfInBounds, this]
theorem lay_get {t : Nat} {v : Value} {o : Oper} : ∀ (os : List Oper) (L : List (Option Value)) (a : Act) (i : Nat), dstsB os = true → L[i]? = some (some v) → os[i]? = some o → o.dst = some t → t < a.tmps.size → (lay os L a).tmps[t]? = some v
  | [], _, _, i, _, _, ho, _, _ => by simp at ho
  | _ :: _, [], _, i, _, hL, _, _, _ => by simp at hL
  | o' :: os, x :: xs, a, 0, hd, hL, ho, ht, hs => by
    have e1 : x = some v := by simpa using hL
    have e2 : o' = o := by simpa using ho
    subst e1 e2
    refine (lay_other os xs _ fun o'' ho'' => (dstsB_cons hd).1 o'' ho'' t ht).trans ?_
    simp [Act.put, ht, Array.getElem?_setIfInBounds, hs]
  | o' :: os, none :: xs, a, i + 1, hd, hL, ho, ht, hs => lay_get os xs a i (dstsB_cons hd).2 (by simpa using hL) (by simpa using ho) ht hs
  | o' :: os, some u :: xs, a, i + 1, hd, hL, ho, ht, hs => lay_get os xs _ i (dstsB_cons hd).2 (by simpa using hL) (by simpa using ho) ht (by rw [put_size]; exact hs)

def depsOf (o : Oper) : List Nat := (o.after.toList.filter fun e => Region.binds .any e).map (·.on)
def noDst (ops : List Oper) (t : Nat) : Bool := ops.all fun o => match o.dst with | some d => d != t | none => true

/-- No operation that may come up ahead of i writes slot t. -/
def noDstI (ops : List Oper) (i t : Nat) : Bool := ops.all fun o => (match o.dst with | some d => d != t | none => true) || (depsOf o).contains i
theorem lay_un {t : Nat} : ∀ (os : List Oper) (L : List (Option Value)) (a : Act), (∀ (j : Nat) (o : Oper) (v : Value), os[j]? = some o → L[j]? = some (some v) → o.dst ≠ some t) → (lay os L a).tmps[t]? = a.tmps[t]?
  | [], L, a, _ => by cases L <;> rfl
  | _ :: _, [], _, _ => rfl
  | o :: os, none :: xs, a, h => lay_un os xs a fun j o' v h1 h2 => h (j + 1) o' v (by simpa using h1) (by simpa using h2)
  | o :: os, some u :: xs, a, h => by
    refine (lay_un os xs _ fun j o' v h1 h2 => h (j + 1) o' v (by simpa using h1) (by simpa using h2)).trans ?_
    have h0 := h 0 o u rfl rfl
    cases hd : o.dst with
    | none => rfl
    | some d =>
      have : d ≠ t := fun e => h0 (by rw [hd, e])
      simp [Act.put, Array.getElem?_setIfInBounds, this]

/-- What no other operation than i uses up (an append its row). -/
def useB (eat : List (Nat × Nat)) (i j : Nat) : Bool := eat.all fun p => !(Nat.beq p.2 j) || Nat.beq p.1 i
/-- Operation i may come up where j has, and is still of use. -/
def liveB (ops : List Oper) (eat : List (Nat × Nat)) (i j : Nat) : Bool :=
  !(Nat.beq i j) && !eat.contains (i, j) && (match ops[i]? with | some o => (depsOf o).all fun k => !eat.contains (k, j) | none => true) && (match ops[j]? with | some o => !(depsOf o).contains i | none => false)

/-- One operation: what it yields (R), where all that it waits for has come up. -/
def FStep (P : Program) (ops : List Oper) (eat : List (Nat × Nat)) (S : World → Prop) (G : Nat → World → World → Prop) (R : Nat → Value → World → Prop) (a0 : Act) (Q : Exit → Act → World → Prop) (i : Nat) (o : Oper) : Prop :=
  ∀ a w, S w → a.tmps.size = a0.tmps.size → (∀ t, noDstI ops i t = true → a.tmps[t]? = a0.tmps[t]?) → (∀ j, (depsOf o).contains j = true → useB eat i j = true → ∃ v, R j v w ∧ ∀ o' t, ops[j]? = some o' → o'.dst = some t → a.tmps[t]? = some v) →
    (Region.wanted o (yielded ops.toArray a.tmps) = true ∧ o.wp P a w (fun a' w' => ∃ v, a' = a.put o.dst v ∧ R i v w' ∧ S w' ∧ G i w w') Q) ∨ (Region.wanted o (yielded ops.toArray a.tmps) = false ∧ R i undef w)
def FSteps (P : Program) (ops : List Oper) (eat : List (Nat × Nat)) (S : World → Prop) (G : Nat → World → World → Prop) (R : Nat → Value → World → Prop) (a0 : Act) (Q : Exit → Act → World → Prop) : List Oper → Nat → Prop
  | [], _ => True
  | o :: os, k => FStep P ops eat S G R a0 Q k o ∧ FSteps P ops eat S G R a0 Q os (k + 1)

section
variable {P : Program} {ops : List Oper} {S : World → Prop} {G : Nat → World → World → Prop} {eat : List (Nat × Nat)} {R : Nat → Value → World → Prop} {a0 : Act} {Q : Exit → Act → World → Prop}
theorem FSteps.get : ∀ (os : List Oper) (k : Nat), FSteps P ops eat S G R a0 Q os k → ∀ i o, os[i]? = some o → FStep P ops eat S G R a0 Q (k + i) o
  | [], _, _, i, o, h => by simp at h
  | o' :: os, k, hs, 0, o, h => by
    have : o' = o := by simpa using h
    exact this ▸ hs.1
  | o' :: os, k, hs, i + 1, o, h => by
    have := FSteps.get os (k + 1) hs.2 i o (by simpa using h)
    rwa [Nat.add_assoc, Nat.add_comm 1 i] at this
theorem backB_get : ∀ (os : List Oper) (k : Nat), backB os k = true → ∀ i o, os[i]? = some o → ∀ e ∈ o.after, e.on < k + i
  | [], _, _, i, o, h => by simp at h
  | o' :: os, k, hs, 0, o, h => fun e he => by
    have e1 : o' = o := by simpa using h
    subst e1
    simp only [backB, Bool.and_eq_true] at hs
    have h1 : Nat.blt e.on k = true := by
      exact (List.all_eq_true.1 hs.1) e (Array.mem_toList_iff.2 he)
    simpa [Nat.blt_eq] using h1
  | o' :: os, k, hs, i + 1, o, h => fun e he => by
    simp only [backB, Bool.and_eq_true] at hs
    have := backB_get os (k + 1) hs.2 i o (by simpa using h) e he
    omega
theorem mem_ready {listed : Array Bool} {i : Nat} : i ∈ Region.ready .any ops.toArray listed ↔ i < ops.length ∧ listed.getD i true = false ∧ ∃ o, ops[i]? = some o ∧ ∀ e ∈ o.after, Region.binds .any e = true → listed.getD e.on false = true := by
  unfold Region.ready
  rw [List.mem_filter, List.mem_range]
  refine and_congr (by simp) ?_
  rw [Bool.and_eq_true, Bool.not_eq_true']
  refine and_congr Iff.rfl ?_
  rw [List.getElem?_toArray]
  cases ho : ops[i]? with
  | none => simp
  | some o =>
    simp only [Option.map_some, Option.getD_some, Option.some.injEq, exists_eq_left']
    constructor
    · intro h e he hb
      obtain ⟨j, hj, rfl⟩ := Array.mem_iff_getElem.1 he
      have := (Array.all_eq_true.1 h) j hj
      simpa [hb] using this
    · intro h
      refine Array.all_eq_true.2 fun j hj => ?_
      cases hb : Region.binds .any o.after[j] with
      | false => rfl
      | true => simp [h _ (Array.getElem_mem hj) hb]

theorem flow_go (hd : dstsB ops = true) (hk : backB ops 0 = true) (hsz : ∀ o ∈ ops, ∀ t, o.dst = some t → t < a0.tmps.size) (hG : ∀ i j v w w', liveB ops eat i j = true → G i w w' → R j v w → R j v w') (hs : FSteps P ops eat S G R a0 Q ops 0)
    (hfin : ∀ (vs : List Value) w, vs.length = ops.length → S w → (∀ j v, vs[j]? = some v → (∀ i, i < ops.length → eat.contains (i, j) = false) → R j v w) → Q .normal (lay ops (vs.map some) a0) w) :
    ∀ (fuel : Nat) (L : List (Option Value)) (w : World), L.length = ops.length → (L.filter Option.isNone).length ≤ fuel → S w → (∀ j v, L[j]? = some (some v) → (∀ i u, L[i]? = some (some u) → eat.contains (i, j) = false) → R j v w) → (∀ (j : Nat) v o, L[j]? = some (some v) → ops[j]? = some o → ∀ k : Nat, (depsOf o).contains k = true → ∃ u, L[k]? = some (some u)) → wpAnyH P .any ops.toArray Q S fuel (L.map Option.isSome).toArray (lay ops L a0) w := by
  have hlist : ∀ (L : List (Option Value)) i, (L.map Option.isSome).toArray.getD i true = false → i < L.length → L[i]? = some none := fun L i h hi => by
    have : (L.map Option.isSome).toArray.getD i true = L[i].isSome := by simp [Array.getD, hi]
    rw [this] at h
    rw [List.getElem?_eq_getElem hi]
    cases hx : L[i] with
    | none => rfl
    | some v => rw [hx] at h; cases h
  have hlist2 : ∀ (L : List (Option Value)) i, (L.map Option.isSome).toArray.getD i false = true → ∃ v, L[i]? = some (some v) := fun L i h => by
    by_cases hi : i < L.length
    · have : (L.map Option.isSome).toArray.getD i false = L[i].isSome := by simp [Array.getD, hi]
      rw [this] at h
      rw [List.getElem?_eq_getElem hi]
      cases hx : L[i] with
      | none => rw [hx] at h; cases h
      | some v => exact ⟨v, rfl⟩
    · have : (L.map Option.isSome).toArray.getD i false = false := by simp [Array.getD, hi]
      rw [this] at h; cases h
  have hall : ∀ (L : List (Option Value)), L.length = ops.length → Region.ready .any ops.toArray (L.map Option.isSome).toArray = [] → ∃ vs : List Value, L = vs.map some := by
    intro L hL hr
    have h1 : ∀ i, i < L.length → ∃ v, L[i]? = some (some v) := by
      intro i
      induction i using Nat.strongRecOn with
      | ind i ih =>
        intro hi
        cases hx : L[i]? with
        | none => rw [List.getElem?_eq_none_iff] at hx; omega
        | some x =>
          cases x with
          | some v => exact ⟨v, rfl⟩
          | none =>
            have hm : i ∈ Region.ready .any ops.toArray (L.map Option.isSome).toArray := by
              refine mem_ready.2 ⟨by omega, ?_, ops[i]'(by omega), List.getElem?_eq_getElem _, fun e he _ => ?_⟩
              · have : L[i] = none := by rw [List.getElem?_eq_getElem hi] at hx; simpa using hx
                simp [Array.getD, hi, this]
              · have hlt := backB_get ops 0 hk i _ (List.getElem?_eq_getElem (by omega)) e he
                obtain ⟨v, hv⟩ := ih e.on (by omega) (by omega)
                have he' : e.on < L.length := by omega
                rw [List.getElem?_eq_getElem he'] at hv
                have : L[e.on] = some v := by simpa using hv
                simp [Array.getD, he', this]
            rw [hr] at hm; cases hm
    refine ⟨L.map (·.getD undef), ?_⟩
    apply List.ext_getElem?
    intro i
    by_cases hi : i < L.length
    · obtain ⟨v, hv⟩ := h1 i hi
      simp [hv]
    · simp [List.getElem?_eq_none (Nat.le_of_not_lt hi)]
  have hdone : ∀ (L : List (Option Value)) w, L.length = ops.length → S w → (∀ j v, L[j]? = some (some v) → (∀ i u, L[i]? = some (some u) → eat.contains (i, j) = false) → R j v w) → Region.ready .any ops.toArray (L.map Option.isSome).toArray = [] → Q .normal (lay ops L a0) w := by
    intro L w hL hS hR hr
    obtain ⟨vs, rfl⟩ := hall L hL hr
    exact hfin vs w (by simpa using hL) hS fun j v hv he => hR j v (by simp [hv]) fun i u hu => he i (by
      have := (List.getElem?_eq_some_iff.1 hu).1
      rw [List.length_map] at this
      have h2 : vs.length = ops.length := by simpa using hL
      omega)
  intro fuel
  induction fuel with
  | zero =>
    intro L w hL hf hS hR _
    have hr : Region.ready .any ops.toArray (L.map Option.isSome).toArray = [] := by
      refine List.eq_nil_iff_forall_not_mem.2 fun i hi => ?_
      obtain ⟨h1, h2, -⟩ := mem_ready.1 hi
      have hx := hlist L i h2 (by omega)
      have hmem : (none : Option Value) ∈ L.filter Option.isNone := List.mem_filter.2 ⟨List.mem_of_getElem? hx, rfl⟩
      have := List.length_pos_of_mem hmem
      omega
    exact ⟨hr, hdone L w hL hS hR hr⟩
  | succ fuel ih =>
    intro L w hL hf hS hR hC
    refine ⟨hdone L w hL hS hR, fun i hi => ?_⟩
    obtain ⟨h1, h2, o, ho, h3⟩ := mem_ready.1 hi
    have hx := hlist L i h2 (by omega)
    have hdep : ∀ j, (depsOf o).contains j = true → ∃ v, L[j]? = some (some v) := fun j hj => by
      obtain ⟨e, he, rfl⟩ := List.mem_map.1 (List.contains_iff_mem.1 hj)
      obtain ⟨he1, he2⟩ := List.mem_filter.1 he
      exact hlist2 L e.on (h3 e (by simpa using he1) he2)
    have hstep := FSteps.get ops 0 hs i o ho (lay ops L a0) w hS (lay_size _ _ _) (fun t ht => lay_un ops L a0 fun j' o' v' hj' hv' e => by
        rw [Nat.zero_add] at ht
        have := (List.all_eq_true.1 ht) o' (List.mem_of_getElem? hj')
        rw [e] at this
        simp only [bne_self_eq_false, Bool.false_or] at this
        obtain ⟨x, hx3⟩ := hC j' v' o' hv' hj' i this
        rw [hx] at hx3; cases hx3) (fun j hj huse => by
        obtain ⟨v, hv⟩ := hdep j hj
        refine ⟨v, hR _ _ hv (fun i' u hu => ?_), fun o' t ho' ht => lay_get ops L a0 _ hd hv ho' ht (hsz o' (List.mem_of_getElem? ho') t ht)⟩
        refine Bool.eq_false_iff.2 fun hc => ?_
        have h4 := (List.all_eq_true.1 huse) _ (List.contains_iff_mem.1 hc)
        have h5 : Nat.beq j j = true := Nat.beq_refl j
        rw [Nat.zero_add] at h4
        simp only [h5, Bool.not_true, Bool.false_or] at h4
        have h6 := Nat.eq_of_beq_eq_true h4
        subst h6
        rw [hx] at hu; cases hu)
    rw [Nat.zero_add] at hstep
    have hnext : ∀ v w', R i v w' → S w' → (∀ j u, liveB ops eat i j = true → R j u w → R j u w') → S w' ∧ wpAnyH P .any ops.toArray Q S fuel ((L.map Option.isSome).toArray.setIfInBounds i true) ((lay ops L a0).put o.dst v) w' := by
      intro v w' hRv hS' hk'
      refine ⟨hS', ?_⟩
      have e1 : (L.map Option.isSome).toArray.setIfInBounds i true = ((L.set i (some v)).map Option.isSome).toArray := by
        rw [List.setIfInBounds_toArray, List.map_set]; rfl
      rw [e1, ← lay_set ops L a0 i hd hx ho]
      refine ih (L.set i (some v)) w' (by rw [List.length_set]; exact hL) ?_ hS' (fun j u hu hne => ?_) (fun j u o' hu ho' k hk2 => ?_)
      · have hi' : i < L.length := by omega
        have hLi : L[i] = none := by rw [List.getElem?_eq_getElem hi'] at hx; simpa using hx
        have e2 : L = L.take i ++ none :: L.drop (i + 1) := by
          conv => lhs; rw [← List.take_append_drop i L, List.drop_eq_getElem_cons hi', hLi]
        have e3 : L.set i (some v) = L.take i ++ some v :: L.drop (i + 1) := List.set_eq_take_append_cons_drop .. |>.trans (by rw [if_pos hi'])
        rw [e3]
        rw [e2] at hf
        simp only [List.filter_append, List.filter_cons, Option.isNone_some, Option.isNone_none, List.length_append, List.length_cons, if_true, Bool.false_eq_true, if_false] at hf ⊢
        omega
      · rw [List.getElem?_set] at hu
        split at hu
        · subst_vars
          split at hu
          · cases hu; exact hRv
          · cases hu
        · rename_i hij
          refine hk' _ _ ?_ (hR j u hu fun i' u' hu' => ?_)
          · unfold liveB
            have b1 : Nat.beq i j = false := Bool.eq_false_iff.2 fun hc => hij (Nat.eq_of_beq_eq_true hc)
            have b2 := hne i v (by rw [List.getElem?_set_self (by omega)])
            simp only [b1, b2, ho, Bool.not_false, Bool.true_and]
            rw [Bool.and_eq_true]
            refine ⟨List.all_eq_true.2 fun k hk3 => ?_, ?_⟩
            · obtain ⟨x, hx3⟩ := hdep k (List.contains_iff_mem.2 hk3)
              have hki : i ≠ k := fun e => by subst e; rw [hx] at hx3; cases hx3
              rw [hne k x (by rw [List.getElem?_set_ne hki]; exact hx3)]; rfl
            · cases ho3 : ops[j]? with
              | none =>
                have hj1 := (List.getElem?_eq_some_iff.1 hu).1
                rw [List.getElem?_eq_none_iff] at ho3
                omega
              | some o3 =>
                simp only [Bool.not_eq_true']
                refine Bool.eq_false_iff.2 fun hc => ?_
                obtain ⟨x, hx3⟩ := hC j u o3 hu ho3 i hc
                rw [hx] at hx3; cases hx3
          by_cases hii : i = i'
          · subst hii; rw [hx] at hu'; cases hu'
          · exact hne i' u' (by rw [List.getElem?_set_ne hii]; exact hu')
      · have hk4 : ∃ x, L[k]? = some (some x) := by
          rw [List.getElem?_set] at hu
          split at hu
          · subst_vars
            rw [ho] at ho'; cases ho'
            exact hdep k hk2
          · exact hC j u o' hu ho' k hk2
        obtain ⟨x, hx3⟩ := hk4
        by_cases hki : i = k
        · subst hki; rw [hx] at hx3; cases hx3
        · exact ⟨x, by rw [List.getElem?_set_ne hki]; exact hx3⟩
    unfold wpOp
    rw [List.getElem?_toArray, ho]
    rcases hstep with ⟨hw, hp⟩ | ⟨hw, hu⟩
    · simp only [hw, if_true]
      refine .inl (Oper.wp_mono ?_ hp)
      rintro a' w' ⟨v, rfl, hRv, hS', hg⟩
      exact hnext v w' hRv hS' fun j u hn h => hG i j u w w' hn hg h
    · simp only [hw]
      exact hnext undef w hu hS fun j u _ h => h

/-- The whole region. -/
theorem flow {id : Nat} {w : World} (eat : List (Nat × Nat)) (S : World → Prop) (G : Nat → World → World → Prop) (R : Nat → Value → World → Prop) (hm : P.follows .mixedOrders = true) (hd : dstsB ops = true) (hk : backB ops 0 = true) (hsz : (ops.all fun o => match o.dst with | some t => Nat.blt t a0.tmps.size | none => true) = true)
    (hG : ∀ i j v w w', liveB ops eat i j = true → G i w w' → R j v w → R j v w') (hS : S { w with drawn := w.drawn + 1 }) (hs : FSteps P ops eat S G R a0 Q ops 0)
    (hfin : ∀ (vs : List Value) w, vs.length = ops.length → S w → (∀ j v, vs[j]? = some v → (∀ i, i < ops.length → eat.contains (i, j) = false) → R j v w) → Q .normal (lay ops (vs.map some) a0) w) : (Code.region id ops.toArray true).wp P Q a0 w := by
  refine wp_region_held (S := S) hm ?_
  have h := flow_go hd hk (fun o ho t ht => by
    have := (List.all_eq_true.1 hsz) o ho
    rw [ht] at this; simpa [Nat.blt_eq] using this) hG hs hfin ops.length (List.replicate ops.length none) _ (by simp) (by simp) hS (fun i v h _ => by
    rw [List.getElem?_replicate] at h; split at h <;> cases h) (fun i v _ h => by
    rw [List.getElem?_replicate] at h; split at h <;> cases h)
  have e1 : lay ops (List.replicate ops.length none) a0 = a0 := by
    clear h hs hfin hsz hd hk hG
    induction ops with
    | nil => rfl
    | cons o os ih => exact ih
  rw [e1] at h
  have e2 : ((List.replicate ops.length (none : Option Value)).map Option.isSome).toArray = Array.replicate ops.length false := by simp
  rw [e2] at h
  exact h
end
end Go.Proofs.YtdbdjjjmomociaaGreatDoor
/- Flows whose operations yield plain values, expressions and rows of them, and only lay new memory. -/
namespace Go.Proofs.YtdbdjjjmomociaaGreatDoor
set_option maxRecDepth 100000
open Go.RowKit

set_option linter.unusedVariables false
theorem ev {a : Act} {t : Nat} {v : Value} (h : a.tmps[t]? = some v) : a.eval (.tmp t) = v := by
  simp [Act.eval, Array.getD_eq_getD_getElem?, h]
section
variable {o : Oper} {a : Act} {w w' : World} {K : Act → World → Prop} {Q : Exit → Act → World → Prop}
theorem wp_val {v : Value} (h : (execOp a.eval o).run Tryz.prog w = .ok (.value v) w') (hK : K (a.put o.dst v) w') : o.wp Tryz.prog a w K Q := by
  unfold Oper.wp
  rw [h, Oper.upon_value]
  exact hK
theorem wp_ent {f : FuncId} {vs : Array Value} (h : (execOp a.eval o).run Tryz.prog w = .ok (.enter f vs) w) (hc : Calls Tryz.prog f vs w fun e w' => ∃ v, e = .returned v ∧ K (a.put o.dst v) w') : o.wp Tryz.prog a w K Q := by
  unfold Oper.wp
  rw [h, Oper.upon_enter]
  refine hc.mono ?_
  rintro e w' ⟨v, rfl, hk⟩
  exact hk
end
theorem want_in {ops : List Oper} {o oj : Oper} {a : Act} {j t : Nat} {b : Bool} (hg : o.guard = some (j, b)) (hj : ops[j]? = some oj) (ht : oj.dst = some t) (h : a.tmps[t]? = some (.bool b)) : Region.wanted o (yielded ops.toArray a.tmps) = true := by
  unfold Region.wanted yielded
  simp [hg, hj, ht, h]

/-- What an operation yields. -/
inductive Sp where
  | val (v : Value)
  | re (r : RE)
  | row (l : List RE)
  | any
  | blk (cs : Array Value) (t : TypeId)
  | ptr (cs : Array Value) (t : TypeId) (off : Nat)
def Sp.at : Sp → Value → World → Prop
  | .val u, v, _ => v = u
  | .re r, v, w => ∃ b, v = PT b ∧ ReAt w b r
  | .row l, v, w => ResRow w v l
  | .any, _, _ => True
  | .blk cs t, v, w => ∃ b, v = .slice (some ⟨b, 0, none⟩) cs.size cs.size ∧ Blk w b cs t
  | .ptr cs t off, v, w => ∃ b, v = .pointer (some ⟨b, off, none⟩) ∧ Blk w b cs t
theorem Sp.keep {s : Sp} {v : Value} {w w' : World} (hb : Below w.heap.size w w') (h : s.at v w) : s.at v w' := by
  cases s with
  | val u => exact h
  | re r => obtain ⟨b, h1, h2⟩ := h; exact ⟨b, h1, h2.keep hb⟩
  | row l => exact ResRow.below h hb
  | any => trivial
  | blk cs t => obtain ⟨b, h1, h2⟩ := h; exact ⟨b, h1, h2.below hb h2.lt⟩
  | ptr cs t off => obtain ⟨b, h1, h2⟩ := h; exact ⟨b, h1, h2.below hb h2.lt⟩

def BStep (ops : List Oper) (sp : List Sp) (w0 : World) (a0 : Act) (Q : Exit → Act → World → Prop) (i : Nat) (o : Oper) : Prop :=
  ∀ a w, Below w0.heap.size w0 w → (∀ t, noDstI ops i t = true → a.tmps[t]? = a0.tmps[t]?) → (∀ j, (depsOf o).contains j = true → ∃ v, (sp.getD j .any).at v w ∧ ∀ o' t, ops[j]? = some o' → o'.dst = some t → a.tmps[t]? = some v) →
    Region.wanted o (yielded ops.toArray a.tmps) = true ∧ ∀ K : Act → World → Prop, (∀ v w', (sp.getD i .any).at v w' → Below w.heap.size w w' → K (a.put o.dst v) w') → o.wp Tryz.prog a w K Q
def BSteps (ops : List Oper) (sp : List Sp) (w0 : World) (a0 : Act) (Q : Exit → Act → World → Prop) : List Oper → Nat → Prop
  | [], _ => True
  | o :: os, k => BStep ops sp w0 a0 Q k o ∧ BSteps ops sp w0 a0 Q os (k + 1)
theorem BSteps.steps {ops : List Oper} {sp : List Sp} {w0 : World} {a0 : Act} {Q : Exit → Act → World → Prop} : ∀ (os : List Oper) (k : Nat), BSteps ops sp w0 a0 Q os k →
    FSteps Tryz.prog ops [] (fun w => Below w0.heap.size w0 w) (fun _ w w' => Below w.heap.size w w') (fun j v w => (sp.getD j .any).at v w) a0 Q os k
  | [], _, _ => trivial
  | o :: os, k, h => ⟨fun a w hS _ hk hd => by
      obtain ⟨h1, h2⟩ := h.1 a w hS hk (fun j hj => hd j hj rfl)
      refine .inl ⟨h1, h2 _ ?_⟩
      intro v w' hv hb
      exact ⟨v, rfl, hv, hS.trans (hb.mono hS.size), hb⟩, BSteps.steps os (k + 1) h.2⟩
theorem flowB {ops : List Oper} {w0 : World} {a0 : Act} {Q : Exit → Act → World → Prop} {id : Nat} (sp : List Sp) (hm : (Tryz.prog).follows .mixedOrders = true) (hd : dstsB ops = true) (hk : backB ops 0 = true) (hsz : (ops.all fun o => match o.dst with | some t => Nat.blt t a0.tmps.size | none => true) = true)
    (hs : BSteps ops sp w0 a0 Q ops 0)
    (hfin : ∀ (vs : List Value) w, vs.length = ops.length → Below w0.heap.size w0 w → (∀ j v, vs[j]? = some v → (sp.getD j .any).at v w) → Q .normal (lay ops (vs.map some) a0) w) : (Code.region id ops.toArray true).wp Tryz.prog Q a0 w0 :=
  flow [] (fun w => Below w0.heap.size w0 w) (fun _ w w' => Below w.heap.size w w') (fun j v w => (sp.getD j .any).at v w) hm hd hk hsz (fun _ _ _ _ _ _ hb h => Sp.keep hb h) ⟨rfl, rfl, rfl, Nat.le_refl _, fun _ _ => rfl⟩ (BSteps.steps ops 0 hs)
    fun vs w hl hS hR => hfin vs w hl hS fun j v hv => hR j v hv fun _ _ => rfl
end Go.Proofs.YtdbdjjjmomociaaGreatDoor
