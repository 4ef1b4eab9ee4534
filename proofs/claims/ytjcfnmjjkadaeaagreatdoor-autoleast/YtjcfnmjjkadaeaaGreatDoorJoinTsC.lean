/- Texts of this claim put together: AuP, MathTs, TsA, TsB, TsC. -/
import Derived.Test.YtjcfnmjjkadaeaaGreatDoorJoinShE
import Derived.Test.YtjcfnmjjkadaeaaGreatDoorJoinMathDfa4
import Derived.Test.YtjcfnmjjkadaeaaGreatDoorJoinAuA
import Derived.Test.YtjcfnmjjkadaeaaGreatDoorJoinDvC
import Derived.Test.YtjcfnmjjkadaeaaGreatDoorJoinOpenS
/- law07's Pure: letters a to d alone, and no 'all texts of none'. -/
namespace Go.Proofs.YtjcfnmjjkadaeaaGreatDoor
set_option maxRecDepth 100000
set_option linter.unusedSimpArgs false
set_option linter.unusedVariables false
open Go.RowKit

def txP (t : ByteArray) : Bool := (bytesN t).all fun b => decide (97 ≤ b) && decide (b ≤ 100)
def k9 (o : Int) : Nat := ((IntKind.u64.wrap o).tmod 9).toNat
def SHP.pure : SHP → Bool
  | .mk o _ _ t ks => txP t && (ks.map fun k => k.pure).all id && (decide (k9 o ≠ 6) || decide (0 < ks.length))
end Go.Proofs.YtjcfnmjjkadaeaaGreatDoor
/- The texts of the letters a to d, the least first; the first one of them that is asked for; a pure shape's texts. -/
namespace Go.Proofs.YtjcfnmjjkadaeaaGreatDoor
set_option maxRecDepth 100000
set_option linter.unusedSimpArgs false
set_option linter.unusedVariables false

def LetT (s : List Nat) : Prop := ∀ x ∈ s, 97 ≤ x ∧ x ≤ 100
def nxT (s : List Nat) : List (List Nat) := [s ++ [97], s ++ [98], s ++ [99], s ++ [100]]
def lvT : Nat → List (List Nat)
  | 0 => [[]]
  | k + 1 => (lvT k).flatMap nxT
def txsT : Nat → List (List Nat)
  | 0 => [[]]
  | k + 1 => txsT k ++ lvT (k + 1)
theorem lvT_succ (k : Nat) : lvT (k + 1) = (lvT k).flatMap nxT := rfl
theorem txsT_succ (k : Nat) : txsT (k + 1) = txsT k ++ lvT (k + 1) := rfl
theorem mem_nxT {s t : List Nat} : t ∈ nxT s ↔ ∃ x, 97 ≤ x ∧ x ≤ 100 ∧ t = s ++ [x] := by
  unfold nxT
  constructor
  · intro h
    simp only [List.mem_cons, List.not_mem_nil, or_false] at h
    rcases h with rfl | rfl | rfl | rfl
    · exact ⟨97, by omega, by omega, rfl⟩
    · exact ⟨98, by omega, by omega, rfl⟩
    · exact ⟨99, by omega, by omega, rfl⟩
    · exact ⟨100, by omega, by omega, rfl⟩
  · rintro ⟨x, h1, h2, rfl⟩
    obtain rfl | rfl | rfl | rfl : x = 97 ∨ x = 98 ∨ x = 99 ∨ x = 100 := by omega
    all_goals simp
theorem LetT.snoc {s : List Nat} {x : Nat} : LetT (s ++ [x]) ↔ LetT s ∧ 97 ≤ x ∧ x ≤ 100 := by
  unfold LetT
  constructor
  · intro h
    exact ⟨fun y hy => h y (by simp [hy]), h x (by simp)⟩
  · rintro ⟨h, h2⟩ y hy
    rcases List.mem_append.1 hy with hy | hy
    · exact h y hy
    · rcases List.mem_singleton.1 hy with rfl; exact h2
theorem mem_lvT : ∀ (k : Nat) (t : List Nat), t ∈ lvT k ↔ t.length = k ∧ LetT t := by
  intro k
  induction k with
  | zero =>
    intro t
    show t ∈ [[]] ↔ _
    rw [List.mem_singleton]
    constructor
    · rintro rfl; exact ⟨rfl, fun x hx => absurd hx (by simp)⟩
    · rintro ⟨h, -⟩; exact List.eq_nil_of_length_eq_zero h
  | succ k ih =>
    intro t
    rw [lvT_succ, List.mem_flatMap]
    constructor
    · rintro ⟨s, hs, ht⟩
      obtain ⟨x, h1, h2, rfl⟩ := mem_nxT.1 ht
      obtain ⟨h3, h4⟩ := (ih s).1 hs
      exact ⟨by simp [h3], LetT.snoc.2 ⟨h4, h1, h2⟩⟩
    · rintro ⟨hl, ht⟩
      obtain ⟨s, x, rfl⟩ : ∃ s x, t = s ++ [x] := by
        have hne : t ≠ [] := by rintro rfl; simp at hl
        exact ⟨t.dropLast, t.getLast hne, (List.dropLast_concat_getLast hne).symm⟩
      obtain ⟨h1, h2, h3⟩ := LetT.snoc.1 ht
      exact ⟨s, (ih s).2 ⟨by simpa using hl, h1⟩, mem_nxT.2 ⟨x, h2, h3, rfl⟩⟩
theorem mem_txsT : ∀ (k : Nat) (t : List Nat), t ∈ txsT k ↔ t.length ≤ k ∧ LetT t := by
  intro k
  induction k with
  | zero =>
    intro t
    have := mem_lvT 0 t
    show t ∈ lvT 0 ↔ _
    rw [this]
    constructor
    · rintro ⟨h, h2⟩; exact ⟨by omega, h2⟩
    · rintro ⟨h, h2⟩; exact ⟨by omega, h2⟩
  | succ k ih =>
    intro t
    rw [txsT_succ, List.mem_append, ih, mem_lvT]
    constructor
    · rintro (⟨h, h2⟩ | ⟨h, h2⟩)
      · exact ⟨by omega, h2⟩
      · exact ⟨by omega, h2⟩
    · rintro ⟨h, h2⟩
      by_cases e : t.length = k + 1
      · exact .inr ⟨e, h2⟩
      · exact .inl ⟨by omega, h2⟩
theorem nxT_pw (s : List Nat) : (nxT s).Pairwise ltW := by
  unfold nxT
  have h : ∀ x y : Nat, x < y → ltW (s ++ [x]) (s ++ [y]) := fun x y hxy => ltW.last s hxy
  simp only [List.pairwise_cons, List.mem_cons, List.not_mem_nil, or_false, forall_eq_or_imp, forall_eq, List.Pairwise.nil, and_true]
  exact ⟨⟨h _ _ (by omega), h _ _ (by omega), h _ _ (by omega)⟩, ⟨h _ _ (by omega), h _ _ (by omega)⟩, h _ _ (by omega), fun _ hx => absurd hx (by simp)⟩
theorem lvT_pw : ∀ k, (lvT k).Pairwise ltW := by
  intro k
  induction k with
  | zero => exact List.pairwise_singleton _ _
  | succ k ih =>
    rw [lvT_succ, List.pairwise_flatMap]
    refine ⟨fun s _ => nxT_pw s, ih.imp ?_⟩
    intro a b hab x hx y hy
    obtain ⟨u, h1, h2, rfl⟩ := mem_nxT.1 hx
    obtain ⟨v, h3, h4, rfl⟩ := mem_nxT.1 hy
    exact hab.snoc (by omega) (by omega)
theorem txsT_pw : ∀ k, (txsT k).Pairwise ltW := by
  intro k
  induction k with
  | zero => exact List.pairwise_singleton _ _
  | succ k ih =>
    rw [txsT_succ, List.pairwise_append]
    refine ⟨ih, lvT_pw _, fun a ha b hb => ?_⟩
    have h1 := ((mem_txsT k a).1 ha).1
    have h2 := ((mem_lvT (k + 1) b).1 hb).1
    left; omega
/-- The law's question: is a text the least one, of those of up to four letters? -/
def leastB (w : List Nat) (ok : Bool) (p : List Nat → Bool) : Bool :=
  if ok && !p w then false else match (txsT 4).find? p with
    | some t => ok && decide (w = t)
    | none => !ok || decide (4 < w.length)
theorem find_least {p : List Nat → Bool} {w : List Nat} {l : List (List Nat)} (hp : p w = true) (hl : ∀ u, u ∈ l → p u = true → leW w u) (hw : w ∈ l) (hpw : l.Pairwise ltW) : l.find? p = some w := by
  induction l with
  | nil => simp at hw
  | cons x r ih =>
    rw [List.find?_cons]
    by_cases hx : p x = true
    · rw [hx]
      simp only
      congr 1
      rcases List.mem_cons.1 hw with e | e
      · exact e.symm
      · exfalso
        have h1 := hl x (by simp) hx
        have h2 := (List.pairwise_cons.1 hpw).1 w e
        unfold leW ltW at *
        omega
    · rw [Bool.not_eq_true] at hx
      rw [hx]
      simp only
      refine ih (fun u hu => hl u (by simp [hu])) ?_ (List.pairwise_cons.1 hpw).2
      rcases List.mem_cons.1 hw with e | e
      · subst e; rw [hp] at hx; cases hx
      · exact e
theorem letT_by {t : List Nat} (h : LetT t) : By t := fun x hx => by have := h x hx; omega
theorem least_some {p : List Nat → Bool} {w : List Nat} (hp : p w = true) (hw : LetT w) (hl : ∀ u, By u → p u = true → leW w u) : leastB w true p = true := by
  unfold leastB
  rw [hp]
  simp only [Bool.not_true, Bool.and_false, Bool.false_eq_true, if_false, Bool.true_and, Bool.not_true, Bool.false_or]
  by_cases h4 : w.length ≤ 4
  · rw [find_least hp (fun u hu hpu => hl u (letT_by ((mem_txsT 4 u).1 hu).2) hpu) ((mem_txsT 4 w).2 ⟨h4, hw⟩) (txsT_pw 4)]
    simp
  · cases hf : (txsT 4).find? p with
    | none => simp; omega
    | some t =>
      exfalso
      have h1 := List.find?_some hf
      have h2 := (mem_txsT 4 t).1 (List.mem_of_find?_eq_some hf)
      have := hl t (letT_by h2.2) h1
      unfold leW at this
      omega
theorem least_none {p : List Nat → Bool} (h : ∀ u, By u → p u = false) : leastB [] false p = true := by
  unfold leastB
  have hf : (txsT 4).find? p = none := by
    rw [List.find?_eq_none]
    intro u hu
    rw [h u (letT_by ((mem_txsT 4 u).1 hu).2)]
    simp
  rw [hf]
  rfl
end Go.Proofs.YtjcfnmjjkadaeaaGreatDoor
/- Texts: the texts of up to four letters a to d, the least first. -/
namespace Go.Proofs.YtjcfnmjjkadaeaaGreatDoor
set_option maxRecDepth 100000
set_option linter.unusedSimpArgs false
set_option linter.unusedVariables false
open Go.RowKit Go.Shelf

abbrev strV (s : List Nat) : Value := .string (strB s)
/-- A row of texts of its own. -/
abbrev OwnTx (W : World) (base : Nat) (v : Value) (l : List (List Nat)) : Prop := OwnG W base 9 (.string ⟨#[]⟩) v (l.map strV)
theorem OwnTx.len {W : World} {base : Nat} {v : Value} {l : List (List Nat)} (h : OwnTx W base v l) : ∃ a cap, v = .slice a l.length cap := by
  obtain ⟨a, cap, h1, -⟩ := OwnG.slice h
  rw [List.length_map] at h1
  exact ⟨a, cap, h1⟩
end Go.Proofs.YtjcfnmjjkadaeaaGreatDoor
/- least: is a text the least one that something holds of, among those of up to four letters? -/
namespace Go.Proofs.YtjcfnmjjkadaeaaGreatDoor
set_option maxRecDepth 100000
set_option linter.unusedSimpArgs false
set_option linter.unusedVariables false
open Go.RowKit Go.Shelf

/-- What is called, of any text: whether something holds of it. -/
structure HoldsF (f : Nat) (pre boxes : Array Value) (p : List Nat → Bool) (W0 : World) : Prop where
  ent : ∀ args W, (callFunc f args).run Tryz.prog W = .ok (.enter f args) W
  ans : ∀ W, Below W0.heap.size W0 W → ∀ t : List Nat, By t → t.length ≤ 8 → Calls Tryz.prog f (pre.push (.string (strB t)) ++ boxes) W fun e w' => e = .returned (.bool (p t)) ∧ Below W.heap.size W w'
end Go.Proofs.YtjcfnmjjkadaeaaGreatDoor
/- AutoPairs' own functions: texts of one and not of the other, of both, of one alone. -/
namespace Go.Proofs.YtjcfnmjjkadaeaaGreatDoor
set_option maxRecDepth 100000
set_option linter.unusedSimpArgs false
set_option linter.unusedVariables false
open Go.RowKit Go.Shelf

/-- Two shapes in boxes. -/
structure PairB (W0 : World) (cs ct : List Value) (s t : SHP) (bx bt : Nat) : Prop where
  s : ShC W0 cs s
  t : ShC W0 ct t
  bs : Blk W0 bx cs.toArray 24
  bt : Blk W0 bt ct.toArray 24
theorem PairB.keep {W0 W : World} {cs ct : List Value} {s t : SHP} {bx bt : Nat} (h : PairB W0 cs ct s t bx bt) (hb : Below W0.heap.size W0 W) : PairB W cs ct s t bx bt :=
  ⟨h.s.keep hb, h.t.keep hb, h.bs.below hb h.bs.lt, h.bt.below hb h.bt.lt⟩
end Go.Proofs.YtjcfnmjjkadaeaaGreatDoor
