/- Texts of this claim put together: HeadM, DfaJ. -/
import Derived.Test.YtjcfnmjjkadaeaaGreatDoorJoinDfaH
import Derived.Test.YtjcfnmjjkadaeaaGreatDoorJoinMathDfa4
import Derived.Test.YtjcfnmjjkadaeaaGreatDoorJoinDvC
/- The document's example: its states. -/
namespace Go.Proofs.YtjcfnmjjkadaeaaGreatDoor
set_option maxRecDepth 100000
set_option linter.unusedSimpArgs false
set_option linter.unusedVariables false
open Go.RowKit

def hdW : RE := rWord [97, 98]
def hdS : RE := rMany hdW
def hdX : RE := rThen [.mk 2 (setOf [98]) [], hdS]
theorem letter_mk (c : Nat) (h : setOf [c] ≠ 0#256) : rLetter c = .mk 2 (setOf [c]) [] := rOne_set _ h
theorem hdW_wf : Wf hdW := by
  unfold hdW rWord
  refine wf_then fun x hx => ?_
  obtain ⟨c, -, rfl⟩ := List.mem_map.1 hx
  exact wf_one _
theorem ne97 : setOf [97] ≠ 0#256 := by decide +kernel
theorem ne98 : setOf [98] ≠ 0#256 := by decide +kernel
theorem hdW_mk : hdW = .mk 3 0#256 [.mk 2 (setOf [97]) [], .mk 2 (setOf [98]) []] := by
  have h1 := letter_mk 97 ne97
  have h2 := letter_mk 98 ne98
  unfold hdW rWord
  rw [List.map_cons, List.map_cons, List.map_nil, h1, h2]
  exact then_same (fun k hk => by simp at hk; rcases hk with rfl | rfl <;> simp [RE.op]) (by simp)
theorem l97_wf : Wf (RE.mk 2 (setOf [97]) []) := by
  have h := hdW_wf
  rw [hdW_mk] at h
  exact h.kid _ (by simp [RE.kids])
theorem hd_null : (RE.mk 2 (setOf [97]) []).null = false := by rw [RE.null_mk]; simp
theorem byN (b : Nat) : rBy b rNothing = rNothing := by_01 b 0 _ _ (.inl rfl)
theorem hdN_size : rNothing.size ≤ 20000 := by
  have h : rNothing.cnt = 1 := cnt_nothing
  have := size_minD rNothing
  omega
/-- Expressions of unlike ops have unlike keys. -/
theorem keyOp {a b : RE} (h : a.op ≠ b.op) : a.key ≠ b.key := fun e => h (by
  rw [a.eta, b.eta, RE.key_mk, RE.key_mk] at e
  injection e with e
  omega)
theorem opN : rNothing.op = 0 := rfl
theorem by_small (t : List Nat) (h : t.all (fun x => decide (x < 256)) = true) : By t := fun x hx => by
  have := List.all_eq_true.1 h x hx
  simpa using this
end Go.Proofs.YtjcfnmjjkadaeaaGreatDoor
/- A Dfa that Build has made: what its calls tell. -/
namespace Go.Proofs.YtjcfnmjjkadaeaaGreatDoor
set_option maxRecDepth 100000
set_option linter.unusedSimpArgs false
set_option linter.unusedVariables false
open Go.RowKit

theorem Left.below {W W' : World} {B bud n : Nat} (h : Left W W' B bud) (hn : n ≤ B) (hb : n ≤ bud) : Below n W W' :=
  ⟨h.os, h.tape, h.output, h.size, fun k hk => h.old k (by omega) (by omega)⟩
theorem sh_zero (t : Int) : sh 0 t = t := by unfold sh; split <;> omega
theorem yesB_null (S : List RE) (q : Int) : yesB (S.map RE.null) S.length q = yesN S q := by
  unfold yesB yesN
  by_cases h : 0 ≤ q ∧ q < S.length
  · have hq : q.toNat < S.length := by omega
    congr 1
    simp [List.getD_eq_getElem?_getD, hq]
  · rw [decide_eq_false h, Bool.false_and, Bool.false_and]
/-- A Dfa of an expression in memory. -/
structure DfaR (W : World) (p : Nat) (r : RE) (pl : List (BitVec 256)) (S : List RE) (rows : List (List Nat)) : Prop where
  at' : DfaAt W p (pl.map least) (idxF pl pl.length) rows (S.map RE.null) 0 (.slice none 0 0)
  ok : DfaOk r pl S rows
theorem DfaR.keep {W W' : World} {p : Nat} {r : RE} {pl : List (BitVec 256)} {S : List RE} {rows : List (List Nat)} (h : DfaR W p r pl S rows) (hb : Below W.heap.size W W') : DfaR W' p r pl S rows := ⟨h.at'.keep hb, h.ok⟩
theorem DfaOk.fit {r : RE} {pl : List (BitVec 256)} {S : List RE} {rows : List (List Nat)} (h : DfaOk r pl S rows) : ∀ b, b < 256 → ∀ q, q < rows.length → idxF pl pl.length b < (rows.getD q []).length := fun b hb q hq => by
  rw [(h.rows.2 q hq).len]
  simpa using (head_of h.part hb).1
theorem DfaR.len {W : World} {p : Nat} {r : RE} {pl : List (BitVec 256)} {S : List RE} {rows : List (List Nat)} (h : DfaR W p r pl S rows) :
    Calls Tryz.prog 13 #[PT p] W fun e w' => e = .returned (.int .i64 S.length) ∧ w' = W := by
  have := dlen_any p _ _ rows _ _ _ W h.at'
  rw [h.ok.len] at this
  exact this
theorem DfaR.run {W : World} {p : Nat} {r : RE} {pl : List (BitVec 256)} {S : List RE} {rows : List (List Nat)} (h : DfaR W p r pl S rows) (q : Int) (s : ByteArray) (hs : s.size ≤ maxLen) :
    Calls Tryz.prog 58 #[PT p, .int .i64 q, .string s] W fun e w' => e = .returned (.int .i64 (runN rows (idxF pl pl.length) q (bytesN s))) ∧ Below W.heap.size W w' :=
  drun_any p _ _ rows _ _ _ q s W h.at' h.ok.fit hs
theorem DfaR.match {W : World} {p : Nat} {r : RE} {pl : List (BitVec 256)} {S : List RE} {rows : List (List Nat)} (h : DfaR W p r pl S rows) (s : ByteArray) (hs : s.size ≤ maxLen) :
    Calls Tryz.prog 18 #[PT p, .string s] W fun e w' => ∃ b : Bool, e = .returned (.bool b) ∧ (b = true ↔ r.lang (bytesN s)) ∧ Below W.heap.size W w' := by
  refine (dmatch_any p _ _ rows _ _ _ s W h.at' h.ok.fit hs (by rw [List.length_map, h.ok.len])).mono ?_
  rintro e w' ⟨rfl, hb⟩
  refine ⟨_, rfl, ?_, hb⟩
  rw [h.ok.len, yesB_null]
  exact h.ok.match fun x hx => by
    obtain ⟨u, -, rfl⟩ := List.mem_map.1 hx
    exact u.toNat_lt
/-- Build, by a budget of which nothing was taken. -/
theorem build_new (r : RE) (b0 : Nat) (W : World) (h : ReAt W b0 r) (hw : Wf r) (bud : Nat) (g : Int) (hb : BudAt W bud g 0) (hg : 0 ≤ g) (hg2 : g < 1000000) (hT : TabAt W) :
    Calls Tryz.prog 10 #[PT b0, PT bud] W fun e W' => ∃ pl, pl.Perm (refL (r.sts false)) ∧ pl.Pairwise (fun x y => least x ≤ least y) ∧ Left W W' W.heap.size bud ∧
      (((bldF g (pl.map least) r 0).2 = none ∧ e = .returned (.tuple #[.pointer none, .int .i64 5]) ∧ BudAt W' bud g (bldF g (pl.map least) r 0).1.t ∧ BudOk g (bldF g (pl.map least) r 0).1.t) ∨
        ∃ s rows p, bldF g (pl.map least) r 0 = (s, some rows) ∧ e = .returned (.tuple #[PT p, .int .i64 0]) ∧ W.heap.size ≤ p ∧ DfaR W' p r pl s.S rows ∧ BudAt W' bud g s.t ∧ s.t = s.S.length) := by
  have hb' : BudAt W bud (g + 0) 0 := by rw [Int.add_zero]; exact hb
  refine (Build_any r b0 W h hw bud g 0 (Int.le_refl _) hb' hg hg2 hT).mono ?_
  rintro e W' ⟨pl, h1, h2, h3, h4, h5⟩
  rw [Int.add_zero, sh_zero] at h4
  refine ⟨pl, h1, h2, h3, ?_⟩
  rcases h5 with ⟨h5, rfl⟩ | ⟨rows, p, h5, rfl, h6, h7⟩
  · refine .inl ⟨h5, rfl, h4, ?_⟩
    cases e : bldF g (pl.map least) r 0 with
    | mk s o =>
      rw [e] at h5
      have h5 : o = none := h5
      subst h5
      exact bldF_fail hw hg e
  · refine .inr ⟨(bldF g (pl.map least) r 0).1, rows, p, ?_, rfl, h6, ⟨h7, ?_⟩, h4, ?_⟩
    · rw [← h5]
    · exact dfaOk hw hg ((isPart_ref (r.sts false)).perm h1) (by rw [← h5])
    · exact (bldF_ok hw hg (show bldF g (pl.map least) r 0 = ((bldF g (pl.map least) r 0).1, some rows) by rw [← h5])).1.t
end Go.Proofs.YtjcfnmjjkadaeaaGreatDoor
