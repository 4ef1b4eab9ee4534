/- Texts of this claim put together: HeadM, DfaJ. -/
import Derived.Test.YthlannjipbohkaaGreatDoorJoinDfaH
import Derived.Test.YthlannjipbohkaaGreatDoorJoinMathDfa4
import Derived.Test.YthlannjipbohkaaGreatDoorJoinDvC
/- The document's example: its states. -/
namespace Go.Proofs.YthlannjipbohkaaGreatDoor
set_option maxRecDepth 100000
set_option linter.unusedSimpArgs false
set_option linter.unusedVariables false
open Go.RowKit

def hdW : RE := rWord [97, 98]
def hdS : RE := rMany hdW
def hdX : RE := rThen [.mk 2 (setOf [98]) [], hdS]
theorem letter_mk (c : Nat) (h : setOf [c] ≠ 0#256) : rLetter c = .mk 2 (setOf [c]) [] := rOne_set _ h
theorem hdW_wf : Wf hdW := by
  unfold hdW rWord
  refine wf_then fun x hx => ?_
  obtain ⟨c, -, rfl⟩ := List.mem_map.1 hx
  exact wf_one _
theorem hdS_wf : Wf hdS := wf_many hdW_wf
theorem ne97 : setOf [97] ≠ 0#256 := by decide +kernel
theorem ne98 : setOf [98] ≠ 0#256 := by decide +kernel
theorem hdW_mk : hdW = .mk 3 0#256 [.mk 2 (setOf [97]) [], .mk 2 (setOf [98]) []] := by
  have h1 := letter_mk 97 ne97
  have h2 := letter_mk 98 ne98
  unfold hdW rWord
  rw [List.map_cons, List.map_cons, List.map_nil, h1, h2]
  exact then_same (fun k hk => by simp at hk; rcases hk with rfl | rfl <;> simp [RE.op]) (by simp)
theorem hdS_mk : hdS = .mk 5 0#256 [hdW] := by
  unfold hdS rMany
  rw [hdW_mk]
  simp [RE.op]
theorem hdX_mk : hdX = .mk 3 0#256 [.mk 2 (setOf [98]) [], hdS] := by
  unfold hdX
  exact then_same (fun k hk => by
    simp at hk
    rcases hk with rfl | rfl
    · simp [RE.op]
    · rw [hdS_mk]; simp [RE.op]) (by simp)
theorem l97_wf : Wf (RE.mk 2 (setOf [97]) []) := by
  have h := hdW_wf
  rw [hdW_mk] at h
  exact h.kid _ (by simp [RE.kids])
theorem l98_wf : Wf (RE.mk 2 (setOf [98]) []) := by
  have h := hdW_wf
  rw [hdW_mk] at h
  exact h.kid _ (by simp [RE.kids])
theorem hdX_wf : Wf hdX := wf_then fun x hx => by
  simp at hx
  rcases hx with rfl | rfl
  · exact l98_wf
  · exact hdS_wf
theorem hd_null : (RE.mk 2 (setOf [97]) []).null = false := by rw [RE.null_mk]; simp
theorem hd_null8 : (RE.mk 2 (setOf [98]) []).null = false := by rw [RE.null_mk]; simp
theorem byW (b : Nat) : rBy b hdW = if (setOf [97]).getLsbD b then .mk 2 (setOf [98]) [] else rNothing := by
  have hww := hdW_wf
  rw [hdW_mk] at hww ⊢
  rw [by_3 b hww, hd_null, if_neg (by simp), by_2]
  split
  · have h3 := then_group (a := []) (b := [RE.mk 2 (setOf [98]) []]) (by simp) (fun r hr => by simp at hr; subst hr; exact l98_wf)
    rw [then_nil] at h3
    rw [h3, List.nil_append, thenW l98_wf]
  · exact then_none _
theorem byS (b : Nat) : rBy b hdS = if (setOf [97]).getLsbD b then hdX else rNothing := by
  have hw := hdS_wf
  rw [hdS_mk] at hw ⊢
  rw [by_5 b hw, byW]
  split
  · rw [← hdS_mk]; rfl
  · exact then_none _
theorem byX (b : Nat) : rBy b hdX = if (setOf [98]).getLsbD b then hdS else rNothing := by
  have hw := hdX_wf
  rw [hdX_mk] at hw ⊢
  rw [by_3 b hw, hd_null8, if_neg (by simp), by_2]
  split
  · have h3 := then_group (a := []) (b := [hdS]) (by simp) (fun r hr => by simp at hr; subst hr; exact hdS_wf)
    rw [then_nil] at h3
    rw [h3, List.nil_append, thenW hdS_wf]
  · exact then_none _
theorem byN (b : Nat) : rBy b rNothing = rNothing := by_01 b 0 _ _ (.inl rfl)
theorem hdS_size : hdS.size ≤ 20000 := by
  have h : hdS.cnt = 4 := by
    rw [hdS_mk, RE.cnt_mk, cntL_one, hdW_mk, RE.cnt_mk]
    simp [cntL, RE.cnt_mk]
  have := size_minD hdS
  omega
theorem hdX_size : hdX.size ≤ 20000 := by
  have h : hdX.cnt = 6 := by
    rw [hdX_mk, RE.cnt_mk, cntL_cons, cntL_one, RE.cnt_mk, hdS_mk, RE.cnt_mk, cntL_one, hdW_mk, RE.cnt_mk]
    simp [cntL, RE.cnt_mk]
  have := size_minD hdX
  omega
theorem hdN_size : rNothing.size ≤ 20000 := by
  have h : rNothing.cnt = 1 := cnt_nothing
  have := size_minD rNothing
  omega
/-- Expressions of unlike ops have unlike keys. -/
theorem keyOp {a b : RE} (h : a.op ≠ b.op) : a.key ≠ b.key := fun e => h (by
  rw [a.eta, b.eta, RE.key_mk, RE.key_mk] at e
  injection e with e
  omega)
theorem opS : hdS.op = 5 := by rw [hdS_mk]; rfl
theorem opX : hdX.op = 3 := by rw [hdX_mk]; rfl
theorem opN : rNothing.op = 0 := rfl
theorem kSX : hdS.key ≠ hdX.key := keyOp (by rw [opS, opX]; omega)
theorem kSN : hdS.key ≠ rNothing.key := keyOp (by rw [opS, opN]; omega)
theorem kXN : hdX.key ≠ rNothing.key := keyOp (by rw [opX, opN]; omega)

theorem fnd_old {g : Int} {s : Bs} {x : RE} {q : Nat} (hs : x.size ≤ 20000) (h : posL x s.S = some q) : fnd g s x = (s, some q) := by
  unfold fnd
  rw [if_neg (by omega), h]
theorem fnd_more {g : Int} {S : List RE} {t : Int} {x : RE} (hs : x.size ≤ 20000) (h : posL x S = none) (h0 : 0 ≤ t) (h1 : t + 1 ≤ g) : fnd g ⟨S, t⟩ x = (⟨S ++ [x], t + 1⟩, some S.length) := by
  have e : aft g t 1 = (t + 1, true) := by unfold aft; rw [if_neg (by omega), if_neg (by omega), if_neg (by omega)]
  unfold fnd
  rw [if_neg (by omega), h, e]
  simp
theorem posS1 : posL rNothing [hdS] = none := by simp [posL, kSN]
theorem posX2 : posL hdX [hdS, rNothing] = none := by simp [posL, kSX, Ne.symm kXN]
theorem posN2 : posL rNothing [hdS, rNothing] = some 1 := by simp [posL, List.findIdx?_cons, kSN]
theorem posN3 : posL rNothing [hdS, rNothing, hdX] = some 1 := by simp [posL, List.findIdx?_cons, kSN]
theorem posS3 : posL hdS [hdS, rNothing, hdX] = some 0 := by simp [posL, List.findIdx?_cons]
theorem b97_0 : (setOf [97]).getLsbD 0 = false := by decide +kernel
theorem b97_97 : (setOf [97]).getLsbD 97 = true := by decide +kernel
theorem b97_98 : (setOf [97]).getLsbD 98 = false := by decide +kernel
theorem b98_0 : (setOf [98]).getLsbD 0 = false := by decide +kernel
theorem b98_97 : (setOf [98]).getLsbD 97 = false := by decide +kernel
theorem b98_98 : (setOf [98]).getLsbD 98 = true := by decide +kernel
theorem row0 : rowA 100 hdS [0, 97, 98] ⟨[hdS], 1⟩ [] = (⟨[hdS, rNothing, hdX], 3⟩, some [1, 2, 1]) := by
  rw [rowA, byS, b97_0, if_neg (by simp), fnd_more hdN_size posS1 (by omega) (by omega)]
  show rowA 100 hdS [97, 98] ⟨[hdS, rNothing], 2⟩ [1] = _
  rw [rowA, byS, b97_97, if_pos rfl, fnd_more hdX_size posX2 (by omega) (by omega)]
  show rowA 100 hdS [98] ⟨[hdS, rNothing, hdX], 3⟩ [1, 2] = _
  rw [rowA, byS, b97_98, if_neg (by simp), fnd_old hdN_size posN3]
  rfl
theorem row1 : rowA 100 rNothing [0, 97, 98] ⟨[hdS, rNothing, hdX], 3⟩ [] = (⟨[hdS, rNothing, hdX], 3⟩, some [1, 1, 1]) := by
  rw [rowA, byN, fnd_old hdN_size posN3]
  show rowA 100 rNothing [97, 98] ⟨[hdS, rNothing, hdX], 3⟩ [1] = _
  rw [rowA, byN, fnd_old hdN_size posN3]
  show rowA 100 rNothing [98] ⟨[hdS, rNothing, hdX], 3⟩ [1, 1] = _
  rw [rowA, byN, fnd_old hdN_size posN3]
  rfl
theorem row2 : rowA 100 hdX [0, 97, 98] ⟨[hdS, rNothing, hdX], 3⟩ [] = (⟨[hdS, rNothing, hdX], 3⟩, some [1, 1, 0]) := by
  rw [rowA, byX, b98_0, if_neg (by simp), fnd_old hdN_size posN3]
  show rowA 100 hdX [97, 98] ⟨[hdS, rNothing, hdX], 3⟩ [1] = _
  rw [rowA, byX, b98_97, if_neg (by simp), fnd_old hdN_size posN3]
  show rowA 100 hdX [98] ⟨[hdS, rNothing, hdX], 3⟩ [1, 1] = _
  rw [rowA, byX, b98_98, if_pos rfl, fnd_old hdS_size posS3]
  rfl
theorem hd_bld : bldF 100 [0, 97, 98] hdS 0 = (⟨[hdS, rNothing, hdX], 3⟩, some [[1, 2, 1], [1, 1, 1], [1, 1, 0]]) := by
  unfold bldF
  rw [(bs_start hdS_wf hdS_size (by omega)).1]
  show bldA 100 [0, 97, 98] 101 ⟨[hdS], 1⟩ [] = _
  rw [bldA, if_pos (by simp)]
  show (match rowA 100 hdS [0, 97, 98] ⟨[hdS], 1⟩ [] with | (s1, none) => (s1, none) | (s1, some r) => bldA 100 [0, 97, 98] 100 s1 ([] ++ [r])) = _
  rw [row0]
  show bldA 100 [0, 97, 98] 100 ⟨[hdS, rNothing, hdX], 3⟩ [[1, 2, 1]] = _
  rw [bldA, if_pos (by simp)]
  show (match rowA 100 rNothing [0, 97, 98] ⟨[hdS, rNothing, hdX], 3⟩ [] with | (s1, none) => (s1, none) | (s1, some r) => bldA 100 [0, 97, 98] 99 s1 ([[1, 2, 1]] ++ [r])) = _
  rw [row1]
  show bldA 100 [0, 97, 98] 99 ⟨[hdS, rNothing, hdX], 3⟩ [[1, 2, 1], [1, 1, 1]] = _
  rw [bldA, if_pos (by simp)]
  show (match rowA 100 hdX [0, 97, 98] ⟨[hdS, rNothing, hdX], 3⟩ [] with | (s1, none) => (s1, none) | (s1, some r) => bldA 100 [0, 97, 98] 98 s1 ([[1, 2, 1], [1, 1, 1]] ++ [r])) = _
  rw [row2]
  show bldA 100 [0, 97, 98] 98 ⟨[hdS, rNothing, hdX], 3⟩ [[1, 2, 1], [1, 1, 1], [1, 1, 0]] = _
  rw [bldA, if_neg (by simp)]
theorem hd_sts : hdS.sts false = [setOf [97], setOf [98]] := by
  rw [hdS_mk, RE.sts_mk, if_neg (by omega), List.map_cons, List.map_nil, hdW_mk, RE.sts_mk, if_neg (by omega)]
  simp [RE.sts_mk, pickN]
/-- Two sorted rows of the same numbers are one. -/
theorem sorted_one {a b : List Nat} (h : a.Perm b) (ha : a.Pairwise (· ≤ ·)) (hb : b.Pairwise (· ≤ ·)) : a = b :=
  List.Perm.eq_of_pairwise (fun x y _ _ h1 h2 => Nat.le_antisymm h1 h2) ha hb h
theorem hd_heads {pl : List (BitVec 256)} (hp : pl.Perm (refL (hdS.sts false))) (hs : pl.Pairwise fun x y => least x ≤ least y) : pl.map least = [0, 97, 98] := by
  rw [hd_sts] at hp
  have e : ((refL [setOf [97], setOf [98]]).map least).Perm [0, 97, 98] := by decide +kernel
  exact sorted_one ((hp.map least).trans e) (List.pairwise_map.2 hs) (by decide)
/-! Which texts it has. -/
theorem star_even {t : List Nat} (h : starG hdW.lang t) : 2 ∣ t.length := by
  induction h with
  | nil => simp
  | cons u v h0 h1 h2 ih =>
    have h3 := (lang_word [97, 98] u (fun x hx => by simp at hx; omega)).1 h1
    rw [List.length_append, h3]
    simp only [List.length_cons, List.length_nil]
    omega
theorem by_small (t : List Nat) (h : t.all (fun x => decide (x < 256)) = true) : By t := fun x hx => by
  have := List.all_eq_true.1 h x hx
  simpa using this
theorem hd_yes : hdS.lang [97, 98, 97, 98] := by
  unfold hdS
  rw [lang_many]
  have hab : hdW.lang [97, 98] := (lang_word [97, 98] [97, 98] (by_small _ rfl)).2 rfl
  exact .cons [97, 98] [97, 98] (by simp) hab (.cons [97, 98] [] (by simp) hab .nil)
theorem hd_no : ¬ hdS.lang [97, 98, 97] := by
  intro h
  unfold hdS at h
  rw [lang_many] at h
  have := star_even h
  simp at this
end Go.Proofs.YthlannjipbohkaaGreatDoor
/- A Dfa that Build has made: what its calls tell. -/
namespace Go.Proofs.YthlannjipbohkaaGreatDoor
set_option maxRecDepth 100000
set_option linter.unusedSimpArgs false
set_option linter.unusedVariables false
open Go.RowKit

theorem Left.below {W W' : World} {B bud n : Nat} (h : Left W W' B bud) (hn : n ≤ B) (hb : n ≤ bud) : Below n W W' :=
  ⟨h.os, h.tape, h.output, h.size, fun k hk => h.old k (by omega) (by omega)⟩
theorem sh_zero (t : Int) : sh 0 t = t := by unfold sh; split <;> omega
theorem yesB_null (S : List RE) (q : Int) : yesB (S.map RE.null) S.length q = yesN S q := by
  unfold yesB yesN
  by_cases h : 0 ≤ q ∧ q < S.length
  · have hq : q.toNat < S.length := by omega
    congr 1
    simp [List.getD_eq_getElem?_getD, hq]
  · rw [decide_eq_false h, Bool.false_and, Bool.false_and]
/-- A Dfa of an expression in memory. -/
structure DfaR (W : World) (p : Nat) (r : RE) (pl : List (BitVec 256)) (S : List RE) (rows : List (List Nat)) : Prop where
  at' : DfaAt W p (pl.map least) (idxF pl pl.length) rows (S.map RE.null) 0 (.slice none 0 0)
  ok : DfaOk r pl S rows
theorem DfaR.keep {W W' : World} {p : Nat} {r : RE} {pl : List (BitVec 256)} {S : List RE} {rows : List (List Nat)} (h : DfaR W p r pl S rows) (hb : Below W.heap.size W W') : DfaR W' p r pl S rows := ⟨h.at'.keep hb, h.ok⟩
theorem DfaOk.fit {r : RE} {pl : List (BitVec 256)} {S : List RE} {rows : List (List Nat)} (h : DfaOk r pl S rows) : ∀ b, b < 256 → ∀ q, q < rows.length → idxF pl pl.length b < (rows.getD q []).length := fun b hb q hq => by
  rw [(h.rows.2 q hq).len]
  simpa using (head_of h.part hb).1
theorem DfaR.len {W : World} {p : Nat} {r : RE} {pl : List (BitVec 256)} {S : List RE} {rows : List (List Nat)} (h : DfaR W p r pl S rows) :
    Calls Tryz.prog 101 #[PT p] W fun e w' => e = .returned (.int .i64 S.length) ∧ w' = W := by
  have := dlen_any p _ _ rows _ _ _ W h.at'
  rw [h.ok.len] at this
  exact this
theorem DfaR.run {W : World} {p : Nat} {r : RE} {pl : List (BitVec 256)} {S : List RE} {rows : List (List Nat)} (h : DfaR W p r pl S rows) (q : Int) (s : ByteArray) (hs : s.size ≤ maxLen) :
    Calls Tryz.prog 63 #[PT p, .int .i64 q, .string s] W fun e w' => e = .returned (.int .i64 (runN rows (idxF pl pl.length) q (bytesN s))) ∧ Below W.heap.size W w' :=
  drun_any p _ _ rows _ _ _ q s W h.at' h.ok.fit hs
theorem DfaR.match {W : World} {p : Nat} {r : RE} {pl : List (BitVec 256)} {S : List RE} {rows : List (List Nat)} (h : DfaR W p r pl S rows) (s : ByteArray) (hs : s.size ≤ maxLen) :
    Calls Tryz.prog 37 #[PT p, .string s] W fun e w' => ∃ b : Bool, e = .returned (.bool b) ∧ (b = true ↔ r.lang (bytesN s)) ∧ Below W.heap.size W w' := by
  refine (dmatch_any p _ _ rows _ _ _ s W h.at' h.ok.fit hs (by rw [List.length_map, h.ok.len])).mono ?_
  rintro e w' ⟨rfl, hb⟩
  refine ⟨_, rfl, ?_, hb⟩
  rw [h.ok.len, yesB_null]
  exact h.ok.match fun x hx => by
    obtain ⟨u, -, rfl⟩ := List.mem_map.1 hx
    exact u.toNat_lt
/-- Build, by a budget of which nothing was taken. -/
theorem build_new (r : RE) (b0 : Nat) (W : World) (h : ReAt W b0 r) (hw : Wf r) (bud : Nat) (g : Int) (hb : BudAt W bud g 0) (hg : 0 ≤ g) (hg2 : g < 1000000) (hT : TabAt W) :
    Calls Tryz.prog 21 #[PT b0, PT bud] W fun e W' => ∃ pl, pl.Perm (refL (r.sts false)) ∧ pl.Pairwise (fun x y => least x ≤ least y) ∧ Left W W' W.heap.size bud ∧
      (((bldF g (pl.map least) r 0).2 = none ∧ e = .returned (.tuple #[.pointer none, .int .i64 5]) ∧ BudAt W' bud g (bldF g (pl.map least) r 0).1.t ∧ BudOk g (bldF g (pl.map least) r 0).1.t) ∨
        ∃ s rows p, bldF g (pl.map least) r 0 = (s, some rows) ∧ e = .returned (.tuple #[PT p, .int .i64 0]) ∧ W.heap.size ≤ p ∧ DfaR W' p r pl s.S rows ∧ BudAt W' bud g s.t ∧ s.t = s.S.length) := by
  have hb' : BudAt W bud (g + 0) 0 := by rw [Int.add_zero]; exact hb
  refine (Build_any r b0 W h hw bud g 0 (Int.le_refl _) hb' hg hg2 hT).mono ?_
  rintro e W' ⟨pl, h1, h2, h3, h4, h5⟩
  rw [Int.add_zero, sh_zero] at h4
  refine ⟨pl, h1, h2, h3, ?_⟩
  rcases h5 with ⟨h5, rfl⟩ | ⟨rows, p, h5, rfl, h6, h7⟩
  · refine .inl ⟨h5, rfl, h4, ?_⟩
    cases e : bldF g (pl.map least) r 0 with
    | mk s o =>
      rw [e] at h5
      have h5 : o = none := h5
      subst h5
      exact bldF_fail hw hg e
  · refine .inr ⟨(bldF g (pl.map least) r 0).1, rows, p, ?_, rfl, h6, ⟨h7, ?_⟩, h4, ?_⟩
    · rw [← h5]
    · exact dfaOk hw hg ((isPart_ref (r.sts false)).perm h1) (by rw [← h5])
    · exact (bldF_ok hw hg (show bldF g (pl.map least) r 0 = ((bldF g (pl.map least) r 0).1, some rows) by rw [← h5])).1.t
end Go.Proofs.YthlannjipbohkaaGreatDoor
