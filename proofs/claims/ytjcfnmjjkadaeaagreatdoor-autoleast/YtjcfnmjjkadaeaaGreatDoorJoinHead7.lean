/- Texts of this claim put together: Head7M, Head7. -/
import Derived.Test.YtjcfnmjjkadaeaaGreatDoorJoinDfaJ
import Derived.Test.YtjcfnmjjkadaeaaGreatDoorJoinAuE
/- The document's example of layer 7: a* without (aa)*, and the other way about. Mathematics alone. -/
namespace Go.Proofs.YtjcfnmjjkadaeaaGreatDoor
set_option maxRecDepth 100000
set_option linter.unusedSimpArgs false
set_option linter.unusedVariables false

def s7L : RE := .mk 2 (setOf [97]) []
def s7W : RE := rWord [97, 97]
def s7A : RE := rMany (rWord [97])
def s7B : RE := rMany s7W
def s7X : RE := rThen [s7L, s7B]
theorem s7L_one : rLetter 97 = s7L := letter_mk 97 ne97
theorem s7L_wf : Wf s7L := l97_wf
theorem s7w1 : rWord [97] = s7L := by
  unfold rWord
  rw [List.map_cons, List.map_nil, s7L_one]
  exact thenW s7L_wf
theorem s7A_mk : s7A = .mk 5 0#256 [s7L] := by
  unfold s7A
  rw [s7w1]
  unfold rMany s7L
  simp [RE.op]
theorem s7W_mk : s7W = .mk 3 0#256 [s7L, s7L] := by
  unfold s7W rWord
  rw [List.map_cons, List.map_cons, List.map_nil, s7L_one]
  exact then_same (fun k hk => by simp at hk; subst hk; simp [s7L, RE.op]) (by simp)
theorem s7B_mk : s7B = .mk 5 0#256 [s7W] := by
  unfold s7B rMany
  rw [s7W_mk]
  simp [RE.op]
theorem s7X_mk : s7X = .mk 3 0#256 [s7L, s7B] := by
  unfold s7X
  exact then_same (fun k hk => by
    simp at hk
    rcases hk with rfl | rfl
    · simp [s7L, RE.op]
    · rw [s7B_mk]; simp [RE.op]) (by simp)
theorem s7W_wf : Wf s7W := by
  unfold s7W rWord
  refine wf_then fun x hx => ?_
  obtain ⟨c, -, rfl⟩ := List.mem_map.1 hx
  exact wf_one _
theorem s7A_wf : Wf s7A := by unfold s7A; rw [s7w1]; exact wf_many s7L_wf
theorem s7B_wf : Wf s7B := wf_many s7W_wf
theorem s7X_wf : Wf s7X := wf_then fun x hx => by
  simp at hx
  rcases hx with rfl | rfl
  · exact s7L_wf
  · exact s7B_wf
theorem by7L (b : Nat) : rBy b s7L = if (setOf [97]).getLsbD b then rEmpty else rNothing := by_2 b _ _
theorem eps_then {x : RE} (h : Wf x) : rThen [rEmpty, x] = x := by
  have h3 := then_group (a := []) (b := [x]) (by simp) (fun r hr => by simp at hr; subst hr; exact h)
  rw [then_nil, thenW h] at h3
  rw [h3, List.nil_append, thenW h]
theorem by7A (b : Nat) : rBy b s7A = if (setOf [97]).getLsbD b then s7A else rNothing := by
  have hw := s7A_wf
  rw [s7A_mk] at hw
  have e : rBy b s7A = rThen [rBy b s7L, s7A] := by
    rw [s7A_mk, by_5 b hw]
  rw [e, by7L]
  split
  · exact eps_then s7A_wf
  · exact then_none _
theorem by7W (b : Nat) : rBy b s7W = if (setOf [97]).getLsbD b then s7L else rNothing := by
  have hww := s7W_wf
  rw [s7W_mk] at hww
  have e : rBy b s7W = rThen [rBy b s7L, rThen [s7L]] := by
    rw [s7W_mk, by_3 b hww, show s7L.null = false from hd_null, if_neg (by simp)]
  rw [e, by7L, thenW s7L_wf]
  split
  · exact eps_then s7L_wf
  · exact then_none _
theorem by7B (b : Nat) : rBy b s7B = if (setOf [97]).getLsbD b then s7X else rNothing := by
  have hw := s7B_wf
  rw [s7B_mk] at hw
  have e : rBy b s7B = rThen [rBy b s7W, s7B] := by
    rw [s7B_mk, by_5 b hw]
  rw [e, by7W]
  split
  · rfl
  · exact then_none _
theorem by7X (b : Nat) : rBy b s7X = if (setOf [97]).getLsbD b then s7B else rNothing := by
  have hw := s7X_wf
  rw [s7X_mk] at hw
  have e : rBy b s7X = rThen [rBy b s7L, rThen [s7B]] := by
    rw [s7X_mk, by_3 b hw, show s7L.null = false from hd_null, if_neg (by simp)]
  rw [e, by7L, thenW s7B_wf]
  split
  · exact eps_then s7B_wf
  · exact then_none _
theorem op7A : s7A.op = 5 := by rw [s7A_mk]; rfl
theorem op7B : s7B.op = 5 := by rw [s7B_mk]; rfl
theorem op7X : s7X.op = 3 := by rw [s7X_mk]; rfl
/-- What is left of one without another. -/
theorem but_mk {x y : RE} (hx : x.op ≠ 0) (hx2 : x.op ≠ 2) (hy : y.op ≠ 0) (hk : x.key ≠ y.key) : rBut x y = .mk 7 0#256 [x, y] := by
  unfold rBut
  rw [if_neg (by omega), if_neg (by omega), if_neg (fun e => hk (lexN_zero _ _ e))]
theorem but_by {x y : RE} (wx : Wf x) (wy : Wf y) (hm : rBut x y = .mk 7 0#256 [x, y]) (b : Nat) : rBy b (rBut x y) = rBut (rBy b x) (rBy b y) := by
  have hw := wf_but wx wy
  rw [hm] at hw ⊢
  rw [by_467 b 7 (by omega) hw]
  rfl
theorem k7AB : s7A.key ≠ s7B.key := fun e => by
  have := key_inj s7A_wf.k s7B_wf.k e
  rw [s7A_mk, s7B_mk] at this
  injection this with _ _ h
  injection h with h
  have := congrArg RE.op h
  rw [s7W_mk] at this
  cases this
theorem k7AX : s7A.key ≠ s7X.key := keyOp (by rw [op7A, op7X]; omega)
theorem size7 {x y : RE} (hx : x.cnt ≤ 30) (hy : y.cnt ≤ 30) (hm : rBut x y = .mk 7 0#256 [x, y]) : (rBut x y).size ≤ 20000 := by
  have h : (rBut x y).cnt ≤ 100 := by
    rw [hm, RE.cnt_mk, cntL_cons, cntL_one]
    omega
  have := size_minD (rBut x y)
  omega
theorem c7L : s7L.cnt = 1 := by unfold s7L; rw [RE.cnt_mk]; rfl
theorem c7A : s7A.cnt ≤ 30 := by rw [s7A_mk, RE.cnt_mk, cntL_one, c7L]; omega
theorem c7B : s7B.cnt ≤ 20 := by rw [s7B_mk, RE.cnt_mk, cntL_one, s7W_mk, RE.cnt_mk, cntL_cons, cntL_one, c7L]; omega
theorem c7X : s7X.cnt ≤ 30 := by
  have := c7B
  rw [s7X_mk, RE.cnt_mk, cntL_cons, cntL_one, c7L]; omega
theorem but_no (y : RE) : rBut rNothing y = rNothing := by unfold rBut; rw [if_pos (.inl opN)]
/-- a* without (aa)*: three states at most. -/
theorem fits7 : FitsL 100 [rBut s7A s7B, rBut s7A s7X, rNothing] := by
  have m1 := but_mk (x := s7A) (y := s7B) (by rw [op7A]; omega) (by rw [op7A]; omega) (by rw [op7B]; omega) k7AB
  have m2 := but_mk (x := s7A) (y := s7X) (by rw [op7A]; omega) (by rw [op7A]; omega) (by rw [op7X]; omega) k7AX
  have cb := c7B
  refine ⟨by simp, fun x hx => ?_, fun x hx => ?_, fun x hx b => ?_⟩
  · simp only [List.mem_cons, List.mem_nil_iff, or_false] at hx
    rcases hx with rfl | rfl | rfl
    · exact wf_but s7A_wf s7B_wf
    · exact wf_but s7A_wf s7X_wf
    · exact wf_nothing
  · simp only [List.mem_cons, List.mem_nil_iff, or_false] at hx
    rcases hx with rfl | rfl | rfl
    · exact size7 c7A (by omega) m1
    · exact size7 c7A c7X m2
    · exact hdN_size
  · simp only [List.mem_cons, List.mem_nil_iff, or_false] at hx ⊢
    rcases hx with rfl | rfl | rfl
    · rw [but_by s7A_wf s7B_wf m1, by7A, by7B]
      split
      · exact .inr (.inl rfl)
      · exact .inr (.inr (but_no _))
    · rw [but_by s7A_wf s7X_wf m2, by7A, by7X]
      split
      · exact .inl rfl
      · exact .inr (.inr (but_no _))
    · exact .inr (.inr (byN b))
theorem fits7b : FitsL 100 [rBut s7B s7A, rBut s7X s7A, rNothing] := by
  have m1 := but_mk (x := s7B) (y := s7A) (by rw [op7B]; omega) (by rw [op7B]; omega) (by rw [op7A]; omega) (Ne.symm k7AB)
  have m2 := but_mk (x := s7X) (y := s7A) (by rw [op7X]; omega) (by rw [op7X]; omega) (by rw [op7A]; omega) (Ne.symm k7AX)
  have cb := c7B
  refine ⟨by simp, fun x hx => ?_, fun x hx => ?_, fun x hx b => ?_⟩
  · simp only [List.mem_cons, List.mem_nil_iff, or_false] at hx
    rcases hx with rfl | rfl | rfl
    · exact wf_but s7B_wf s7A_wf
    · exact wf_but s7X_wf s7A_wf
    · exact wf_nothing
  · simp only [List.mem_cons, List.mem_nil_iff, or_false] at hx
    rcases hx with rfl | rfl | rfl
    · exact size7 (by omega) c7A m1
    · exact size7 c7X c7A m2
    · exact hdN_size
  · simp only [List.mem_cons, List.mem_nil_iff, or_false] at hx ⊢
    rcases hx with rfl | rfl | rfl
    · rw [but_by s7B_wf s7A_wf m1, by7A, by7B]
      split
      · exact .inr (.inl rfl)
      · exact .inr (.inr (but_no _))
    · rw [but_by s7X_wf s7A_wf m2, by7A, by7X]
      split
      · exact .inl rfl
      · exact .inr (.inr (but_no _))
    · exact .inr (.inr (byN b))
/-- The letters' texts. -/
theorem lang7L (t : List Nat) : s7L.lang t ↔ t = [97] := by
  rw [← s7w1]; exact lang_word [97] t (fun x hx => by simp at hx; omega)
theorem lang7W (t : List Nat) : s7W.lang t ↔ t = [97, 97] := lang_word [97, 97] t (fun x hx => by simp at hx; omega)
end Go.Proofs.YtjcfnmjjkadaeaaGreatDoor
/- The document's example, as layer 7 asks it first. -/
namespace Go.Proofs.YtjcfnmjjkadaeaaGreatDoor
set_option maxRecDepth 100000
set_option linter.unusedSimpArgs false
set_option linter.unusedVariables false
open Go.RowKit Go.Shelf

theorem star7L {t : List Nat} (h : starG s7L.lang t) : ∀ x ∈ t, x = 97 := by
  induction h with
  | nil => intro x hx; simp at hx
  | cons u v h0 h1 h2 ih =>
    have h3 := (lang7L u).1 h1
    intro x hx
    rcases List.mem_append.1 hx with hx | hx
    · rw [h3] at hx; simpa using hx
    · exact ih x hx
theorem star7W {t : List Nat} (h : starG s7W.lang t) : 2 ∣ t.length ∧ ∀ x ∈ t, x = 97 := by
  induction h with
  | nil => simp
  | cons u v h0 h1 h2 ih =>
    have h3 := (lang7W u).1 h1
    refine ⟨?_, fun x hx => ?_⟩
    · have := ih.1
      rw [List.length_append, h3]
      simp only [List.length_cons, List.length_nil]
      omega
    · rcases List.mem_append.1 hx with hx | hx
      · rw [h3] at hx; simpa using hx
      · exact ih.2 x hx
theorem star7_all : ∀ t : List Nat, (∀ x ∈ t, x = 97) → starG s7L.lang t
  | [], _ => .nil
  | x :: t, h => by
    have hx := h x (by simp)
    subst hx
    exact .cons [97] t (by simp) ((lang7L _).2 rfl) (star7_all t fun y hy => h y (by simp [hy]))
theorem lang7A (t : List Nat) : s7A.lang t ↔ starG s7L.lang t := by unfold s7A; rw [s7w1]; exact lang_many _ _
theorem lang7B (t : List Nat) : s7B.lang t ↔ starG s7W.lang t := lang_many _ _
/-- The least text of a* that is none of (aa)*. -/
theorem least7 {w : List Nat} (h : (rBut s7A s7B).lang w) (hl : ∀ u, By u → (rBut s7A s7B).lang u → leW w u) : w = [97] := by
  rw [lang_but s7A_wf s7B_wf, lang7A, lang7B] at h
  have ha : (rBut s7A s7B).lang [97] := by
    rw [lang_but s7A_wf s7B_wf, lang7A, lang7B]
    exact ⟨star7_all _ (by simp), fun e => by have := (star7W e).1; simp at this⟩
  have h1 := hl [97] (by_small _ rfl) ha
  match w with
  | [] => exact absurd .nil h.2
  | [x] => rw [star7L h.1 x (by simp)]
  | x :: y :: w => unfold leW at h1; simp at h1
theorem none7 (u : List Nat) : ¬ (rBut s7B s7A).lang u := by
  rw [lang_but s7B_wf s7A_wf, lang7A, lang7B]
  exact fun h => h.2 (star7_all u (star7W h.1).2)
set_option maxHeartbeats 2000000 in
theorem head7_any (w : World) (hT : TabAt w) :
    Calls Tryz.prog 19 #[] w fun e w' => e = .returned (.bool true) ∧ Below w.heap.size w w' := by
  have HT := hide hT
  clear hT
  go_enter Tryz.func19, Tryz.ntmps19
  go_wp2_with fail
  refine (word_any ⟨#[97]⟩ w (by decide) (FL.none _)).mono ?_
  rintro e w1 ⟨wb, rfl, h1, hb1⟩
  rw [show bytesN ⟨#[97]⟩ = [97] from rfl] at h1
  have HB1 := hide hb1
  have HC := hide (many_any wb (rWord [97]) w1 h1)
  rw [show rMany (rWord [97]) = s7A from rfl] at HC
  clear h1 hb1
  go_wp2_with fail
  refine HC.out.mono ?_
  rintro e w2 ⟨a, rfl, h2, hb2⟩
  have HB2 : Hid (Below w.heap.size w w2) := HB1.out.trans (hb2.mono HB1.out.size)
  have HA := hide h2
  clear h2 hb2 HC HB1
  go_wp2_with fail
  refine (word_any ⟨#[97, 97]⟩ w2 (by decide) (FL.none _)).mono ?_
  rintro e w3 ⟨wb2, rfl, h3, hb3⟩
  rw [show bytesN ⟨#[97, 97]⟩ = [97, 97] from rfl, show rWord [97, 97] = s7W from rfl] at h3
  have HB3 : Hid (Below w.heap.size w w3) := HB2.out.trans (hb3.mono HB2.out.size)
  have HA3 := hide (HA.out.keep hb3)
  have HC := hide (many_any wb2 s7W w3 h3)
  rw [show rMany s7W = s7B from rfl] at HC
  clear h3 hb3 HB2 HA
  go_wp2_with fail
  refine HC.out.mono ?_
  rintro e w4 ⟨b, rfl, h4, hb4⟩
  have HB4 : Hid (Below w.heap.size w w4) := HB3.out.trans (hb4.mono HB3.out.size)
  have HA4 := hide (HA3.out.keep hb4)
  have HQ := hide h4
  clear h4 hb4 HC HB3 HA3
  have hm : max (100 : Int) 0 = 100 := by omega
  go_wp2_with fail
  refine (grant_any 100 w4 (by omega)).mono ?_
  rintro e w5 ⟨bud, rfl, hbd, hbl, hb5⟩
  rw [hm] at hbd
  have HB5 : Hid (Below w.heap.size w w5) := HB4.out.trans (hb5.mono HB4.out.size)
  have HO := hide (outside_new s7A s7B a b w5 (HA4.out.keep hb5) (HQ.out.keep hb5) s7A_wf s7B_wf bud 100 hbd (by omega) (by omega) (HT.out.agree (Agree.of_all (K := fun _ => True) HB5.out) trivial))
  have h45 := hb5.size
  clear hbd
  unfold PT at HO
  go_wp2_with fail
  refine HO.out.mono ?_
  rintro e w6 ⟨hp, hf⟩
  have hf2 := hf w4.heap.size h45 hbl
  have HB6 : Hid (Below w.heap.size w w6) := HB4.out.trans ((hb5.trans hf2).mono HB4.out.size)
  have HA6 := hide (HA4.out.keep (hb5.trans hf2))
  have HQ6 := hide (HQ.out.keep (hb5.trans hf2))
  rcases hp.fits fits7 (by omega) (by simp) with ⟨u, u1, u2, u3, rfl⟩ | ⟨u1, -⟩
  case inr =>
    have h9 : (rBut s7A s7B).lang [97] := by
      rw [lang_but s7A_wf s7B_wf, lang7A, lang7B]
      exact ⟨star7_all _ (by simp), fun e => by have := (star7W e).1; simp at this⟩
    exact absurd h9 (u1 [97] (by_small _ rfl))
  obtain rfl := least7 u2 u3
  rw [show strB [97] = ⟨#[97]⟩ from rfl]
  clear HO hp hf hf2 hb5 h45 hbl u1 u2 u3 HB4 HB5 HA4 HQ
  go_wp2_with fail
  refine (grant_any 100 w6 (by omega)).mono ?_
  rintro e w7 ⟨bud2, rfl, hbd, hbl, hb7⟩
  rw [hm] at hbd
  have HB7 : Hid (Below w.heap.size w w7) := HB6.out.trans (hb7.mono HB6.out.size)
  have HO := hide (outside_new s7B s7A b a w7 (HQ6.out.keep hb7) (HA6.out.keep hb7) s7B_wf s7A_wf bud2 100 hbd (by omega) (by omega) (HT.out.agree (Agree.of_all (K := fun _ => True) HB7.out) trivial))
  have h67 := hb7.size
  clear hbd
  unfold PT at HO
  go_wp2_with fail
  refine HO.out.mono ?_
  rintro e w8 ⟨hp, hf⟩
  have HB8 : Hid (Below w.heap.size w w8) := HB6.out.trans ((hb7.trans (hf w6.heap.size h67 hbl)).mono HB6.out.size)
  rcases hp.fits fits7b (by omega) (by simp) with ⟨u, u1, u2, u3, rfl⟩ | ⟨-, rfl⟩
  · exact absurd u2 (none7 u)
  clear HO hp hf hb7 h67 hbl HB6 HB7 HA6 HQ6
  go_wp2
  go_ret
  exact ⟨rfl, HB8.out⟩
end Go.Proofs.YtjcfnmjjkadaeaaGreatDoor
