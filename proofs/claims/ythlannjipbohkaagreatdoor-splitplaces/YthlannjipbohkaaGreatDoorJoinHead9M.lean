/- Texts of this claim put together: MathFit, MathBk, SpA, SpB, SpC, Head9M. -/
import Derived.Test.YthlannjipbohkaaGreatDoorJoinMathDfa
import Derived.Test.YthlannjipbohkaaGreatDoorJoinMathDfa4
import Derived.Test.YthlannjipbohkaaGreatDoorJoinDvC
import Derived.Test.YthlannjipbohkaaGreatDoorJoinBudA
import Derived.Test.YthlannjipbohkaaGreatDoorJoinMathRow
import Derived.Shelf.Lay
import Derived.Shelf.LaySoft
import Derived.Ground.SlgnProg
import Derived.Shelf.SlicesE.Reverse
import Derived.Test.YthlannjipbohkaaGreatDoorJoinDfaJ
/- Build does not fail where all that stands behind bytes lies in a short list. Mathematics alone. -/
namespace Go.Proofs.YthlannjipbohkaaGreatDoor
set_option maxRecDepth 100000
set_option linter.unusedSimpArgs false
set_option linter.unusedVariables false

theorem pigeon : ∀ (l L : List (List Nat)), l.Nodup → (∀ x ∈ l, x ∈ L) → l.length ≤ L.length
  | [], _, _, _ => Nat.zero_le _
  | x :: l, L, hn, hs => by
    obtain ⟨h1, h2⟩ := List.nodup_cons.1 hn
    have hx := hs x (by simp)
    have h3 := pigeon l (L.erase x) h2 fun y hy => (List.mem_erase_of_ne (fun (e : y = x) => h1 (by rw [← e]; exact hy))).2 (hs y (by simp [hy]))
    have h4 := List.length_erase_of_mem hx
    have h5 := List.length_pos_of_mem hx
    rw [List.length_cons]
    omega
/-- A short list that holds an expression and all that stands behind bytes. -/
structure FitsL (g : Int) (L : List RE) : Prop where
  len : (L.length : Int) ≤ g
  wf : ∀ x ∈ L, Wf x
  low : ∀ x ∈ L, x.size ≤ 20000
  by' : ∀ x ∈ L, ∀ b, rBy b x ∈ L
theorem fnd_fits {g : Int} {L : List RE} (hL : FitsL g L) {s : Bs} (hok : BsOk g s) (hS : ∀ y ∈ s.S, y ∈ L) {x : RE} (hx : x ∈ L) : ∃ s1 q, fnd g s x = (s1, some q) ∧ BsOk g s1 ∧ ∀ y ∈ s1.S, y ∈ L := by
  have hlow := hL.low x hx
  cases hp : posL x s.S with
  | some q =>
    refine ⟨s, q, ?_, hok, hS⟩
    unfold fnd
    rw [if_neg (by omega), hp]
  | none =>
    have hS2 : ∀ y ∈ s.S ++ [x], y ∈ L := fun y hy => by
      rcases List.mem_append.1 hy with hy | hy
      · exact hS y hy
      · rcases List.mem_singleton.1 hy with rfl; exact hx
    have hn : ((s.S ++ [x]).map RE.key).Nodup := by
      rw [List.Nodup, List.pairwise_map, List.pairwise_append]
      refine ⟨hok.apart, by simp, fun a ha b hb => ?_⟩
      rcases List.mem_singleton.1 hb with rfl
      exact posL_none hp a ha
    have h1 := pigeon _ (L.map RE.key) hn fun k hk => by
      obtain ⟨y, hy, rfl⟩ := List.mem_map.1 hk
      exact List.mem_map.2 ⟨y, hS2 y hy, rfl⟩
    simp only [List.length_map, List.length_append, List.length_cons, List.length_nil] at h1
    have ht := hok.t
    have hg := hL.len
    have e : aft g s.t 1 = (s.t + 1, true) := by unfold aft; rw [if_neg (by omega), if_neg (by omega), if_neg (by omega)]
    have hf : fnd g s x = (⟨s.S ++ [x], s.t + 1⟩, some s.S.length) := by
      unfold fnd
      rw [if_neg (by omega), hp, e]
      simp
    exact ⟨_, _, hf, (fnd_ok hok (hL.wf x hx) hf).1, hS2⟩
theorem rowA_fits {g : Int} {L : List RE} (hL : FitsL g L) {x : RE} (hx : x ∈ L) : ∀ (hs : List Nat) (s : Bs) (acc : List Nat), BsOk g s → (∀ y ∈ s.S, y ∈ L) → ∃ s1 row, rowA g x hs s acc = (s1, some row) ∧ BsOk g s1 ∧ (∀ y ∈ s1.S, y ∈ L) ∧ s.S.length ≤ s1.S.length
  | [], s, acc, hok, hS => ⟨s, acc, rfl, hok, hS, Nat.le_refl _⟩
  | b :: hs, s, acc, hok, hS => by
    obtain ⟨s1, q, h1, h2, h3⟩ := fnd_fits hL hok hS (hL.by' x hx b)
    obtain ⟨s2, row, h4, h5, h6, h7⟩ := rowA_fits hL hx hs s1 (acc ++ [q]) h2 h3
    refine ⟨s2, row, ?_, h5, h6, Nat.le_trans (fnd_ok hok (hL.wf _ (hL.by' x hx b)) h1).2.1.len h7⟩
    rw [rowA, h1]
    exact h4
theorem len_fits {g : Int} {L : List RE} (hL : FitsL g L) {s : Bs} (hok : BsOk g s) (hS : ∀ y ∈ s.S, y ∈ L) : (s.S.length : Int) ≤ g := by
  have := hok.t
  have := hok.g
  omega
theorem bldA_fits {g : Int} {L : List RE} (hL : FitsL g L) (hs : List Nat) : ∀ (n : Nat) (s : Bs) (rows : List (List Nat)), BsOk g s → (∀ y ∈ s.S, y ∈ L) → rows.length ≤ s.S.length → g < n + rows.length → ∃ s1 rows1, bldA g hs n s rows = (s1, some rows1)
  | 0, s, rows, hok, hS, hr, hn => by
    have := len_fits hL hok hS
    omega
  | n + 1, s, rows, hok, hS, hr, hn => by
    rw [bldA]
    by_cases hlt : rows.length < s.S.length
    · rw [if_pos hlt]
      have hm : s.S.getD rows.length rNothing ∈ L := by
        rw [List.getD_eq_getElem?_getD, List.getElem?_eq_getElem hlt]
        exact hS _ (List.getElem_mem hlt)
      obtain ⟨s1, row, h1, h2, h3, h4⟩ := rowA_fits hL hm hs s [] hok hS
      rw [h1]
      exact bldA_fits hL hs n s1 (rows ++ [row]) h2 h3 (by simp; omega) (by simp; omega)
    · rw [if_neg hlt]
      exact ⟨_, _, rfl⟩
theorem bldF_fits {g : Int} {L : List RE} (hL : FitsL g L) (hg : 0 ≤ g) (hs : List Nat) {r : RE} (hr : r ∈ L) : ∃ s rows, bldF g hs r 0 = (s, some rows) := by
  have h0 : BsOk g ⟨[], 0⟩ := ⟨by simp, by simp, by simp, rfl, hg⟩
  obtain ⟨s1, q, h1, h2, h3⟩ := fnd_fits hL h0 (by simp) hr
  unfold bldF
  rw [h1]
  exact bldA_fits hL hs _ s1 [] h2 h3 (Nat.zero_le _) (by simp; omega)
end Go.Proofs.YthlannjipbohkaaGreatDoor
/- An expression read from its end: its texts are the texts read from their ends. -/
namespace Go.Proofs.YthlannjipbohkaaGreatDoor
set_option maxRecDepth 100000
set_option linter.unusedSimpArgs false
set_option linter.unusedVariables false

/-- What stands in the kids' places. -/
def bkL (o : Nat) (l : List RE) : List RE := if o = 3 then l.reverse else l
def RE.back : RE → RE
  | .mk o s ks => rWith (.mk o s ks) (bkL o (ks.map fun k => k.back))
theorem RE.back_mk (o : Nat) (s : BitVec 256) (ks : List RE) : (RE.mk o s ks).back = rWith (.mk o s ks) (bkL o (ks.map RE.back)) := by rw [RE.back]
theorem mem_bkL {o : Nat} {l : List RE} {x : RE} : x ∈ bkL o l ↔ x ∈ l := by unfold bkL; split <;> simp
theorem bkL_length (o : Nat) (l : List RE) : (bkL o l).length = l.length := by unfold bkL; split <;> simp
theorem cntL_reverse (l : List RE) : cntL l.reverse = cntL l := by
  induction l with
  | nil => rfl
  | cons x r ih => rw [List.reverse_cons, cntL_append, ih, cntL_cons, cntL_cons]; simp [cntL]; omega
theorem cntL_bkL (o : Nat) (l : List RE) : cntL (bkL o l) = cntL l := by
  unfold bkL
  split
  · exact cntL_reverse l
  · rfl
theorem back_wf (r : RE) : Wf r → Wf r.back := by
  refine RE.ind (P := fun r => Wf r → Wf r.back) ?_ r
  intro o s ks ih hw
  rw [RE.back_mk]
  refine wf_with hw fun x hx => ?_
  obtain ⟨k, hk, rfl⟩ := List.mem_map.1 (mem_bkL.1 hx)
  exact ih k hk (hw.kid k hk)
theorem cnt_withB (r : RE) (l : List RE) (hl : l.length = r.kids.length) (h5 : r.op = 5 → r.kids.length = 1) (h7 : r.op = 7 → r.kids.length = 2) (h0 : r.op = 0 ∨ r.op = 1 ∨ r.op = 2 → r.kids = []) (ho : r.op ≤ 7) : (rWith r l).cnt ≤ 2 + cntL l := by
  unfold rWith
  split
  · have := cnt_then l; omega
  split
  · exact cnt_any l
  split
  · exact cnt_both l
  split
  · rename_i h
    obtain ⟨x, rfl⟩ := List.length_eq_one_iff.1 h.2
    have := cnt_many x
    have e : cntL [x] = x.cnt := by simp [cntL]
    rw [e]
    show (rMany x).cnt ≤ _
    omega
  split
  · rename_i h
    obtain ⟨x, y, rfl⟩ : ∃ x y, l = [x, y] := by
      match l, h.2 with
      | [x, y], _ => exact ⟨x, y, rfl⟩
    have := cnt_but x y
    have e : cntL [x, y] = x.cnt + y.cnt := by simp [cntL]
    rw [e]
    show (rBut x y).cnt ≤ _
    omega
  rename_i a3 a4 a6 a5 a7
  have h2 : r.kids = [] := by
    refine h0 ?_
    by_cases e5 : r.op = 5
    · exact absurd ⟨e5, by rw [hl]; exact h5 e5⟩ a5
    by_cases e7 : r.op = 7
    · exact absurd ⟨e7, by rw [hl]; exact h7 e7⟩ a7
    omega
  rw [RE.cnt_kids, h2]
  have : cntL [] = 0 := rfl
  omega
theorem back_cnt (r : RE) : Wf r → r.back.cnt ≤ 2 * r.cnt := by
  refine RE.ind (P := fun r => Wf r → r.back.cnt ≤ 2 * r.cnt) ?_ r
  intro o s ks ih hw
  have hs := hw.shp
  rw [RE.back_mk, RE.cnt_mk]
  have h1 := cnt_withB (.mk o s ks) (bkL o (ks.map RE.back)) (by rw [bkL_length, List.length_map]; rfl) (fun h => by obtain ⟨k, e, -⟩ := hs.star h; rw [e]; rfl) (fun h => by obtain ⟨a, b, e, -⟩ := hs.minus h; rw [e]; rfl) (fun h => by
    rcases h with h | h | h
    · exact hs.leaf (.inl h)
    · exact hs.leaf (.inr h)
    · exact (hs.cls h).1) hs.op
  rw [cntL_bkL] at h1
  have h2 : cntL (ks.map RE.back) ≤ 2 * cntL ks := by
    have hk : ∀ k ∈ ks, k.back.cnt ≤ 2 * k.cnt := fun k hk => ih k hk (hw.kid k hk)
    clear ih hw hs h1
    induction ks with
    | nil => exact Nat.le_refl _
    | cons x r ih =>
      rw [List.map_cons, cntL_cons, cntL_cons]
      have := ih fun k hk' => hk k (by simp [hk'])
      have := hk x (by simp)
      omega
  omega
theorem By.rev {t : List Nat} (h : By t) : By t.reverse := fun x hx => h x (List.mem_reverse.1 hx)
theorem catG_rev (f g : RE → Lg) : ∀ (l : List RE), (∀ r ∈ l, ∀ u, By u → (g r u ↔ f r u.reverse)) → ∀ t, By t → (catG (l.map g).reverse t ↔ catG (l.map f) t.reverse) := by
  intro l
  induction l with
  | nil => intro _ t _; show t = [] ↔ t.reverse = []; rw [List.reverse_eq_nil_iff]
  | cons x r ih =>
    intro h t ht
    rw [List.map_cons, List.reverse_cons, catG_append, List.map_cons]
    have ih := ih fun y hy => h y (by simp [hy])
    constructor
    · rintro ⟨u, v, rfl, h1, v1, v2, rfl, h3, h4⟩
      obtain rfl : v2 = [] := h4
      rw [List.append_nil] at ht ⊢
      exact ⟨v1.reverse, u.reverse, by simp, (h x (by simp) v1 ht.right).1 h3, (ih u ht.left).1 h1⟩
    · rintro ⟨u, v, e, h1, h2⟩
      have e2 : t = v.reverse ++ u.reverse := by rw [← List.reverse_reverse t, e, List.reverse_append]
      rw [e2] at ht
      refine ⟨v.reverse, u.reverse, e2, (ih _ ht.left).2 (by rw [List.reverse_reverse]; exact h2), u.reverse, [], by simp, (h x (by simp) _ ht.right).2 (by rw [List.reverse_reverse]; exact h1), rfl⟩
theorem starG_append {l : Lg} {u v : List Nat} (hu : starG l u) (hv : starG l v) : starG l (u ++ v) := by
  induction hu with
  | nil => exact hv
  | cons a b h1 h2 _ ih => rw [List.append_assoc]; exact .cons a _ h1 h2 ih
theorem starG_rev {f g : Lg} (h : ∀ u, By u → g u → f u.reverse) {t : List Nat} (hs : starG g t) : By t → starG f t.reverse := by
  induction hs with
  | nil => intro _; exact .nil
  | cons a b h1 h2 _ ih =>
    intro hb
    rw [List.reverse_append]
    refine starG_append (ih hb.right) ?_
    have := h a hb.left h2
    have h3 := starG.cons (l := f) a.reverse [] (by simpa using h1) this .nil
    rwa [List.append_nil] at h3
theorem with_leaf {o : Nat} (s : BitVec 256) (ks l : List RE) (h : o = 0 ∨ o = 1 ∨ o = 2) : rWith (.mk o s ks) l = .mk o s ks := by
  rcases h with rfl | rfl | rfl <;> rfl
theorem with_3 (s : BitVec 256) (ks l : List RE) : rWith (.mk 3 s ks) l = rThen l := rfl
theorem with_4 (s : BitVec 256) (ks l : List RE) : rWith (.mk 4 s ks) l = rAny l := rfl
theorem with_6 (s : BitVec 256) (ks l : List RE) : rWith (.mk 6 s ks) l = rBoth l := rfl
theorem with_5 (s : BitVec 256) (ks : List RE) (x : RE) : rWith (.mk 5 s ks) [x] = rMany x := rfl
theorem with_7 (s : BitVec 256) (ks : List RE) (x y : RE) : rWith (.mk 7 s ks) [x, y] = rBut x y := rfl
theorem back_lang (r : RE) : Wf r → ∀ t, By t → (r.back.lang t ↔ r.lang t.reverse) := by
  refine RE.ind (P := fun r => Wf r → ∀ t, By t → (r.back.lang t ↔ r.lang t.reverse)) ?_ r
  intro o s ks ih hw t ht
  have hs := hw.shp
  have hk : ∀ k ∈ ks, Wf k := hw.kid
  have hi : ∀ k ∈ ks, ∀ u, By u → (k.back.lang u ↔ k.lang u.reverse) := fun k hk' => ih k hk' (hk k hk')
  have hb : ∀ x ∈ ks.map RE.back, Wf x := fun x hx => by
    obtain ⟨k, hk', rfl⟩ := List.mem_map.1 hx
    exact back_wf k (hk k hk')
  simp only [RE.op, RE.set, RE.kids] at hs
  have hsop := hs.op
  rw [RE.back_mk]
  obtain h | h | h | h | h | h | h | h : o = 0 ∨ o = 1 ∨ o = 2 ∨ o = 3 ∨ o = 4 ∨ o = 5 ∨ o = 6 ∨ o = 7 := by omega
  all_goals subst h
  · rw [with_leaf s ks _ (.inl rfl)]
    exact iff_of_false (lang0 rfl t) (lang0 rfl t.reverse)
  · rw [with_leaf s ks _ (.inr (.inl rfl)), lang1 rfl, lang1 rfl, List.reverse_eq_nil_iff]
  · rw [with_leaf s ks _ (.inr (.inr rfl)), lang2 rfl, lang2 rfl]
    constructor
    · rintro ⟨x, rfl, h⟩; exact ⟨x, rfl, h⟩
    · rintro ⟨x, e, h⟩
      exact ⟨x, by rw [← List.reverse_reverse t, e]; rfl, h⟩
  · rw [with_3, lang_then, lang3 rfl]
    show catG ((bkL 3 (ks.map RE.back)).map RE.lang) t ↔ catG (ks.map RE.lang) t.reverse
    unfold bkL
    rw [if_pos rfl, List.map_reverse, List.map_map]
    exact catG_rev RE.lang (RE.lang ∘ RE.back) ks (fun r hr u hu => hi r hr u hu) t ht
  · rw [with_4, show bkL 4 (ks.map RE.back) = ks.map RE.back from rfl, lang_any hb, lang4 rfl]
    show _ ↔ ∃ k ∈ ks, k.lang t.reverse
    constructor
    · rintro ⟨r, hr, h⟩
      obtain ⟨k, hk', rfl⟩ := List.mem_map.1 hr
      exact ⟨k, hk', (hi k hk' t ht).1 h⟩
    · rintro ⟨k, hk', h⟩
      exact ⟨_, List.mem_map.2 ⟨k, hk', rfl⟩, (hi k hk' t ht).2 h⟩
  · obtain ⟨k, rfl, -⟩ := hs.star rfl
    rw [show bkL 5 ([k].map RE.back) = [k.back] from rfl, with_5, lang_many, lang5 rfl]
    show starG k.back.lang t ↔ (t.reverse = [] ∨ ∃ l, [k.lang] = [l] ∧ starG l t.reverse)
    constructor
    · intro h
      exact .inr ⟨_, rfl, starG_rev (fun u hu h => (hi k (by simp) u hu).1 h) h ht⟩
    · rintro (h | ⟨l, e, h⟩)
      · rw [List.reverse_eq_nil_iff] at h; subst h; exact .nil
      · injection e with e; subst e
        have := starG_rev (f := k.back.lang) (fun u hu h => (hi k (by simp) u.reverse hu.rev).2 (by rw [List.reverse_reverse]; exact h)) h ht.rev
        rwa [List.reverse_reverse] at this
  · rw [with_6, show bkL 6 (ks.map RE.back) = ks.map RE.back from rfl, lang_both hb t ht, lang6 rfl]
    show _ ↔ ∀ k ∈ ks, k.lang t.reverse
    constructor
    · intro h k hk'
      exact (hi k hk' t ht).1 (h _ (List.mem_map.2 ⟨k, hk', rfl⟩))
    · intro h r hr
      obtain ⟨k, hk', rfl⟩ := List.mem_map.1 hr
      exact (hi k hk' t ht).2 (h k hk')
  · obtain ⟨x, y, rfl, -⟩ := hs.minus rfl
    rw [show bkL 7 ([x, y].map RE.back) = [x.back, y.back] from rfl, with_7, lang_but (hb _ (by simp)) (hb _ (by simp)), hi x (by simp) t ht, hi y (by simp) t ht, lang7 (r := .mk 7 s [x, y]) rfl]
    show _ ↔ ∃ a b, [x.lang, y.lang] = [a, b] ∧ a t.reverse ∧ ¬ b t.reverse
    constructor
    · intro h; exact ⟨_, _, rfl, h⟩
    · rintro ⟨a, b, e, h⟩
      injection e with e1 e2; injection e2 with e2; subst e1 e2; exact h
end Go.Proofs.YthlannjipbohkaaGreatDoor
/- split's fuel: Fill, Burn, Used, steps. -/
namespace Go.Proofs.YthlannjipbohkaaGreatDoor
set_option maxRecDepth 100000
set_option linter.unusedSimpArgs false
set_option linter.unusedVariables false
open Go.RowKit

/-- So many steps are left, so many were done. -/
structure FuelAt (w : World) (b : Nat) (left used : Nat) : Prop where
  blk : Blk w b #[.int .i64 left, .int .i64 used] 79
  most : left + used ≤ 9223372036854775807
theorem FuelAt.below {w w' : World} {b B l u : Nat} (h : FuelAt w b l u) (hb : Below B w w') (hB : b < B) : FuelAt w' b l u := ⟨h.blk.below hb hB, h.most⟩
theorem fill_any (n : Nat) (w : World) (hn : n ≤ 9223372036854775807) :
    Calls Tryz.prog 11 #[.int .i64 n] w fun e w' => ∃ b, e = .returned (PT b) ∧ FuelAt w' b n 0 ∧ b = w.heap.size ∧ Below w.heap.size w w' := by
  go_enter Tryz.func11, Tryz.ntmps11
  go_wp2
  all_goals go_ret
  all_goals refine ⟨w.heap.size, rfl, ⟨?_, by omega⟩, rfl, (Below.refl _ _).alloc (Nat.le_refl _) _⟩
  all_goals exact Blk.new _ _ _
/-- What is burnt: as much as there is, and no more. -/
def burnL (left : Nat) (n : Int) : Nat := if 0 ≤ n ∧ n ≤ left then left - n.toNat else 0
def burnU (left used : Nat) (n : Int) : Nat := if 0 ≤ n ∧ n ≤ left then used + n.toNat else used
def burnE (left : Nat) (n : Int) : Int := if 0 ≤ n ∧ n ≤ left then 0 else 31
theorem burn_any (b left used : Nat) (n : Int) (w : World) (h : FuelAt w b left used) (hn : -9223372036854775808 ≤ n ∧ n ≤ 9223372036854775807) :
    Calls Tryz.prog 17 #[PT b, .int .i64 n] w fun e w' => e = .returned (.int .i64 (burnE left n)) ∧ FuelAt w' b (burnL left n) (burnU left used n) ∧ (∀ B, B ≤ b → Below B w w') ∧ w'.heap.size = w.heap.size := by
  have c0 := h.blk.cell 0; have c1 := h.blk.cell 1
  have f0 := h.blk.frozen 0; have f1 := h.blk.frozen 1
  simp only [List.getElem?_toArray, List.getElem?_cons_zero, List.getElem?_cons_succ] at c0 c1
  have H := hide h
  have hmost := h.most
  clear h
  unfold PT
  go_enter Tryz.func17, Tryz.ntmps17
  by_cases h0 : n < 0
  · have d0 : decide (n < 0) = true := by simp [h0]
    have e1 : burnE left n = 31 := by unfold burnE; rw [if_neg (by omega)]
    have e2 : burnL left n = 0 := by unfold burnL; rw [if_neg (by omega)]
    have e3 : burnU left used n = used := by unfold burnU; rw [if_neg (by omega)]
    rw [e1, e2, e3]
    clear e1 e2 e3
    go_wp2
    go_ret
    refine ⟨rfl, ⟨?_, by omega⟩, fun B hB => (Below.refl _ _).setCell hB _, by simp [World.setCell]⟩
    exact H.out.blk.set 0 _
  · have d0 : decide (n < 0) = false := by simp; omega
    by_cases h1 : (left : Int) < n
    · have d1 : decide ((left : Int) < n) = true := by simp [h1]
      have e1 : burnE left n = 31 := by unfold burnE; rw [if_neg (by omega)]
      have e2 : burnL left n = 0 := by unfold burnL; rw [if_neg (by omega)]
      have e3 : burnU left used n = used := by unfold burnU; rw [if_neg (by omega)]
      rw [e1, e2, e3]
      clear e1 e2 e3
      go_wp2
      go_ret
      refine ⟨rfl, ⟨?_, by omega⟩, fun B hB => (Below.refl _ _).setCell hB _, by simp [World.setCell]⟩
      exact H.out.blk.set 0 _
    · have d1 : decide ((left : Int) < n) = false := by simp; omega
      obtain ⟨m, rfl⟩ : ∃ m : Nat, n = m := ⟨n.toNat, by omega⟩
      have hml : m ≤ left := by omega
      have e1 : burnE left m = 0 := by unfold burnE; rw [if_pos (by omega)]
      have e2 : burnL left m = left - m := by unfold burnL; rw [if_pos (by omega)]; rfl
      have e3 : burnU left used m = used + m := by unfold burnU; rw [if_pos (by omega)]; rfl
      rw [e1, e2, e3]
      have w1 : wrap64 ((left : Int) - (m : Int)) = ((left - m : Nat) : Int) := by unfold wrap64; omega
      have w2 : wrap64 ((used : Int) + (m : Int)) = ((used + m : Nat) : Int) := by unfold wrap64; omega
      clear e1 e2 e3
      go_wp2
      go_ret
      refine ⟨rfl, ⟨?_, by omega⟩, fun B hB => ((Below.refl _ _).setCell hB _).setCell hB _, by simp [World.setCell]⟩
      have h3 := (H.out.blk.set 0 (.int .i64 ((left : Int) - (m : Int)))).set 1 (.int .i64 ((used : Int) + (m : Int)))
      have e4 : ((left - m : Nat) : Int) = (left : Int) - (m : Int) := by omega
      have e5 : ((used + m : Nat) : Int) = (used : Int) + (m : Int) := by omega
      rw [e4, e5]
      exact h3
theorem burn_nil (n : Int) (w : World) : Calls Tryz.prog 17 #[.pointer none, .int .i64 n] w fun e w' => e = .returned (.int .i64 31) ∧ w' = w := by
  go_enter Tryz.func17, Tryz.ntmps17
  go_wp2
  go_ret
  exact ⟨rfl, rfl⟩
theorem fuelUsed_any (b left used : Nat) (w : World) (h : FuelAt w b left used) :
    Calls Tryz.prog 13 #[PT b] w fun e w' => e = .returned (.int .i64 used) ∧ w' = w := by
  have c1 := h.blk.cell 1
  simp only [List.getElem?_toArray, List.getElem?_cons_zero, List.getElem?_cons_succ] at c1
  clear h
  unfold PT
  go_enter Tryz.func13, Tryz.ntmps13
  go_wp2
  go_ret
  exact ⟨rfl, rfl⟩
theorem fuelUsed_nil (w : World) : Calls Tryz.prog 13 #[.pointer none] w fun e w' => e = .returned (.int .i64 0) ∧ w' = w := by
  go_enter Tryz.func13, Tryz.ntmps13
  go_wp2
  go_ret
  exact ⟨rfl, rfl⟩
theorem steps_any (s : ByteArray) (w : World) (hs : s.size ≤ 1000000) :
    Calls Tryz.prog 33 #[.string s] w fun e w' => e = .returned (.int .i64 ((s.size + 1 : Nat) : Int)) ∧ w' = w := by
  have hsz : (s.size : Int) ≤ 1000000 := by omega
  go_enter Tryz.func33, Tryz.ntmps33
  go_wp2
  go_ret
  exact ⟨rfl, rfl⟩
end Go.Proofs.YthlannjipbohkaaGreatDoor
/- re.Back: an expression read from its end. -/
namespace Go.Proofs.YthlannjipbohkaaGreatDoor
set_option maxRecDepth 100000
set_option linter.unusedSimpArgs false
set_option linter.unusedVariables false
open Go.Shelf Go.RowKit Go.Lib Go.Sort
shelf_lay_g SlLaysE.n35 Slgn 35 at Tryz 50 as revLaidP

/-- Reverse turns the pointers of a row about. -/
theorem revP_any (W : World) (g cap : Nat) (cur : Array Value) (t : TypeId) (bs : List Nat) (hb : Blk W g cur t) (hc : cur.toList.take bs.length = bs.map PT) (hn : bs.length ≤ 9223372036854775807) :
    Calls Tryz.prog 50 #[.slice (some ⟨g, 0, none⟩) bs.length cap] W fun e w' => e = .returned (.tuple #[]) ∧ (∃ cur' : Array Value, Blk w' g cur' t ∧ cur'.size = cur.size ∧ cur'.toList.take bs.length = bs.reverse.map PT) ∧
      (∀ k, k ≠ g → w'.heap[k]? = W.heap[k]?) ∧ w'.heap.size = W.heap.size ∧ w'.os = W.os ∧ w'.tape = W.tape ∧ w'.output = W.output := by
  have hlen : bs.length ≤ cur.size := by
    have := congrArg List.length hc
    rw [List.length_take, Array.length_toList] at this
    simp at this
    omega
  have hget : ∀ j, j < bs.length → cur[j]? = some (PT (bs.getD j 0)) := fun j hj => by
    have h1 : (cur.toList.take bs.length)[j]? = cur[j]? := by rw [List.getElem?_take, if_pos hj, Array.getElem?_toList]
    rw [← h1, hc]
    simp [List.getD_eq_getElem?_getD, hj]
  have hH : Holds PT W g 0 bs.toArray := fun j hj => by
    have hj : j < bs.length := by simpa using hj
    rw [Nat.zero_add]
    refine ⟨?_, hb.frozen j⟩
    rw [hb.cell, hget j hj, getElem!_pos _ _ (by simpa using hj)]
    simp [List.getD_eq_getElem?_getD, hj]
  have h := AnyE.slices_Reverse revLaidP PT (fun x => rfl) g 0 cap bs W hH hn
  refine Calls.mono h ?_
  rintro e w' ⟨rfl, n, rfl⟩
  have hk : ∀ k, k ≠ g → (putRow PT (Sort.ahead W n) g 0 bs.reverse.toArray).heap[k]? = W.heap[k]? := fun k hne => by
    unfold putRow mapBlock
    simp [Sort.ahead, Array.getElem?_modify, Ne.symm hne]
  have hg : Blk (putRow PT (Sort.ahead W n) g 0 bs.reverse.toArray) g (putCells PT 0 bs.reverse.toArray cur) t := by
    have hb2 := hb
    unfold Blk at hb2 ⊢
    unfold putRow mapBlock
    simp only [Sort.ahead]
    rw [Array.getElem?_modify, if_pos rfl, hb2]
    rfl
  refine ⟨rfl, ⟨_, hg, by simp [putCells], ?_⟩, hk, by simp [putRow, mapBlock, Sort.ahead], rfl, rfl, rfl⟩
  apply List.ext_getElem?
  intro j
  by_cases hj : j < bs.length
  · rw [List.getElem?_take, if_pos hj, Array.getElem?_toList]
    unfold putCells
    rw [Array.getElem?_mapIdx, hget j hj]
    simp only [Option.map_some]
    rw [if_pos ⟨Nat.zero_le _, by simp; omega⟩, Nat.sub_zero, getElem!_pos _ _ (by simpa using hj)]
    simp [hj, List.getElem?_reverse]
  · rw [List.getElem?_eq_none (by rw [List.length_take]; omega), List.getElem?_eq_none (by simp; omega)]

/-- One more block is forbidden. -/
abbrev forbAnd (F : Forb) (g : Nat) : Forb := ⟨fun b => F.no b ∨ b = g⟩
/-- What is written into a forbidden block turns no expression. -/
theorem ReAt.turn [F : Forb] {W W' : World} {b g : Nat} {r : RE} {c : Array Value} (h : ReAt W b r) (hg : Blk W g c 32) (hno : Forb.no g) (hs : W'.heap.size = W.heap.size) (ho : ∀ k, k ≠ g → W'.heap[k]? = W.heap[k]?) : ReAt W' b r := by
  induction h with
  | mk b o s ks v bs blk row kid ih =>
    refine .mk b o s ks v bs ((ho b (blk.ne hg (by decide))).trans blk) ?_ ih
    obtain ⟨h1, a, cap, rfl, h2⟩ := row
    refine ⟨⟨h1.1, h1.2.keep (by rw [hs]; exact Nat.le_refl _)⟩, a, cap, rfl, fun k hk => ?_⟩
    obtain ⟨b', off, e, hlt, hc⟩ := h2 k hk
    refine ⟨b', off, e, by rw [hs]; exact hlt, ?_⟩
    rw [← hc]
    refine World.cell?_of_block (w := W) (ho _ fun e2 => ?_)
    have e2 : b' = g := e2
    exact h1.2.out ⟨b', off, none⟩ _ _ (by rw [e]) (by omega) (e2 ▸ hno)
/-- What Back does. -/
def BackC [Forb] (r : RE) : Prop := ∀ (p : Nat) (W : World), ReAt W p r → TabAt W → Calls Tryz.prog 22 #[PT p] W fun e w' => ∃ c, e = .returned (PT c) ∧ ReAt w' c r.back ∧ Below W.heap.size W w'
set_option maxHeartbeats 2000000 in
theorem each_any (F : Forb) (ks : List RE) (v : Value) (w : World) (hB : ∀ F' : Forb, ∀ k ∈ ks, @BackC F' k) (h : @ResRow F w v ks) (hkl : ks.length ≤ 1000000) (hT : TabAt w) :
    Calls Tryz.prog 49 #[v, .func (.func 22) #[] #[]] w fun e w' => ∃ ps, e = .returned (.slice (some ⟨w.heap.size, 0, none⟩) ks.length ks.length) ∧ ps.length = ks.length ∧ ps.map Prod.snd = ks.map RE.back ∧ @MkR (forbAnd F w.heap.size) w w.heap.size w.heap.size ks.length ps w' := by
  obtain ⟨i, hi, hz0, hz1, hz2⟩ := info_parts infoP
  have HT := hide hT
  have HFL := hide (@ResRow.fl F _ _ _ h)
  obtain ⟨-, ad, cap, rfl, g1⟩ := @ResRow.at F _ _ _ h
  have HG := hide g1
  have HBE := hide hB
  clear h hT hB g1
  have hent : ∀ args W, (callFunc 22 args).run Tryz.prog W = .ok (.enter 22 args) W := enters_of Tryz.func22 (by kernel_rfl) rfl
  obtain ⟨w1, hr1, ho1, hg1⟩ := run_makeSlice_full (P := Tryz.prog) w w.heap.size 60 32 i (.pointer none) 1 Tryz.underlying60 hi hz0 hz1 .i64 .i64 ks.length (by omega) (by rw [hz2]; omega) (by unfold maxLen; omega) (Nat.le_refl _)
  have hM0 : @MkR (forbAnd F w.heap.size) w w.heap.size w.heap.size ks.length [] w1 := @MkR.start (forbAnd F w.heap.size) _ _ _ ho1 hg1
  have HM0 := hide hM0
  obtain ⟨B, hBd⟩ : ∃ B, B = w.heap.size := ⟨_, rfl⟩
  rw [← hBd] at HM0 hr1 ⊢
  have HBD := hide hBd
  clear ho1 hg1 hM0 hBd
  go_enter Tryz.func49, Tryz.ntmps49
  go_wp2
  clear hr1
  go_loopw [13] (fun c wr => ∃ (k : Nat) (ps : List (Nat × RE)), k ≤ ks.length ∧ c = .int .i64 k ∧ Hid (ps.length = k) ∧ Hid (ps.map Prod.snd = (ks.take k).map RE.back) ∧ Hid (@MkR (forbAnd F B) w B B ks.length ps wr)) (fun c _ => ks.length - (intOf c).toNat)
  case atStart => exact ⟨0, [], by omega, rfl, rfl, rfl, HM0.out⟩
  case round =>
    obtain ⟨k, ps, hk, rfl, HL, HS, HM⟩ := hrel
    have hbw : Below w.heap.size w wr := HBD.out ▸ @MkR.below (forbAnd F B) _ _ _ _ _ _ HM.out
    have hBs : B ≤ wr.heap.size := by rw [HBD.out]; exact hbw.size
    have hTW : TabAt wr := HT.out.agree (Agree.of_all (K := fun _ => True) hbw) trivial
    by_cases hlt : k < ks.length
    · have hkd : decide ((k : Int) < (ks.length : Int)) = true := by simp; omega
      have hkd2 : decide (k < ks.length) = true := by simp [hlt]
      obtain ⟨b1, o1, p1, rfl, hb1, d1, r1⟩ := HG.out k hlt
      have d1' : wr.cell? ⟨b1, o1 + k, none⟩ = some (PT p1) := (World.cell?_of_block (w := w) (hbw.block b1 hb1)).trans d1
      have hlt' : B < wr.heap.size := by obtain ⟨cur, h1, -⟩ := @MkR.blk (forbAnd F B) _ _ _ _ _ _ HM.out; exact h1.lt
      have hfl : @FL (forbAnd F B) wr.heap.size := fun b hb => by
        rcases hb with hb | hb
        · exact Nat.lt_of_lt_of_le (HFL.out b hb) hbw.size
        · rw [hb]; exact hlt'
      have r1' : @ReAt (forbAnd F B) wr p1 ks[k] := ReAt.forb (F := F) (F' := forbAnd F B) r1 hfl hbw.size (fun j hj => hbw.block j hj) (fun j hj hno => by
        rcases hno with h | h
        · exact h
        · rw [h, HBD.out] at hj; omega)
      have hmem := List.getElem_mem hlt
      have HC := hide (HBE.out (forbAnd F B) _ hmem p1 wr r1' hTW)
      have HTK := hide (show ks.take (k + 1) = ks.take k ++ [ks[k]] from List.take_succ_eq_append_getElem hlt)
      generalize ks[k] = x at *
      clear hbw r1 r1' hTW hmem hfl hlt' d1 hb1
      unfold PT at d1' HC
      go_wp2_with fail
      refine HC.out.mono ?_
      rintro e w2 ⟨c, rfl, h1, h2⟩
      have hM2 := @MkR.step (forbAnd F B) _ _ _ _ _ _ _ HM.out h2 hBs
      have hln : ps.length < ks.length := by rw [HL.out]; exact hlt
      obtain ⟨cK, fK⟩ := @MkR.cell (forbAnd F B) _ _ _ _ _ _ hM2 hln
      rw [HL.out] at cK fK
      have HST := hide (@MkR.store (forbAnd F B) _ _ _ _ _ _ _ _ hM2 h1 hln)
      clear h1 h2 hM2 HC d1'
      try unfold PT
      go_wp2
      refine ⟨⟨k + 1, ps ++ [(c, x.back)], by omega, by go_num, ?_, ?_, ?_⟩, by simp [intOf]; omega⟩
      · show (ps ++ [_]).length = k + 1
        rw [List.length_append, HL.out]; rfl
      · show (ps ++ [_]).map Prod.snd = _
        rw [HTK.out, List.map_append, List.map_append, HS.out]; rfl
      · have := HST.out
        rw [HL.out] at this
        exact this
    · obtain rfl : k = ks.length := by omega
      rw [List.take_length] at HS
      have hkd : decide ((ks.length : Int) < (ks.length : Int)) = false := by simp
      go_wp2
      go_ret
      exact ⟨ps, by first | rfl | (rw [HBD.out]; rfl), HL.out, HS.out, HM.out⟩
theorem ReAt.down {F F' : Forb} {W : World} {b : Nat} {r : RE} (h : @ReAt F' W b r) (hf : @FL F W.heap.size) (hn : ∀ k, F.no k → F'.no k) : @ReAt F W b r :=
  ReAt.forb (F := F') (F' := F) h hf (Nat.le_refl _) (fun _ _ => rfl) (fun k _ => hn k)
theorem row_of [F : Forb] {W : World} {g n base : Nat} {qs : List (Nat × RE)} {cur : Array Value} (hb : Blk W g cur 32) (hc : cur.toList.take qs.length = (qs.map Prod.fst).map PT) (hn : qs.length = n) (hl : n ≤ 4611686018427387904) (hf : FL base) (hbase : base ≤ g) : RowAt W (.slice (some ⟨g, 0, none⟩) n n) qs := by
  refine ⟨⟨by omega, .new (Nat.le_refl _) (hf.mono (Nat.le_trans hbase (Nat.le_of_lt hb.lt))) hf hbase⟩, _, n, by rw [hn], fun j p hp => ⟨g, 0, rfl, hb.lt, ?_⟩⟩
  have hj : j < qs.length := (List.getElem?_eq_some_iff.1 hp).1
  have h1 : (cur.toList.take qs.length)[j]? = cur[j]? := by rw [List.getElem?_take, if_pos hj, Array.getElem?_toList]
  rw [hb.cell, Nat.zero_add, ← h1, hc, List.getElem?_map, List.getElem?_map, hp]; rfl
set_option maxHeartbeats 4000000 in
theorem back_any (r : RE) : Wf r → r.cnt ≤ 100000 → ∀ F : Forb, @BackC F r := by
  refine RE.ind (P := fun r => Wf r → r.cnt ≤ 100000 → ∀ F : Forb, @BackC F r) ?_ r
  intro o s ks ih hw hc F p w h hT
  have hcnt : cntL (bkL o (ks.map RE.back)) ≤ 200000 := by
    rw [cntL_bkL]
    rw [RE.cnt_mk] at hc
    have hk : ∀ k ∈ ks, k.back.cnt ≤ 2 * k.cnt := fun k hk => back_cnt k (hw.kid k hk)
    have h2 : cntL (ks.map RE.back) ≤ 2 * cntL ks := by
      clear hc h hw ih hT
      induction ks with
      | nil => exact Nat.le_refl _
      | cons x r ih =>
        rw [List.map_cons, cntL_cons, cntL_cons]
        have := ih fun k hk' => hk k (by simp [hk'])
        have := hk x (by simp)
        omega
    omega
  have hkl : ks.length ≤ 1000000 := by
    have := cntL_len ks
    rw [RE.cnt_mk] at hc
    omega
  have hki : ∀ F' : Forb, ∀ k ∈ ks, @BackC F' k := fun F' k hk => ih k hk (hw.kid k hk) (by
    rw [RE.cnt_mk] at hc
    obtain ⟨u, v, e⟩ := List.append_of_mem hk
    have e2 : cntL ks = cntL u + (k.cnt + cntL v) := by rw [e, cntL_append, cntL_cons]
    omega) F'
  have hwl : ∀ x ∈ bkL o (ks.map RE.back), Wf x := fun x hx => by
    obtain ⟨k, hk, rfl⟩ := List.mem_map.1 (mem_bkL.1 hx)
    exact back_wf k (hw.kid k hk)
  rw [RE.back_mk]
  obtain ⟨kv, c5, hrow⟩ := cellK h
  have c0 := h.cell0
  have hrow : @ResRow F w kv ks := hrow
  obtain ⟨-, ad, cap, rfl, -⟩ := hrow.at
  have c0 : w.cell? ⟨p, 0, none⟩ = some (.int .i64 o) := c0
  have HR := hide h
  have HT := hide hT
  have HFL := hide hrow.fl
  have HEA := hide (each_any F ks _ w hki hrow hkl hT)
  have HS := hide (settled_any p _ w h)
  have HWL := hide hwl
  have HCN := hide hcnt
  obtain ⟨L, hL⟩ : ∃ L, L = bkL o (ks.map RE.back) := ⟨_, rfl⟩
  rw [← hL] at HWL HCN ⊢
  have HLL := hide hL
  clear h hT hrow hwl hcnt hki ih hw hc hL
  unfold PT at HS ⊢
  go_enter Tryz.func22, Tryz.ntmps22
  go_wp2_with fail
  refine HS.out.mono ?_
  rintro e w1 ⟨rfl, rfl⟩
  go_wp2_with fail
  refine HEA.out.mono ?_
  rintro e w2 ⟨ps, rfl, hl, hs, hM⟩
  obtain ⟨B, hB⟩ : ∃ B, B = w1.heap.size := ⟨_, rfl⟩
  rw [← hB] at hM ⊢
  have hbw : Below w1.heap.size w1 w2 := hB ▸ @MkR.below (forbAnd F B) _ _ _ _ _ _ hM
  obtain ⟨cur, hblk, hcur⟩ := @MkR.blk (forbAnd F B) _ _ _ _ _ _ hM
  have hel := @MkR.el (forbAnd F B) _ _ _ _ _ _ hM
  have hcur2 : cur.toList = (ps.map Prod.fst).map PT := by
    rw [hcur, hl, Nat.sub_self]
    simp [ptrs]
  have hfl2 : @FL F w2.heap.size := @FL.mono F _ _ HFL.out hbw.size
  have HBW := hide hbw
  have HBK := hide hblk
  have HEL := hide hel
  have HCU := hide hcur2
  have HF2 := hide hfl2
  have HL := hide hl
  have HS2 := hide hs
  have HBD := hide hB
  have c0' : w2.cell? ⟨p, 0, none⟩ = some (.int .i64 o) := (World.cell?_of_block (w := w1) (hbw.block p (World.block_lt_of_cell? _ _ c0))).trans c0
  clear HEA hl hs hM hbw hblk hcur hel hcur2 hfl2 c0 c5 hB HS
  -- what With is called with, once the row stands
  have HWI : Hid (∀ (W3 : World) (qs : List (Nat × RE)) (c3 : Array Value), Below w1.heap.size w1 W3 → Blk W3 B c3 32 → c3.toList.take qs.length = (qs.map Prod.fst).map PT → qs.length = ks.length → qs.map Prod.snd = L → (∀ q ∈ qs, @ReAt F W3 q.1 q.2) →
      Calls Tryz.prog 51 #[PT p, .slice (some ⟨B, 0, none⟩) ks.length ks.length] W3 fun e w' => ∃ c, e = .returned (PT c) ∧ @ReAt F w' c (rWith (.mk o s ks) L) ∧ Below W3.heap.size W3 w') := fun W3 qs c3 hb3 hk3 ht3 hn3 hs3 he3 => by
    have hrow := (row_of (F := F) hk3 ht3 hn3 (by omega) HFL.out (by rw [HBD.out]; exact Nat.le_refl _)).res he3
    rw [hs3] at hrow
    have h1 := cntL_len L
    have h2 := cntL_len (catL L)
    have h3 := cntL_catL L
    have h4 := cntL_len (flatL 4 L)
    have h5 := cntL_flatL 4 L
    have h6 := cntL_len (flatL 6 L)
    have h7 := cntL_flatL 6 L
    have h8 := HCN.out
    exact with_any p _ L _ W3 (HR.out.keep hb3) hrow HWL.out (by omega) (by omega) (by omega) (by omega) (HT.out.agree (Agree.of_all (K := fun _ => True) hb3) trivial)
  have HLN : Hid ((ps.map Prod.fst).length = ks.length) := by show _ = _; rw [List.length_map, HL.out]
  by_cases h3 : o = 3
  · subst h3
    have HRV := hide (revP_any w2 B ks.length cur 32 (ps.map Prod.fst) HBK.out (by rw [HCU.out, List.take_of_length_le (by simp)]) (by rw [HLN.out]; omega))
    rw [HLN.out] at HRV
    go_wp2_with fail
    refine HRV.out.mono ?_
    rintro e w3 ⟨rfl, ⟨cur3, hk3, hz3, ht3⟩, ho3, hs3, e4, e5, e6⟩
    have hb3 : Below w1.heap.size w1 w3 := HBW.out.trans ⟨e4, e5, e6, by rw [hs3]; exact Nat.le_refl _, fun k hk => ho3 k (by have := HBD.out; omega)⟩
    have HWC := hide (HWI.out w3 ps.reverse cur3 hb3 hk3 (by
      rw [List.length_reverse, HL.out, ht3]; simp) (by rw [List.length_reverse, HL.out]) (by
      rw [List.map_reverse, HS2.out, HLL.out]; rfl) (fun q hq => by
      have hq' := HEL.out q (List.mem_reverse.1 hq)
      have h5 := @ReAt.turn (forbAnd F B) w2 w3 _ _ _ _ hq' HBK.out (.inr rfl) hs3 ho3
      exact h5.down (F := F) (F' := forbAnd F B) (@FL.mono F _ _ HF2.out (by rw [hs3]; exact Nat.le_refl _)) fun k hk => .inl hk))
    have HB3 := hide hb3
    clear HRV hk3 hz3 ht3 ho3 hs3 e4 e5 e6 hb3 c0'
    unfold PT at HWC
    go_wp2_with fail
    refine HWC.out.mono ?_
    rintro e w4 ⟨c, rfl, hr4, hb4⟩
    have HR4 := hide hr4
    have HB4 := hide (HB3.out.trans (hb4.mono HB3.out.size))
    clear hr4 hb4 HWC
    try unfold PT
    go_wp2
    go_ret
    exact ⟨c, rfl, HR4.out, HB4.out⟩
  · have d3 : ((o : Int) == 3) = false := beq_eq_false_iff_ne.2 (by omega)
    have HWC := hide (HWI.out w2 ps cur HBW.out HBK.out (by rw [HCU.out, List.take_of_length_le (by simp)]) HL.out (by
      rw [HS2.out, HLL.out]; unfold bkL; rw [if_neg h3]) (fun q hq => (HEL.out q hq).down (F := F) (F' := forbAnd F B) HF2.out fun k hk => .inl hk))
    unfold PT at HWC
    go_wp2_with fail
    refine HWC.out.mono ?_
    rintro e w4 ⟨c, rfl, hr4, hb4⟩
    have HR4 := hide hr4
    have HB4 := hide (HBW.out.trans (hb4.mono HBW.out.size))
    clear hr4 hb4 HWC
    try unfold PT
    go_wp2
    go_ret
    exact ⟨c, rfl, HR4.out, HB4.out⟩
end Go.Proofs.YthlannjipbohkaaGreatDoor
/- split.Build: an expression's states, read forward and from the end. -/
namespace Go.Proofs.YthlannjipbohkaaGreatDoor
set_option maxRecDepth 100000
set_option linter.unusedSimpArgs false
set_option linter.unusedVariables false
open Go.RowKit

/-- Build, by a budget of which something was taken. -/
theorem build_more (r : RE) (b0 : Nat) (W : World) (h : ReAt W b0 r) (hw : Wf r) (bud : Nat) (g t0 : Int) (h0 : 0 ≤ t0) (hb : BudAt W bud (g + t0) t0) (hg : 0 ≤ g) (hg2 : g < 1000000) (hT : TabAt W) :
    Calls Tryz.prog 21 #[PT b0, PT bud] W fun e W' => ∃ hs, Left W W' W.heap.size bud ∧
      (((bldF g hs r 0).2 = none ∧ e = .returned (.tuple #[.pointer none, .int .i64 5])) ∨
        ∃ pl s rows p, bldF g hs r 0 = (s, some rows) ∧ e = .returned (.tuple #[PT p, .int .i64 0]) ∧ W.heap.size ≤ p ∧ DfaR W' p r pl s.S rows ∧ BudAt W' bud (g + t0) (t0 + s.S.length) ∧ (s.S.length : Int) ≤ g) := by
  refine (Build_any r b0 W h hw bud g t0 h0 hb hg hg2 hT).mono ?_
  rintro e W' ⟨pl, h1, h2, h3, h4, h5⟩
  refine ⟨pl.map least, h3, ?_⟩
  rcases h5 with ⟨h5, rfl⟩ | ⟨rows, p, h5, rfl, h6, h7⟩
  · exact .inl ⟨h5, rfl⟩
  · have he : bldF g (pl.map least) r 0 = ((bldF g (pl.map least) r 0).1, some rows) := by rw [← h5]
    have hok := (bldF_ok hw hg he).1
    have ht := hok.t
    have hgg := hok.g
    refine .inr ⟨pl, (bldF g (pl.map least) r 0).1, rows, p, he, rfl, h6, ⟨h7, ?_⟩, ?_, by omega⟩
    · exact dfaOk hw hg ((isPart_ref (r.sts false)).perm h1) he
    · have e : sh t0 (bldF g (pl.map least) r 0).1.t = t0 + (bldF g (pl.map least) r 0).1.S.length := by
        unfold sh
        rw [if_neg (by omega), ht]
        omega
      rw [e] at h4
      exact h4
theorem DfaR.left {W W' : World} {p B bud : Nat} {r : RE} {pl : List (BitVec 256)} {S : List RE} {rows : List (List Nat)} (h : DfaR W p r pl S rows) (hl : Left W W' B bud) : DfaR W' p r pl S rows := by
  refine ⟨⟨?_⟩, h.ok⟩
  obtain ⟨vh, vn, vy, vs, h1, h2, h3, h4, h5, h6⟩ := h.at'.ex
  exact ⟨vh, vn, vy, vs, hl.typ _ _ _ h1 (by decide) (by decide) (by decide), hl.own h2 (by decide) (by decide) (by decide), hl.own h3 (by decide) (by decide) (by decide), hl.own h4 (by decide) (by decide) (by decide), h5, fun q hq => hl.own (h6 q hq) (by decide) (by decide) (by decide)⟩
theorem ReAt.leftB {W W' : World} {b bud : Nat} {g t : Int} {r : RE} (h : ReAt W b r) (hl : Left W W' W.heap.size bud) (hb : BudAt W bud g t) : ReAt W' b r := by
  refine ReAt.typ (F := forbNone) (F' := forbNone) h hl.size (FL.none _) (fun b c hB => ?_) (fun b o p hc => ?_) fun _ _ h => h
  · exact (hl.old b hB.lt (hB.ne hb.blk (by decide))).trans hB
  · rw [← hc]
    refine World.cell?_of_block (w := W) (hl.old b (World.block_lt_of_cell? _ _ hc) fun e => ?_)
    have e : b = bud := e
    rw [e, hb.blk.cell] at hc
    match o with
    | 0 => simp [PT] at hc
    | 1 => simp [PT] at hc
    | _ + 2 => simp at hc
/-- A side in memory. -/
structure SideAt (w : World) (p : Nat) (r : RE) : Prop where
  ex : ∃ f b plf Sf rf plb Sb rb, Blk w p #[PT f, PT b] 59 ∧ DfaR w f r plf Sf rf ∧ DfaR w b r.back plb Sb rb
theorem SideAt.keep {w w' : World} {p : Nat} {r : RE} (h : SideAt w p r) (hb : Below w.heap.size w w') : SideAt w' p r := by
  obtain ⟨f, b, plf, Sf, rf, plb, Sb, rb, h1, h2, h3⟩ := h.ex
  exact ⟨f, b, plf, Sf, rf, plb, Sb, rb, h1.below hb h1.lt, h2.keep hb, h3.keep hb⟩
/-- A budget that is too small for both. -/
def SBad (g : Int) (r : RE) : Prop := (∃ hs, (bldF g hs r 0).2 = none) ∨ ∃ hs s rows hs', bldF g hs r 0 = (s, some rows) ∧ (bldF (g - s.S.length) hs' r.back 0).2 = none
set_option maxHeartbeats 2000000 in
theorem sbuild_any (r : RE) (b0 : Nat) (w : World) (h : ReAt w b0 r) (hw : Wf r) (hc : r.cnt ≤ 100000) (bud : Nat) (g : Int) (hb : BudAt w bud g 0) (hbl : bud < w.heap.size) (hg : 0 ≤ g) (hg2 : g < 1000000) (hT : TabAt w) :
    Calls Tryz.prog 7 #[PT b0, PT bud] w fun e w' => (∀ n, n ≤ w.heap.size → n ≤ bud → Below n w w') ∧ ((SBad g r ∧ e = .returned (.tuple #[.pointer none, .int .i64 5])) ∨ ∃ p, e = .returned (.tuple #[PT p, .int .i64 0]) ∧ SideAt w' p r ∧ w.heap.size ≤ p) := by
  have HB1 := hide (build_more r b0 w h hw bud g 0 (Int.le_refl _) (by rw [Int.add_zero]; exact hb) hg hg2 hT)
  have HR := hide h
  have HT := hide hT
  have HBD := hide hb
  clear h hT hb
  unfold PT at HB1 ⊢
  go_enter Tryz.func7, Tryz.ntmps7
  go_wp2_with fail
  refine HB1.out.mono ?_
  rintro e w1 ⟨hs, hl1, hh⟩
  have HL1 := hide hl1
  rcases hh with ⟨hn, rfl⟩ | ⟨plf, sf, rf, f, hbf, rfl, hpf, hdf, hb1, hsg⟩
  · have HN := hide hn
    clear hl1 hn HB1
    go_wp2
    exact bodyPost_ret (v := .tuple #[.pointer none, .int .i64 5]) (by simp [results, Tryz.results7, go_sem]) rfl ⟨fun n h1 h2 => HL1.out.below h1 h2, .inl ⟨.inl ⟨hs, HN.out⟩, rfl⟩⟩
  · have hsz1 : w.heap.size ≤ w1.heap.size := hl1.size
    have hr1 : ReAt w1 b0 r := HR.out.leftB hl1 HBD.out
    have HT1 := hide (hl1.tab HBD.out (World.block_lt_of_cell? _ _ (HT.out 0 (by omega))) HT.out)
    have HBA := hide (back_any r hw hc forbNone b0 w1 hr1 HT1.out)
    have HBF := hide hbf
    have HDF := hide hdf
    have HBU := hide hb1
    clear hl1 hbf hdf hb1 hr1 HB1
    unfold PT at HBA
    try unfold PT
    go_wp2_with fail
    refine HBA.out.mono ?_
    rintro e w2 ⟨rb, rfl, hrb, hb2⟩
    obtain ⟨n, hn⟩ : ∃ n, sf.S.length = n := ⟨_, rfl⟩
    have hbd2 : BudAt w2 bud ((g - n) + n) n := by
      have := HBU.out.below hb2 (Nat.lt_of_lt_of_le hbl hsz1)
      rw [show (g - n) + n = g + 0 by omega, show ((n : Nat) : Int) = 0 + (sf.S.length : Int) by omega]
      exact this
    have HDF2 := hide (HDF.out.keep hb2)
    have HBD2 := hide hbd2
    have HB2 := hide hb2
    have hsz2 : w1.heap.size ≤ w2.heap.size := hb2.size
    have hlb2 : Left w w2 w.heap.size bud := HL1.out.trans (Left.of hb2 hsz1)
    have HLB2 := hide hlb2
    have HT2 := hide (HT1.out.agree (Agree.of_all (K := fun _ => True) hb2) trivial)
    have HB3 := hide (build_more r.back rb w2 hrb (back_wf r hw) bud (g - n) n (by omega) hbd2 (by omega) (by omega) HT2.out)
    have HNN := hide hn
    clear hrb hb2 hbd2 hlb2 HBA hn
    unfold PT at HB3
    try unfold PT
    go_wp2_with fail
    refine HB3.out.mono ?_
    rintro e w3 ⟨hs', hl3, hh⟩
    have hl3' : Left w2 w3 w.heap.size bud := ⟨hl3.os, hl3.tape, hl3.output, hl3.size, fun k h1 h2 => hl3.old k (by omega) h2, hl3.typ⟩
    have HL3 := hide (HLB2.out.trans hl3')
    have HDF3 := hide (HDF2.out.left hl3)
    rcases hh with ⟨hn, rfl⟩ | ⟨plb, sb, rbk, bb, hbb, rfl, hpb, hdb, hb3, hsg3⟩
    · have HN := hide hn
      clear hl3 hl3' hn HB3
      go_wp2
      exact bodyPost_ret (v := .tuple #[.pointer none, .int .i64 5]) (by simp [results, Tryz.results7, go_sem]) rfl ⟨fun n h1 h2 => HL3.out.below h1 h2, .inl ⟨.inr ⟨hs, sf, rf, hs', HBF.out, by rw [HNN.out]; exact HN.out⟩, rfl⟩⟩
    · have HDB := hide hdb
      have hsz3 : w2.heap.size ≤ w3.heap.size := hl3.size
      clear hl3 hl3' hbb hdb hb3 HB3
      try unfold PT
      go_wp2
      have hb4 := (Below.refl w3.heap.size w3).alloc (Nat.le_refl _) (.cells #[.pointer (some ⟨f, 0, none⟩), .pointer (some ⟨bb, 0, none⟩)] 59)
      refine bodyPost_ret (v := .tuple #[PT w3.heap.size, .int .i64 0]) (by simp [results, Tryz.results7, go_sem, PT]) rfl ⟨fun n h1 h2 => (HL3.out.below h1 h2).trans (hb4.mono (by omega)), .inr ⟨w3.heap.size, rfl, ⟨f, bb, plf, sf.S, rf, plb, sb.S, rbk, Blk.new _ _ _, HDF3.out.keep hb4, HDB.out.keep hb4⟩, by omega⟩⟩
end Go.Proofs.YthlannjipbohkaaGreatDoor
/- A letter as often as one likes: its states, its texts, the same from its end. -/
namespace Go.Proofs.YthlannjipbohkaaGreatDoor
set_option maxRecDepth 100000
set_option linter.unusedSimpArgs false
set_option linter.unusedVariables false

def oL (c : Nat) : RE := .mk 2 (setOf [c]) []
def oA (c : Nat) : RE := rMany (rWord [c])
/-- A letter that the kernel has reckoned with. -/
structure Let9 (c : Nat) : Prop where
  ne : setOf [c] ≠ 0#256
  bit : ∀ b, (setOf [c]).getLsbD b = true ↔ b = c
theorem oL_one {c : Nat} (h : Let9 c) : rLetter c = oL c := letter_mk c h.ne
theorem oL_wf {c : Nat} (h : Let9 c) : Wf (oL c) := by rw [← oL_one h]; exact wf_one _
theorem ow1 {c : Nat} (h : Let9 c) : rWord [c] = oL c := by
  unfold rWord
  rw [List.map_cons, List.map_nil, oL_one h]
  exact thenW (oL_wf h)
theorem oA_many {c : Nat} (h : Let9 c) : oA c = rMany (oL c) := by unfold oA; rw [ow1 h]
theorem oA_mk {c : Nat} (h : Let9 c) : oA c = .mk 5 0#256 [oL c] := by
  rw [oA_many h]
  unfold rMany oL
  simp [RE.op]
theorem oA_wf {c : Nat} (h : Let9 c) : Wf (oA c) := by rw [oA_many h]; exact wf_many (oL_wf h)
theorem byOL (c b : Nat) : rBy b (oL c) = if (setOf [c]).getLsbD b then rEmpty else rNothing := by_2 b _ _
theorem eps_then9 {x : RE} (h : Wf x) : rThen [rEmpty, x] = x := by
  have h3 := then_group (a := []) (b := [x]) (by simp) (fun r hr => by simp at hr; subst hr; exact h)
  rw [then_nil, thenW h] at h3
  rw [h3, List.nil_append, thenW h]
theorem byOA {c : Nat} (h : Let9 c) (b : Nat) : rBy b (oA c) = if (setOf [c]).getLsbD b then oA c else rNothing := by
  have hw := oA_wf h
  rw [oA_mk h] at hw
  have e : rBy b (oA c) = rThen [rBy b (oL c), oA c] := by
    rw [oA_mk h, by_5 b hw]
  rw [e, byOL]
  split
  · exact eps_then9 (oA_wf h)
  · exact then_none _
theorem oA_cnt {c : Nat} (h : Let9 c) : (oA c).cnt ≤ 30 := by
  rw [oA_mk h, RE.cnt_mk, cntL_cons]
  have : (oL c).cnt = 1 := by unfold oL; rw [RE.cnt_mk]; rfl
  rw [this]
  simp [cntL]
theorem oA_back {c : Nat} (h : Let9 c) : (oA c).back = oA c := by
  have e : (oL c).back = oL c := by unfold oL; rw [RE.back_mk, with_leaf _ _ _ (.inr (.inr rfl))]
  rw [oA_mk h, RE.back_mk, show bkL 5 ([oL c].map RE.back) = [(oL c).back] from rfl, with_5, e, ← oA_many h, oA_mk h]
theorem oA_fits {c : Nat} (h : Let9 c) {g : Int} (hg : 2 ≤ g) : FitsL g [oA c, rNothing] := by
  refine ⟨by simpa using hg, fun x hx => ?_, fun x hx => ?_, fun x hx b => ?_⟩
  · simp at hx
    rcases hx with rfl | rfl
    · exact oA_wf h
    · exact wf_nothing
  · simp at hx
    rcases hx with rfl | rfl
    · have := size_minD (oA c)
      have := oA_cnt h
      omega
    · exact hdN_size
  · simp at hx
    rcases hx with rfl | rfl
    · rw [byOA h]
      split <;> simp
    · rw [byN]; simp
theorem oA_good {c : Nat} (h : Let9 c) : ¬ SBad 100 (oA c) := by
  rintro (⟨hs, hn⟩ | ⟨hs, s, rows, hs', hb, hn⟩)
  · obtain ⟨s, rows, e⟩ := bldF_fits (oA_fits h (g := 100) (by omega)) (by omega) hs (r := oA c) (by simp)
    rw [e] at hn; cases hn
  · obtain ⟨s2, rows2, e2⟩ := bldF_fits (oA_fits h (g := 2) (by omega)) (by omega) hs (r := oA c) (by simp)
    have hok := (bldF_ok (oA_wf h) (by omega) e2).1
    have ht := hok.t
    have hgg := hok.g
    have e3 := bldF_other (oA_wf h) (by omega) e2 (g' := 100) (by omega)
    rw [e3] at hb
    injection hb with hb _
    subst hb
    rw [oA_back h] at hn
    obtain ⟨s4, rows4, e4⟩ := bldF_fits (oA_fits h (g := 100 - (s2.S.length : Int)) (by omega)) (by omega) hs' (r := oA c) (by simp)
    rw [e4] at hn; cases hn
theorem oA_lang {c : Nat} (h : Let9 c) (t : List Nat) : (oA c).lang t ↔ ∀ x ∈ t, x = c := by
  rw [oA_many h, lang_many]
  have hl : ∀ u, (oL c).lang u ↔ u = [c] := fun u => by
    rw [lang2 (r := oL c) rfl]
    constructor
    · rintro ⟨x, rfl, hx⟩
      rw [(h.bit x).1 hx]
    · rintro rfl
      exact ⟨c, rfl, (h.bit c).2 rfl⟩
  constructor
  · intro hs
    induction hs with
    | nil => intro x hx; simp at hx
    | cons u v h0 h1 h2 ih =>
      have h3 := (hl u).1 h1
      intro x hx
      rcases List.mem_append.1 hx with hx | hx
      · rw [h3] at hx; simpa using hx
      · exact ih x hx
  · intro hx
    induction t with
    | nil => exact .nil
    | cons x t ih =>
      obtain rfl := hx x (by simp)
      exact .cons [x] t (by simp) ((hl _).2 rfl) (ih fun y hy => hx y (by simp [hy]))
theorem let97 : Let9 97 := ⟨ne97, fun b => by
  by_cases hb : b < 256
  · revert b; decide +kernel
  · constructor
    · intro h; exact absurd (bit_lt h) hb
    · rintro rfl; omega⟩
theorem let98 : Let9 98 := ⟨ne98, fun b => by
  by_cases hb : b < 256
  · revert b; decide +kernel
  · constructor
    · intro h; exact absurd (bit_lt h) hb
    · rintro rfl; omega⟩
end Go.Proofs.YthlannjipbohkaaGreatDoor
