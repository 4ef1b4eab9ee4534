/- Texts of this claim put together: MathWf, ShD, ShE, DvA, RowG, OpenS. -/
import Derived.Test.YthemadegffhmfaaDoorJoinReO
import Derived.Test.YthemadegffhmfaaDoorJoinShC
import Derived.Deep.Upon
/- What the calls make is in the settled form, and not much greater than what went in. -/
namespace Go.Proofs.YthemadegffhmfaaDoor
set_option maxRecDepth 100000
set_option linter.unusedSimpArgs false
set_option linter.unusedVariables false
open Go.RowKit

def RE.cnt : RE → Nat
  | .mk _ _ ks => 1 + (ks.map fun k => k.cnt).sum
def cntL (l : List RE) : Nat := (l.map RE.cnt).sum
theorem RE.cnt_mk (o : Nat) (s : BitVec 256) (ks : List RE) : (RE.mk o s ks).cnt = 1 + cntL ks := by rw [RE.cnt, cntL]
theorem RE.cnt_kids (r : RE) : r.cnt = 1 + cntL r.kids := by cases r; exact RE.cnt_mk _ _ _
theorem cntL_cons (x : RE) (l : List RE) : cntL (x :: l) = x.cnt + cntL l := by simp [cntL]
theorem cntL_append (a b : List RE) : cntL (a ++ b) = cntL a + cntL b := by simp [cntL]
theorem cntL_len (l : List RE) : l.length ≤ cntL l := by
  induction l with
  | nil => simp [cntL]
  | cons x l ih => rw [cntL_cons, RE.cnt_kids]; simp; omega
theorem cntL_flatMap (f : RE → List RE) (hf : ∀ r, cntL (f r) ≤ r.cnt) (l : List RE) : cntL (l.flatMap f) ≤ cntL l := by
  induction l with
  | nil => simp [cntL]
  | cons x l ih => rw [List.flatMap_cons, cntL_append, cntL_cons]; have := hf x; omega
theorem cntL_catL (l : List RE) : cntL (catL l) ≤ cntL l := cntL_flatMap _ (fun r => by
  have := r.cnt_kids
  unfold catK
  split
  · simp [cntL]
  · split
    · omega
    · rw [cntL_cons]; simp [cntL]) l
theorem cntL_flatL (o : Nat) (l : List RE) : cntL (flatL o l) ≤ cntL l := cntL_flatMap _ (fun r => by
  have := r.cnt_kids
  split
  · omega
  · rw [cntL_cons]; simp [cntL]) l
theorem cntL_filter (p : RE → Bool) (l : List RE) : cntL (l.filter p) ≤ cntL l := by
  induction l with
  | nil => simp
  | cons x l ih =>
    rw [List.filter_cons, cntL_cons]
    split
    · rw [cntL_cons]; omega
    · omega
theorem cntL_insK (x : RE) (l : List RE) : cntL (insK x l) ≤ x.cnt + cntL l := by
  induction l with
  | nil => simp [insK, cntL]
  | cons y l ih =>
    simp only [insK]
    split
    · simp only [cntL_cons]; omega
    · split
      · simp only [cntL_cons]; omega
      · simp only [cntL_cons]; omega
theorem cntL_ordL (l : List RE) : cntL (ordL l) ≤ cntL l := by
  induction l with
  | nil => simp [ordL]
  | cons x l ih =>
    have := cntL_insK x (ordL l)
    rw [cntL_cons]
    have e : ordL (x :: l) = insK x (ordL l) := rfl
    rw [e]; omega
theorem cnt_join (o : Nat) (l : List RE) : (rJoin o l).cnt ≤ 1 + cntL l := by
  unfold rJoin
  split
  · simp [cntL]
  · rw [RE.cnt_mk]; omega
theorem cnt_nothing : rNothing.cnt = 1 := by rw [RE.cnt_kids]; rfl
theorem cnt_empty : rEmpty.cnt = 1 := by rw [RE.cnt_kids]; rfl
theorem cnt_one (s : BitVec 256) : (rOne s).cnt = 1 := by rw [RE.cnt_kids, rOne_kids]; rfl
theorem cnt_then (l : List RE) : (rThen l).cnt ≤ 1 + cntL l := by
  unfold rThen
  split
  · rw [cnt_nothing]; omega
  · split
    · rw [cnt_empty]; omega
    · have h1 := cnt_join 3 (catL l); have h2 := cntL_catL l; omega
theorem cnt_any (l : List RE) : (rAny l).cnt ≤ 2 + cntL l := by
  unfold rAny
  simp only
  generalize hk : (orKeep (flatL 4 l) ++ if orSet (flatL 4 l) = 0#256 then [] else [rOne (orSet (flatL 4 l))]) = ks
  split
  · rw [cnt_nothing]; omega
  · have h1 := cnt_join 4 (ordL ks)
    have h2 := cntL_ordL ks
    have h3 := cntL_filter (fun r => !(r.op == 0) && !(r.op == 2)) (flatL 4 l)
    have h4 := cntL_flatL 4 l
    have h5 : cntL ks ≤ cntL (orKeep (flatL 4 l)) + 1 := by
      rw [← hk, cntL_append]
      split
      · simp [cntL]
      · simp [cntL, cnt_one]
    unfold orKeep at h5
    omega
theorem cnt_many (r : RE) : (rMany r).cnt ≤ 1 + r.cnt := by
  unfold rMany
  split
  · rw [cnt_empty]; omega
  · split
    · omega
    · rw [RE.cnt_mk]; simp [cntL]
theorem cnt_both (l : List RE) : (rBoth l).cnt ≤ 2 + cntL l := by
  unfold rBoth
  simp only
  split
  · rw [cnt_nothing]; omega
  · split
    · rw [cnt_nothing]; omega
    · generalize hk : (orKeep (flatL 6 l) ++ if met (flatL 6 l) = true then [rOne (andSet (flatL 6 l))] else []) = ks
      split
      · have := cnt_many (rOne allB); rw [cnt_one] at this; omega
      · have h1 := cnt_join 6 (ordL ks)
        have h2 := cntL_ordL ks
        have h3 := cntL_filter (fun r => !(r.op == 0) && !(r.op == 2)) (flatL 6 l)
        have h4 := cntL_flatL 6 l
        have h5 : cntL ks ≤ cntL (orKeep (flatL 6 l)) + 1 := by
          rw [← hk, cntL_append]
          split
          · simp [cntL, cnt_one]
          · simp [cntL]
        unfold orKeep at h5
        omega
theorem cnt_but (a b : RE) : (rBut a b).cnt ≤ 1 + a.cnt + b.cnt := by
  unfold rBut
  split
  · omega
  · split
    · rw [cnt_one]; omega
    · split
      · rw [cnt_nothing]; omega
      · rw [RE.cnt_mk]; simp [cntL]; omega
theorem cnt_word (t : List Nat) : (rWord t).cnt ≤ 1 + t.length := by
  have h := cnt_then (t.map rLetter)
  have key : ∀ t : List Nat, cntL (t.map rLetter) = t.length := fun t => by
    induction t with
    | nil => rfl
    | cons x t ih => rw [List.map_cons, cntL_cons, show (rLetter x).cnt = 1 from cnt_one _, ih, List.length_cons]; omega
  have := key t
  unfold rWord; omega

theorem wf_catL {l : List RE} (hw : ∀ r ∈ l, Wf r) (h0 : l.any (fun r => r.op == 0) = false) : ∀ k ∈ catL l, Wf k ∧ k.op ≠ 0 ∧ k.op ≠ 1 ∧ k.op ≠ 3 := by
  intro k hk
  obtain ⟨r, hr, hk⟩ := List.mem_flatMap.1 hk
  have hr0 : r.op ≠ 0 := fun e => by
    have := List.any_eq_false.1 h0 r hr
    simp [e] at this
  unfold catK at hk
  split at hk
  · simp at hk
  · split at hk
    · rename_i h3
      have h := ((hw r hr).shp.cat h3).2 k hk
      exact ⟨(hw r hr).kid k hk, h⟩
    · simp at hk; subst hk
      exact ⟨hw _ hr, hr0, by assumption, by assumption⟩
theorem wf_then {l : List RE} (hw : ∀ r ∈ l, Wf r) : Wf (rThen l) := by
  unfold rThen
  split
  · exact wf_nothing
  · rename_i h0
    have hc := wf_catL hw (by simpa using h0)
    split
    · exact wf_empty
    · rename_i hne
      by_cases h1 : (catL l).length = 1
      · match hl : catL l, h1 with
        | [x], _ => exact (hc x (by rw [hl]; simp)).1
      · rw [rJoin_more 3 _ h1]
        have h2 : 2 ≤ (catL l).length := by
          have := List.length_pos_iff.2 hne
          omega
        exact .mk _ _ _ (fun k hk => (hc k hk).1) ⟨by omega, fun _ => rfl, by omega, by omega, fun _ => ⟨h2, fun k hk => (hc k hk).2⟩, by omega, by omega, by omega⟩
/-- The heart of Any and Both. -/
theorem wf_ord {o : Nat} (ho : o = 4 ∨ o = 6) {ks : List RE} {c : BitVec 256} (hw : ∀ k ∈ ks, Wf k ∧ k.op ≠ 0 ∧ k.op ≠ o ∧ (k.op = 2 → k = rOne c)) (hne : ks ≠ []) : Wf (rJoin o (ordL ks)) := by
  obtain ⟨h1, h2⟩ := ordL_spec ks (fun y hy => (hw y hy).1.k)
  have hw' : ∀ k ∈ ordL ks, Wf k ∧ k.op ≠ 0 ∧ k.op ≠ o ∧ (k.op = 2 → k = rOne c) := fun k hk => hw k ((h2 k).1 hk)
  have hne' : ordL ks ≠ [] := fun e => by
    obtain ⟨x, hx⟩ := List.exists_mem_of_ne_nil ks hne
    have := (h2 x).2 hx
    rw [e] at this; simp at this
  by_cases hl : (ordL ks).length = 1
  · match hk : ordL ks, hl with
    | [x], _ => exact (hw' x (by rw [hk]; simp)).1
  · rw [rJoin_more o _ hl]
    have hl2 : 2 ≤ (ordL ks).length := by
      have := List.length_pos_iff.2 hne'
      omega
    have hcl : ((ordL ks).filter fun k => k.op == 2).length ≤ 1 := by
      have hp := h1.filter (fun k => k.op == 2)
      match hf : (ordL ks).filter (fun k => k.op == 2) with
      | [] => rw [hf]; simp
      | [x] => rw [hf]; simp
      | x :: y :: r =>
        exfalso
        rw [hf] at hp
        have hxy := (List.pairwise_cons.1 hp).1 y (by simp)
        have hx : x ∈ (ordL ks).filter (fun k => k.op == 2) := by rw [hf]; simp
        have hy : y ∈ (ordL ks).filter (fun k => k.op == 2) := by rw [hf]; simp
        have ex := (hw' x (List.mem_filter.1 hx).1).2.2.2 (by simpa using (List.mem_filter.1 hx).2)
        have ey := (hw' y (List.mem_filter.1 hy).1).2.2.2 (by simpa using (List.mem_filter.1 hy).2)
        rw [ex, ey] at hxy
        exact ltK_irrefl hxy
    exact .mk _ _ _ (fun k hk => (hw' k hk).1) ⟨by omega, fun _ => rfl, by omega, by omega, by omega, fun _ => ⟨hl2, fun k hk => ⟨(hw' k hk).2.1, (hw' k hk).2.2.1⟩, h1, hcl⟩, by omega, by omega⟩
theorem wf_flatL {o : Nat} (ho : o = 4 ∨ o = 6) {l : List RE} (hw : ∀ r ∈ l, Wf r) : ∀ k ∈ flatL o l, Wf k ∧ k.op ≠ o := by
  intro k hk
  obtain ⟨r, hr, hk⟩ := List.mem_flatMap.1 hk
  split at hk
  · rename_i h3
    have h := ((hw r hr).shp.or (by omega)).2.1 k hk
    exact ⟨(hw r hr).kid k hk, by rw [h3] at h; exact h.2⟩
  · simp at hk; subst hk
    exact ⟨hw _ hr, by assumption⟩
theorem one_op (c : BitVec 256) (h : c ≠ 0#256) : (rOne c).op = 2 := by unfold rOne; rw [if_neg h]; rfl
theorem wf_keepL {o : Nat} (ho : o = 4 ∨ o = 6) {l : List RE} (hw : ∀ r ∈ l, Wf r) (c : BitVec 256) : ∀ k ∈ orKeep (flatL o l), Wf k ∧ k.op ≠ 0 ∧ k.op ≠ o ∧ (k.op = 2 → k = rOne c) := by
  intro k hk
  obtain ⟨h1, h2⟩ := List.mem_filter.1 hk
  obtain ⟨h3, h4⟩ := wf_flatL ho hw k h1
  simp at h2
  exact ⟨h3, h2.1, h4, fun e => absurd e h2.2⟩
theorem wf_any {l : List RE} (hw : ∀ r ∈ l, Wf r) : Wf (rAny l) := by
  unfold rAny
  simp only
  generalize hks : (orKeep (flatL 4 l) ++ if orSet (flatL 4 l) = 0#256 then [] else [rOne (orSet (flatL 4 l))]) = ks
  split
  · exact wf_nothing
  · rename_i hne
    refine wf_ord (.inl rfl) (c := orSet (flatL 4 l)) (fun k hk => ?_) hne
    rw [← hks] at hk
    rcases List.mem_append.1 hk with hk | hk
    · exact wf_keepL (.inl rfl) hw _ k hk
    · split at hk
      · simp at hk
      · rename_i hc
        simp at hk; subst hk
        have := one_op _ hc
        exact ⟨wf_one _, by omega, by omega, fun _ => rfl⟩
theorem wf_many {r : RE} (hw : Wf r) : Wf (rMany r) := by
  unfold rMany
  split
  · exact wf_empty
  · split
    · exact hw
    · rename_i h1 h2
      exact .mk _ _ _ (fun k hk => by simp at hk; subst hk; exact hw) ⟨by omega, fun _ => rfl, by omega, by omega, by omega, by omega, fun _ => ⟨r, rfl, by omega, by omega, h2⟩, by omega⟩
theorem wf_both {l : List RE} (hw : ∀ r ∈ l, Wf r) : Wf (rBoth l) := by
  unfold rBoth
  simp only
  split
  · exact wf_nothing
  · split
    · exact wf_nothing
    · rename_i h0 hc
      generalize hks : (orKeep (flatL 6 l) ++ if met (flatL 6 l) = true then [rOne (andSet (flatL 6 l))] else []) = ks
      split
      · exact wf_many (wf_one _)
      · rename_i hne
        refine wf_ord (.inr rfl) (c := andSet (flatL 6 l)) (fun k hk => ?_) hne
        rw [← hks] at hk
        rcases List.mem_append.1 hk with hk | hk
        · exact wf_keepL (.inr rfl) hw _ k hk
        · split at hk
          · simp at hk; subst hk
            have := one_op _ hc
            exact ⟨wf_one _, by omega, by omega, fun _ => rfl⟩
          · simp at hk
theorem wf_but {a b : RE} (ha : Wf a) (hb : Wf b) : Wf (rBut a b) := by
  unfold rBut
  split
  · exact ha
  · split
    · exact wf_one _
    · split
      · exact wf_nothing
      · rename_i h1 h2 h3
        exact .mk _ _ _ (fun k hk => by simp at hk; rcases hk with rfl | rfl; exact ha; exact hb) ⟨by omega, fun _ => rfl, by omega, by omega, by omega, by omega, by omega, fun _ => ⟨a, b, rfl, by omega, by omega, fun e => h3 (by rw [e]; exact lexN_self _), h2⟩⟩
theorem wf_word (t : List Nat) : Wf (rWord t) := wf_then fun r hr => by
  obtain ⟨x, -, rfl⟩ := List.mem_map.1 hr
  exact wf_one _
end Go.Proofs.YthemadegffhmfaaDoor
/- Shapes: Make. -/
namespace Go.Proofs.YthemadegffhmfaaDoor
set_option maxRecDepth 100000
set_option linter.unusedSimpArgs false
set_option linter.unusedVariables false
open Go.RowKit

def mkAt (k : Nat) (a b : Nat) (t : List Nat) (ks : List RE) : RE :=
  if k = 0 then rNothing else if k = 1 then rEmpty else if k = 2 then rOne (span a (b + 1)) else if k = 3 then rThen ks else if k = 4 then rAny ks else if k = 5 then rMany (ks.getD 0 rNothing) else if k = 6 then rBoth ks
  else if k = 7 then rBut (ks.getD 0 rNothing) (ks.getD 1 rNothing) else rWord t
/-- The expression of a shape. -/
def SHP.re : SHP → RE
  | .mk o l u t ks => mkAt (SHP.mk o l u t []).k (97 + l % 4) (97 + u % 4) (bytesN t) (ks.map fun k => k.re)
theorem SHP.re_mk (o : Int) (l u : Nat) (t : ByteArray) (ks : List SHP) : (SHP.mk o l u t ks).re = mkAt (SHP.mk o l u t ks).k (97 + l % 4) (97 + u % 4) (bytesN t) (ks.map SHP.re) := by rw [SHP.re]; rfl
theorem wf_mkAt (k a b : Nat) (t : List Nat) (ks : List RE) (h : ∀ r ∈ ks, Wf r) : Wf (mkAt k a b t ks) := by
  have hg : ∀ i, Wf (ks.getD i rNothing) := fun i => by
    by_cases hi : i < ks.length
    · rw [show ks.getD i rNothing = ks[i] from by simp [List.getD_eq_getElem?_getD, hi]]; exact h _ (List.getElem_mem hi)
    · rw [show ks.getD i rNothing = rNothing from by simp [List.getD_eq_getElem?_getD, hi]]; exact wf_nothing
  unfold mkAt
  repeat' split
  · exact wf_nothing
  · exact wf_empty
  · exact wf_one _
  · exact wf_then h
  · exact wf_any h
  · exact wf_many (hg 0)
  · exact wf_both h
  · exact wf_but (hg 0) (hg 1)
  · exact wf_word t
theorem cnt_mkAt (k a b : Nat) (t : List Nat) (ks : List RE) (ht : t.length ≤ 20) : (mkAt k a b t ks).cnt ≤ 22 + cntL ks := by
  have hg : ∀ i, (ks.getD i rNothing).cnt ≤ 1 + cntL ks := fun i => by
    by_cases hi : i < ks.length
    · rw [show ks.getD i rNothing = ks[i] from by simp [List.getD_eq_getElem?_getD, hi]]
      have : cntL ks = cntL (ks.take i) + cntL (ks.drop i) := by rw [← cntL_append, List.take_append_drop]
      rw [← List.getElem_cons_drop hi, cntL_cons] at this
      omega
    · rw [show ks.getD i rNothing = rNothing from by simp [List.getD_eq_getElem?_getD, hi], cnt_nothing]; omega
  have h01 : (ks.getD 0 rNothing).cnt + (ks.getD 1 rNothing).cnt ≤ 2 + cntL ks := by
    match ks with
    | [] => simp [cnt_nothing, cntL]
    | [x] => simp [cnt_nothing, cntL]; omega
    | x :: y :: r => simp [cntL]; omega
  have g0 := hg 0
  have q1 := cnt_then ks; have q2 := cnt_any ks; have q3 := cnt_both ks; have q4 := cnt_many (ks.getD 0 rNothing); have q5 := cnt_but (ks.getD 0 rNothing) (ks.getD 1 rNothing); have q6 := cnt_word t
  unfold mkAt
  repeat' split
  · rw [cnt_nothing]; omega
  · rw [cnt_empty]; omega
  · rw [cnt_one]; omega
  all_goals omega
theorem SHP.wf (s : SHP) : Wf s.re := by
  refine SHP.ind (P := fun s => Wf s.re) ?_ s
  intro o l u t ks ih
  rw [SHP.re_mk]
  refine wf_mkAt _ _ _ _ _ fun r hr => ?_
  obtain ⟨k, hk, rfl⟩ := List.mem_map.1 hr
  exact ih k hk
theorem SHP.cnt (s : SHP) : Tx s → s.re.cnt ≤ 22 * s.nodes := by
  refine SHP.ind (P := fun s => Tx s → s.re.cnt ≤ 22 * s.nodes) ?_ s
  intro o l u t ks ih h
  cases h with
  | mk _ _ _ _ _ ht hk =>
    rw [SHP.re_mk, SHP.nodes_mk]
    have h1 := cnt_mkAt (SHP.mk o l u t ks).k (97 + l % 4) (97 + u % 4) (bytesN t) (ks.map SHP.re) (by simpa [bytesN] using ht)
    have h2 : cntL (ks.map SHP.re) ≤ 22 * (ks.map SHP.nodes).sum := by
      clear h1
      induction ks with
      | nil => simp [cntL]
      | cons x ks ihk =>
        have e1 := ih x (by simp) (hk x (by simp))
        have e2 := ihk (fun k hk' => ih k (by simp [hk'])) (fun k hk' => hk k (by simp [hk']))
        rw [List.map_cons, cntL_cons, List.map_cons, List.sum_cons]
        omega
    omega
end Go.Proofs.YthemadegffhmfaaDoor
/- A row of pointers that grows while what they point at is made: behind its end it holds nil alone. -/
namespace Go.Proofs.YthemadegffhmfaaDoor
set_option maxRecDepth 100000
set_option linter.unusedSimpArgs false
set_option linter.unusedVariables false
open Go.RowKit

/-- What reads no nil cell of block g stays, where all else stays. -/
theorem ReAt.past {W W' : World} {g b : Nat} {r : RE} {c c' : Array Value} (h : ReAt W b r) (hs : W.heap.size ≤ W'.heap.size) (hk : ∀ k, k < W.heap.size → k ≠ g → W'.heap[k]? = W.heap[k]?)
    (hg : Blk W g c 27) (hg' : Blk W' g c' 27) (hc : ∀ (j : Nat) (u : Value), c[j]? = some u → u ≠ .pointer none → c'[j]? = some u) : ReAt W' b r := by
  induction h with
  | mk b o s ks v bs blk row kid ih =>
    have hne : b ≠ g := by
      rintro rfl
      have e := blk.of_cells.symm.trans hg.of_cells
      injection e with e; injection e with _ e2
      exact absurd e2 (by decide)
    refine .mk b o s ks v bs ((hk b blk.lt hne).trans blk) ?_ ih
    obtain ⟨h1, a, cap, rfl, h2⟩ := row
    refine ⟨h1, a, cap, rfl, fun k hk' => ?_⟩
    obtain ⟨b', off, e, hlt, hcell⟩ := h2 k hk'
    refine ⟨b', off, e, Nat.lt_of_lt_of_le hlt hs, ?_⟩
    by_cases e' : b' = g
    · subst e'
      rw [hg.cell] at hcell
      rw [hg'.cell]
      exact hc _ _ hcell (by simp [PT])
    · rw [← hcell]
      exact World.cell?_of_block (w := W) (hk b' hlt e')

structure OwnZ (W : World) (base : Nat) (v : Value) (ps : List (Nat × RE)) : Prop where
  own : ∃ g cap cur, v = .slice (some ⟨g, 0, none⟩) ps.length cap ∧ base ≤ g ∧ Blk W g cur 27 ∧ ps.length ≤ cap ∧ cap ≤ maxLen ∧ cur.toList = ptrs ps ++ List.replicate (cap - ps.length) (.pointer none)
theorem ptrs_length (ps : List (Nat × RE)) : (ptrs ps).length = ps.length := by simp [ptrs]
theorem OwnZ.start {W : World} {base g : Nat} (hg : Blk W g #[] 27) (hb : base ≤ g) : OwnZ W base (.slice (some ⟨g, 0, none⟩) 0 0) [] :=
  ⟨g, 0, #[], rfl, hb, hg, by simp, by unfold maxLen; omega, rfl⟩
theorem OwnZ.keep {W W' : World} {base : Nat} {v : Value} {ps : List (Nat × RE)} (h : OwnZ W base v ps) (hb : Below W.heap.size W W') : OwnZ W' base v ps := by
  obtain ⟨g, cap, cur, e, h1, h2, h3⟩ := h.own
  exact ⟨g, cap, cur, e, h1, h2.below hb h2.lt, h3⟩
theorem OwnZ.row {W : World} {base : Nat} {v : Value} {ps : List (Nat × RE)} (h : OwnZ W base v ps) (hl : ps.length ≤ 4611686018427387904) : RowAt W v ps := by
  obtain ⟨g, cap, cur, rfl, h1, h2, h3, h4, h5⟩ := h.own
  refine ⟨⟨hl, .mk h3⟩, _, cap, rfl, fun j p hp => ⟨g, 0, rfl, h2.lt, ?_⟩⟩
  have hj : j < ps.length := (List.getElem?_eq_some_iff.1 hp).1
  rw [h2.cell, Nat.zero_add, ← Array.getElem?_toList, h5, List.getElem?_append_left (by rw [ptrs_length]; exact hj), ptrs, List.getElem?_map, hp]; rfl
/-- append of one pointer. -/
theorem run_appendZ {W : World} {base : Nat} {v : Value} {ps : List (Nat × RE)} (h : OwnZ W base v ps) (ty : TypeId) (sb b : Nat) (r : RE) (hs : Blk W sb #[PT b] 27) (hl : ps.length ≤ 1000000) (hbase : base ≤ W.heap.size) :
    ∃ v' W', (Builtin.append_ #[35, 35] ty #[v, .slice (some ⟨sb, 0, none⟩) 1 1]).run Tryd.prog W = .ok v' W' ∧ OwnZ W' base v' (ps ++ [(b, r)]) ∧ Below base W W' ∧ ∀ b' r', ReAt W b' r' → ReAt W' b' r' := by
  obtain ⟨i, hi, hz0, hz1, hz2⟩ := info_parts infoP
  obtain ⟨g, cap, cur, rfl, hbg, hg, hn, hcap, hcur⟩ := h.own
  have hnews := World.news_of_block hs
  have hpp : ptrs (ps ++ [(b, r)]) = ptrs ps ++ [PT b] := by simp [ptrs]
  have hpl := ptrs_length ps
  by_cases hroom : ps.length + 1 ≤ cap
  · have hcs : cur.size = cap := by rw [← Array.length_toList, hcur]; simp [hpl]; omega
    have hfit : ps.length * i.size + [PT b].length ≤ cur.size := by rw [hcs, hz1]; simp; omega
    have hr := run_append_room (P := Tryd.prog) W 35 ty 27 i Tryd.underlying35 hi g ps.length cap cur hg ⟨sb, 0, none⟩ 1 1 [PT b] (by rw [hz1]; rfl) hnews (by intro u hu; simp at hu; subst hu; rfl) hroom hfit
    rw [hz1, Nat.mul_one] at hr
    obtain ⟨c', hc'⟩ : ∃ c' : Array Value, c' = (cur.toList.take ps.length ++ [PT b] ++ cur.toList.drop (ps.length + [PT b].length)).toArray := ⟨_, rfl⟩
    rw [← hc'] at hr
    have hblk' : Blk (W.setRow g c') g c' 27 := setRow_heap W g cur _ 27 _ hg
    have hother : ∀ k, k ≠ g → (W.setRow g c').heap[k]? = W.heap[k]? := fun k hk => setRow_other W g k _ hk
    have hsz : (W.setRow g c').heap.size = W.heap.size := by simp
    have htake : cur.toList.take ps.length = ptrs ps := by rw [hcur, ← hpl]; exact List.take_left
    have hdrop : cur.toList.drop (ps.length + 1) = List.replicate (cap - (ps.length + 1)) (.pointer none) := by
      rw [hcur, List.drop_append, List.drop_eq_nil_of_le (by rw [hpl]; omega), hpl, List.nil_append, List.drop_replicate]
      congr 1
      omega
    refine ⟨_, _, hr, ⟨g, cap, c', by simp, hbg, hblk', by simpa using hroom, hcap, ?_⟩, ⟨rfl, rfl, rfl, by rw [hsz]; exact Nat.le_refl _, fun k hk => hother k (by omega)⟩, fun b' r' hr' => hr'.past (g := g) (by rw [hsz]; exact Nat.le_refl _) (fun k _ hk => hother k hk) hg hblk' ?_⟩
    · rw [hc', hpp]
      simp only [List.length_append, List.length_cons, List.length_nil]
      rw [htake, hdrop]
    · intro j u hj hu
      have hj' : cur.toList[j]? = some u := by rw [Array.getElem?_toList]; exact hj
      have hjl : j < ps.length := by
        rw [hcur] at hj'
        rcases Nat.lt_or_ge j ps.length with h | h
        · exact h
        · exfalso
          rw [List.getElem?_append_right (by rw [hpl]; exact h), List.getElem?_replicate] at hj'
          split at hj'
          · injection hj' with e; exact hu e.symm
          · cases hj'
      rw [hc', ← Array.getElem?_toList, List.append_assoc, List.getElem?_append_left (by rw [htake, hpl]; exact hjl), List.getElem?_take, if_pos hjl]
      exact hj'
  · have hce : cap = ps.length := by omega
    have holds : ∀ j u, (ptrs ps)[j]? = some u → W.cell? ((⟨g, 0, none⟩ : Addr).add j) = some u := fun j u hu => by
      rw [Go.WideShapes.add_plain, Nat.zero_add, hg.cell, ← Array.getElem?_toList, hcur, List.getElem?_append_left (List.getElem?_eq_some_iff.1 hu).1]
      exact hu
    have hr := run_append_grow (P := Tryd.prog) W 35 ty 27 i (.pointer none) Tryd.underlying35 hi hz0 ⟨g, 0, none⟩ ps.length cap (ptrs ps) (by rw [hz1, hpl]; omega) holds ⟨sb, 0, none⟩ 1 1 [PT b] (by rw [hz1]; rfl) hnews (by omega) (by omega) (by rw [hz2]; exact growslice_fits (by omega) (by omega))
    have hge := grownCap_ge W (ps.length + 1) cap 27
    have hcm : grownCap W (ps.length + 1) cap 27 ≤ maxLen := grownCap_le_maxLen W (ps.length + 1) cap _ (by unfold maxLen; omega)
    obtain ⟨W', hW'⟩ : ∃ W', W' = W.drew.alloc (.cells ((ptrs ps).toArray ++ [PT b].toArray ++ Builtin.zeroCells (Value.pointer none).cells (grownCap W (ps.length + 1) cap 27 - (ps.length + 1))) 27) := ⟨_, rfl⟩
    rw [← hW'] at hr
    have hbel : Below W.heap.size W W' := by rw [hW']; exact ⟨rfl, rfl, rfl, by simp, fun k hk => heap_alloc_old W.drew _ hk⟩
    have hblk : Blk W' W.heap.size ((ptrs ps).toArray ++ [PT b].toArray ++ Builtin.zeroCells (Value.pointer none).cells (grownCap W (ps.length + 1) cap 27 - (ps.length + 1))) 27 := by rw [hW']; exact heap_alloc_new W.drew _
    refine ⟨_, _, hr, ⟨W.heap.size, _, _, by simp, hbase, hblk, by simpa using hge, hcm, ?_⟩, hbel.mono hbase, fun b' r' hr' => hr'.keep hbel⟩
    rw [hpp]
    simp only [Array.toList_append, List.append_assoc, List.length_append, List.length_cons, List.length_nil]
    congr 2
    simp [Builtin.zeroCells, Value.cells]
    apply List.ext_getElem
    · simp
    · intro j h1 h2
      simp [Nat.mod_one]

theorem nodes_kid {o : Int} {l u : Nat} {t : ByteArray} {ks : List SHP} {k : SHP} (hk : k ∈ ks) : k.nodes + 1 ≤ (SHP.mk o l u t ks).nodes := by
  rw [SHP.nodes_mk]
  have : k.nodes ≤ (ks.map SHP.nodes).sum := by
    induction ks with
    | nil => simp at hk
    | cons x ks ih =>
      rw [List.map_cons, List.sum_cons]
      rcases List.mem_cons.1 hk with rfl | hk
      · omega
      · have := ih hk; omega
  omega
theorem kids_len (ks : List SHP) : ks.length ≤ (ks.map SHP.nodes).sum := by
  induction ks with
  | nil => simp
  | cons x ks ih =>
    rw [List.map_cons, List.sum_cons]
    have : 1 ≤ x.nodes := by cases x; rw [SHP.nodes_mk]; omega
    simp; omega
/-- Expressions of a few short shapes: bounds that the calls want. -/
theorem res_bounds (ks : List SHP) (ht : ∀ k ∈ ks, Tx k) (hn : (ks.map SHP.nodes).sum ≤ 1000) : ks.length ≤ 1000 ∧ (catL (ks.map SHP.re)).length ≤ 22000 ∧ (flatL 4 (ks.map SHP.re)).length ≤ 22000 ∧ (flatL 6 (ks.map SHP.re)).length ≤ 22000 := by
  have h0 := kids_len ks
  have h1 : cntL (ks.map SHP.re) ≤ 22 * (ks.map SHP.nodes).sum := by
    clear h0 hn
    induction ks with
    | nil => simp [cntL]
    | cons x ks ih =>
      have e1 := x.cnt (ht x (by simp))
      have e2 := ih (fun k hk => ht k (by simp [hk]))
      rw [List.map_cons, cntL_cons, List.map_cons, List.sum_cons]
      omega
  have a1 := cntL_len (catL (ks.map SHP.re)); have a2 := cntL_catL (ks.map SHP.re)
  have b1 := cntL_len (flatL 4 (ks.map SHP.re)); have b2 := cntL_flatL 4 (ks.map SHP.re)
  have c1 := cntL_len (flatL 6 (ks.map SHP.re)); have c2 := cntL_flatL 6 (ks.map SHP.re)
  omega

/-- What Make keeps. -/
structure MkW (w : World) (B : Nat) (c : Array Value) (out : Value) (ps : List (Nat × RE)) (W : World) : Prop where
  own : OwnZ W (B + 1) out ps
  elem : ∀ p ∈ ps, ReAt W p.1 p.2
  box : Blk W B c 24
  below : Below B w W
theorem MkW.step {w W W' : World} {B : Nat} {c : Array Value} {out : Value} {ps : List (Nat × RE)} (h : MkW w B c out ps W) (hb : Below W.heap.size W W') : MkW w B c out ps W' :=
  ⟨h.own.keep hb, fun p hp => (h.elem p hp).keep hb, h.box.below hb h.box.lt, h.below.trans (hb.mono (by have := h.box.lt; omega))⟩
theorem MkW.append {w W : World} {B : Nat} {c : Array Value} {out : Value} {ps : List (Nat × RE)} (h : MkW w B c out ps W) (ty : TypeId) (sb b : Nat) (r : RE) (hs : Blk W sb #[PT b] 27) (hr : ReAt W b r) (hl : ps.length ≤ 1000000) :
    ∃ v' W', (Builtin.append_ #[35, 35] ty #[out, .slice (some ⟨sb, 0, none⟩) 1 1]).run Tryd.prog W = .ok v' W' ∧ MkW w B c v' (ps ++ [(b, r)]) W' := by
  obtain ⟨v', W', h1, h2, h3, h4⟩ := run_appendZ h.own ty sb b r hs hl (by have := h.box.lt; omega)
  refine ⟨v', W', h1, h2, fun p hp => ?_, h.box.below h3 (by omega), h.below.trans (h3.mono (by omega))⟩
  rcases List.mem_append.1 hp with hp | hp
  · exact h4 _ _ (h.elem p hp)
  · simp at hp; subst hp; exact h4 _ _ hr
theorem OwnZ.slice {W : World} {base : Nat} {v : Value} {ps : List (Nat × RE)} (h : OwnZ W base v ps) : ∃ g cap, v = .slice (some ⟨g, 0, none⟩) ps.length cap := by
  obtain ⟨g, cap, cur, rfl, -⟩ := h.own
  exact ⟨g, cap, rfl⟩

theorem wf_getD {l : List RE} (h : ∀ r ∈ l, Wf r) (i : Nat) : Wf (l.getD i rNothing) := by
  by_cases hi : i < l.length
  · rw [show l.getD i rNothing = l[i] from by simp [List.getD_eq_getElem?_getD, hi]]; exact h _ (List.getElem_mem hi)
  · rw [show l.getD i rNothing = rNothing from by simp [List.getD_eq_getElem?_getD, hi]]; exact wf_nothing

set_option maxHeartbeats 4000000 in
theorem make_any (s : SHP) : ∀ (cs : List Value) (w : World), ShC w cs s → Tx s → s.nodes ≤ 30 → TabAt w →
    Calls Tryd.prog 8 #[ShVal cs] w fun e w' => ∃ b, e = .returned (PT b) ∧ ReAt w' b s.re ∧ Below w.heap.size w w' := by
  refine SHP.ind (P := fun s => ∀ (cs : List Value) (w : World), ShC w cs s → Tx s → s.nodes ≤ 30 → TabAt w →
    Calls Tryd.prog 8 #[ShVal cs] w fun e w' => ∃ b, e = .returned (PT b) ∧ ReAt w' b s.re ∧ Below w.heap.size w w') ?_ s
  intro o l u t ks ih cs w h htx hnd hT
  have hkt : ∀ k ∈ ks, Tx k := by cases htx; assumption
  have ht20 : t.size ≤ 20 := by cases htx; assumption
  have hkn : ∀ k ∈ ks, k.nodes ≤ 30 := fun k hk => by have := nodes_kid (o := o) (l := l) (u := u) (t := t) hk; omega
  have hsum : (ks.map SHP.nodes).sum ≤ 1000 := by rw [SHP.nodes_mk] at hnd; omega
  obtain ⟨hb0, hb3, hb4, hb6⟩ := res_bounds ks hkt hsum
  have hC := h
  obtain ⟨v, rfl, hrow, ho, hlo, hhi, -⟩ := h.open
  simp only [SHP.op, SHP.lo, SHP.hi, SHP.text, SHP.kids] at hrow ho hlo hhi hC ⊢
  obtain ⟨-, a, cap, rfl, -⟩ := hrow.at
  obtain ⟨res, hres⟩ : ∃ res, res = (SHP.mk o l u t ks).re := ⟨_, rfl⟩
  rw [← hres]
  rw [SHP.re_mk] at hres
  have HRES := hide hres
  have HR := hide hrow
  have HC := hide hC
  have HT := hide hT
  clear h hrow hC hT hres htx hnd hsum
  obtain ⟨B, hB⟩ : ∃ B, B = w.heap.size := ⟨_, rfl⟩
  have HB := hide hB
  unfold ShVal
  go_enter Tryd.func8, Tryd.ntmps8
  go_wp2
  have hM0 : MkW w B #[.int .i64 o, .int .u8 l, .int .u8 u, .string t, .slice a ks.length cap] (.slice (some ⟨B + 1, 0, none⟩) 0 0) [] ((w.alloc (.cells #[.int .i64 o, .int .u8 l, .int .u8 u, .string t, .slice a ks.length cap] 24)).alloc (.cells #[] 27)) :=
    ⟨OwnZ.start (Blk.newAt (by simp [hB]) _ _) (Nat.le_refl _), fun p hp => by simp at hp, (Blk.newAt hB _ _).alloc _, ((Below.refl B w).alloc (Nat.le_of_eq hB) _).alloc (by simp; omega) _⟩
  rw [← hB]
  clear hB
  go_loopw [3, 14] (fun out c wr => ∃ (k : Nat) (ps : List (Nat × RE)), k ≤ ks.length ∧ c = .int .i64 k ∧ Hid (ps.length = k) ∧ Hid (ps.map Prod.snd = (ks.take k).map SHP.re) ∧ Hid (MkW w B #[.int .i64 o, .int .u8 l, .int .u8 u, .string t, .slice a ks.length cap] out ps wr)) (fun _ c _ => ks.length - (intOf c).toNat)
  case atStart => exact ⟨0, [], by omega, rfl, rfl, rfl, hM0⟩
  case round =>
    clear hM0
    obtain ⟨k, ps, hk, rfl, HL, HS, HM⟩ := hrel
    obtain ⟨-, a', cap', e1, g1⟩ := (HR.out.keep (show Below w.heap.size w wr from HB.out ▸ HM.out.below)).at
    obtain ⟨rfl, rfl⟩ : a = a' ∧ cap = cap' := by cases e1; exact ⟨rfl, rfl⟩
    clear e1
    have hTW : TabAt wr := HT.out.agree (Agree.of_all (K := fun _ => True) (HB.out ▸ HM.out.below)) trivial
    by_cases hlt : k < ks.length
    · have hkd : decide (k < ks.length) = true := by simp [hlt]
      obtain ⟨b, off, kv, rfl, -, ⟨c0, c1, c2, c3, c4⟩, hC⟩ := g1 k hlt
      have hb1 := (Below.refl wr.heap.size wr).alloc (Nat.le_refl _) (.cells #[.int .i64 ks[k].op, .int .u8 ks[k].lo, .int .u8 ks[k].hi, .string ks[k].text, kv] 24)
      have hmem := List.getElem_mem hlt
      have hrec := ih _ hmem _ _ (hC.keep hb1) (hkt _ hmem) (hkn _ hmem) (hTW.agree (Agree.of_all (K := fun _ => True) hb1) trivial)
      have HTK := hide (show ks.take (k + 1) = ks.take k ++ [ks[k]] from List.take_succ_eq_append_getElem hlt)
      obtain ⟨-, kf, kcap, hkv, -⟩ : True ∧ ∃ a c, kv = .slice a (ks[k]).kids.length c ∧ True := by
        obtain ⟨v', e', hr', -⟩ := hC.open
        obtain ⟨-, a', c', e'', -⟩ := hr'.at
        have : kv = v' := by simpa using e'
        exact ⟨trivial, a', c', this.trans e'', trivial⟩
      have HREC := hide hrec
      have HM1 := hide (HM.out.step hb1)
      have hps1000 : ps.length ≤ 1000000 := by rw [HL.out]; omega
      subst hkv
      generalize hks : ks[k] = sk at *
      clear hrec hC g1 hb1 hmem
      unfold ShVal at HREC
      go_wp2_with fail
      refine HREC.out.mono ?_
      rintro e w2 ⟨kb, rfl, hkr, hb2⟩
      have HM2 := hide (HM1.out.step hb2)
      have hb3 := (Below.refl w2.heap.size w2).alloc (Nat.le_refl _) (.cells #[PT kb] 27)
      obtain ⟨v3, W3, hr3, hM3⟩ := (HM2.out.step hb3).append 35 w2.heap.size kb sk.re (Blk.newAt rfl _ _) (hkr.keep hb3) hps1000
      have HM3 := hide hM3
      obtain ⟨g3, cp3, rfl⟩ := hM3.own.slice
      obtain ⟨g2, cp2, hu⟩ := HM.out.own.slice
      subst hu
      unfold PT at hr3 ⊢
      clear hkr hb2 hb3 hM3 HREC HM1 c0 c1 c2 c3 c4
      go_wp2_with (refine wpList_append_run rfl _ _ _ rfl _ _ _ rfl rfl hr3 ?_)
      refine ⟨⟨k + 1, ps ++ [(kb, sk.re)], by omega, by go_num, ?_, ?_, ?_⟩, by simp [intOf]; omega⟩
      · show (ps ++ [_]).length = k + 1
        rw [List.length_append, HL.out]; rfl
      · show (ps ++ [_]).map Prod.snd = _
        rw [HTK.out, List.map_append, List.map_append, HS.out]; rfl
      · have h3 := HM3.out
        rw [show (ps ++ [(kb, sk.re)]).length = ps.length + 1 from by simp] at h3
        exact h3
    · obtain rfl : k = ks.length := by omega
      rw [List.take_length] at HS
      clear g1
      have hlp := HL.out
      have hrow := (HM.out.own.row (by omega)).res HM.out.elem
      rw [HS.out] at hrow
      have HROW := hide hrow
      have hwf : ∀ r ∈ ks.map SHP.re, Wf r := fun r hr => by
        obtain ⟨x, -, rfl⟩ := List.mem_map.1 hr
        exact x.wf
      have hlm : (ks.map SHP.re).length ≤ 1000 := by simpa using hb0
      have hsB : B ≤ wr.heap.size := by have := HM.out.box.lt; omega
      obtain ⟨g2, cp2, hu⟩ := HM.out.own.slice
      rw [hlp] at hu
      subst hu
      have hkv : (SHP.mk o l u t ks).k < 9 := by unfold SHP.k; omega
      generalize hkk : (SHP.mk o l u t ks).k = kk at *
      clear hrow hTW hlp HL HS ih hkt hkn
      by_cases hz0 : 0 < ks.length
      · have hd0 : decide ((0 : Int) < ks.length) = true := decide_eq_true (by omega)
        by_cases hz1 : 1 < ks.length
        · have hd1 : decide ((1 : Int) < ks.length) = true := decide_eq_true (by omega)
          have hd1' : decide (1 < ks.length) = true := by simp [hz1]
          go_wp2_with fail
          refine (nothing_any _).mono ?_
          rintro e w2 ⟨nb, rfl, hnb, hb2⟩
          have HM2 := hide (HM.out.step hb2)
          have HN2 := hide hnb
          have HROW2 := hide (HROW.out.below hb2)
          clear hnb hb2
          obtain ⟨-, aq, cq, eq, gq⟩ := HROW2.out.at
          obtain ⟨qb, qo, p0, qe, -, d0, r0⟩ := gq 0 (by rw [List.length_map]; omega)
          have hqq : qb = g2 ∧ qo = 0 := by injection eq with e1 e2 e3; rw [← e1] at qe; injection qe with qe; injection qe with q1 q2; exact ⟨q1.symm, q2.symm⟩
          obtain ⟨rfl, rfl⟩ := hqq
          have H10 := hide r0
          unfold PT at d0
          rw [Nat.add_zero] at d0
          have hl0 : 0 < ks.length := by omega
          clear eq gq qe r0
          unfold PT
          go_wp2_with fail
          refine (nothing_any _).mono ?_
          rintro e w4 ⟨nb2, rfl, hnb2, hb4⟩
          have HM4 := hide (HM2.out.step hb4)
          have HROW4 := hide (HROW2.out.below hb4)
          have hone : (ks.map SHP.re).getD 0 rNothing = (ks.map SHP.re)[0]'(by rw [List.length_map]; omega) := by rw [List.getD_eq_getElem?_getD, List.getElem?_eq_getElem (by rw [List.length_map]; omega)]; rfl
          have H14 : Hid (ReAt w4 p0 ((ks.map SHP.re).getD 0 rNothing)) := by show ReAt _ _ _; rw [hone]; exact H10.out.keep hb4
          have htwo : (ks.map SHP.re).getD 1 rNothing = (ks.map SHP.re)[1]'(by rw [List.length_map]; omega) := by rw [List.getD_eq_getElem?_getD, List.getElem?_eq_getElem (by rw [List.length_map]; omega)]; rfl
          obtain ⟨-, aq, cq, eq, gq⟩ := HROW4.out.at
          obtain ⟨qb2, qo2, p1, qe, -, d1, r1⟩ := gq 1 (by rw [List.length_map]; omega)
          have hqq : qb2 = qb ∧ qo2 = 0 := by injection eq with e1 e2 e3; rw [← e1] at qe; injection qe with qe; injection qe with q1 q2; exact ⟨q1.symm, q2.symm⟩
          obtain ⟨rfl, rfl⟩ := hqq
          unfold PT at d1
          rw [Nat.zero_add] at d1
          have H24 : Hid (ReAt w4 p1 ((ks.map SHP.re).getD 1 rNothing)) := by show ReAt _ _ _; rw [htwo]; exact r1
          have hl1 : 1 < ks.length := by omega
          clear eq gq qe r1
          have hwone : WfK ((ks.map SHP.re).getD 0 rNothing) := (wf_getD hwf 0).k
          have hwtwo : WfK ((ks.map SHP.re).getD 1 rNothing) := (wf_getD hwf 1).k
          clear hone htwo hnb2 hb4 HM2 HROW2 HN2 d0 H10
          unfold PT
          have hb4s : Below w.heap.size w w4 := HB.out ▸ HM4.out.below
          have xB := HM4.out.box
          have x0 := xB.cell 0; have x1 := xB.cell 1; have x2 := xB.cell 2; have x3 := xB.cell 3; have x4 := xB.cell 4
          simp only [List.getElem?_toArray, List.getElem?_cons_zero, List.getElem?_cons_succ] at x0 x1 x2 x3 x4
          clear xB
          have hopc := op_any _ _ w4 (HC.out.keep hb4s)
          rw [hkk] at hopc
          have HOP := hide hopc
          clear hopc hb4s
          unfold ShVal at HOP
          go_wp2_with fail
          refine HOP.out.mono ?_
          rintro e w5 ⟨rfl, hb5⟩
          have HM5 := hide (HM4.out.step hb5)
          have H15 := hide (H14.out.keep hb5)
          have H25 := hide (H24.out.keep hb5)
          have HROW5 := hide (HROW4.out.below hb5)
          have hsB5 : B ≤ w5.heap.size := by have := HM5.out.box.lt; omega
          have hb5s : Below w.heap.size w w5 := HB.out ▸ HM5.out.below
          have HT5 := hide (HT.out.agree (Agree.of_all (K := fun _ => True) hb5s) trivial)
          have HC5 := hide (HC.out.keep hb5s)
          clear hb5 HM4 H14 H24 HROW4 HOP x0 x1 x2 x3 x4 hb5s
          have hkc : kk = 0 ∨ kk = 1 ∨ kk = 2 ∨ kk = 3 ∨ kk = 4 ∨ kk = 5 ∨ kk = 6 ∨ kk = 7 ∨ kk = 8 := by omega
          clear hkv
          rcases hkc with rfl | rfl | rfl | rfl | rfl | rfl | rfl | rfl | rfl
          · have HRES2 : Hid (res = rNothing) := HRES.out
            clear HRES
            go_wp2_with fail
            refine (nothing_any _).mono ?_
            rintro e w6 ⟨rb, rfl, hr, hb⟩
            go_wp2
            go_ret
            refine ⟨rb, rfl, by rw [HRES2.out]; exact hr, ?_⟩
            rw [← HB.out]
            exact HM5.out.below.trans (hb.mono hsB5)
          · have HRES2 : Hid (res = rEmpty) := HRES.out
            clear HRES
            go_wp2_with fail
            refine (empty_re _).mono ?_
            rintro e w6 ⟨rb, rfl, hr, hb⟩
            go_wp2
            go_ret
            refine ⟨rb, rfl, by rw [HRES2.out]; exact hr, ?_⟩
            rw [← HB.out]
            exact HM5.out.below.trans (hb.mono hsB5)
          · have HRES2 : Hid (res = rOne (span (97 + l % 4) (97 + u % 4 + 1))) := HRES.out
            clear HRES
            have xB := HM5.out.box
            have x0 := xB.cell 0; have x1 := xB.cell 1; have x2 := xB.cell 2; have x3 := xB.cell 3; have x4 := xB.cell 4
            simp only [List.getElem?_toArray, List.getElem?_cons_zero, List.getElem?_cons_succ] at x0 x1 x2 x3 x4
            clear xB
            have hlow := low_any _ _ w5 HC5.out
            have HLOW := hide hlow
            clear hlow
            simp only [ShVal, SHP.lo, SHP.hi] at HLOW
            go_wp2_with fail
            refine HLOW.out.mono ?_
            rintro e w6 ⟨rfl, hb6⟩
            have HB6 := hide (HM5.out.below.trans (hb6.mono hsB5))
            have hsB6 : B ≤ w6.heap.size := by have := hb6.size; omega
            clear hb6 x0 x1 x2 x3 x4 HLOW
            go_wp2_with fail
            refine (from_any (97 + l % 4) (97 + u % 4) (by omega) (by omega) _).mono ?_
            rintro e w7 ⟨rfl, hb7⟩
            have HB7 := hide (HB6.out.trans (hb7.mono hsB6))
            have hsB7 : B ≤ w7.heap.size := by have := hb7.size; omega
            clear hb7
            go_wp2_with fail
            refine (one_any _ _).mono ?_
            rintro e w8 ⟨rb, rfl, hr, hb⟩
            go_wp2
            go_ret
            refine ⟨rb, rfl, by rw [HRES2.out]; exact hr, ?_⟩
            rw [← HB.out]
            exact HB7.out.trans (hb.mono hsB7)
          · have HRES2 : Hid (res = rThen (ks.map SHP.re)) := HRES.out
            clear HRES
            go_wp2_with fail
            refine (then_any _ _ _ HROW5.out hwf (by omega) (by omega)).mono ?_
            rintro e w6 ⟨rb, rfl, hr, hb⟩
            go_wp2
            go_ret
            refine ⟨rb, rfl, by rw [HRES2.out]; exact hr, ?_⟩
            rw [← HB.out]
            exact HM5.out.below.trans (hb.mono hsB5)
          · have HRES2 : Hid (res = rAny (ks.map SHP.re)) := HRES.out
            clear HRES
            go_wp2_with fail
            refine (any_re _ _ _ HROW5.out hwf (by omega) (by omega) HT5.out).mono ?_
            rintro e w6 ⟨rb, rfl, hr, hb⟩
            go_wp2
            go_ret
            refine ⟨rb, rfl, by rw [HRES2.out]; exact hr, ?_⟩
            rw [← HB.out]
            exact HM5.out.below.trans (hb.mono hsB5)
          · have HRES2 : Hid (res = rMany ((ks.map SHP.re).getD 0 rNothing)) := HRES.out
            clear HRES
            go_wp2_with fail
            refine (many_any _ _ _ H15.out).mono ?_
            rintro e w6 ⟨rb, rfl, hr, hb⟩
            go_wp2
            go_ret
            refine ⟨rb, rfl, by rw [HRES2.out]; exact hr, ?_⟩
            rw [← HB.out]
            exact HM5.out.below.trans (hb.mono hsB5)
          · have HRES2 : Hid (res = rBoth (ks.map SHP.re)) := HRES.out
            clear HRES
            go_wp2_with fail
            refine (both_re _ _ _ HROW5.out hwf (by omega) (by omega) HT5.out).mono ?_
            rintro e w6 ⟨rb, rfl, hr, hb⟩
            go_wp2
            go_ret
            refine ⟨rb, rfl, by rw [HRES2.out]; exact hr, ?_⟩
            rw [← HB.out]
            exact HM5.out.below.trans (hb.mono hsB5)
          · have HRES2 : Hid (res = rBut ((ks.map SHP.re).getD 0 rNothing) ((ks.map SHP.re).getD 1 rNothing)) := HRES.out
            clear HRES
            go_wp2_with fail
            refine (but_any _ _ _ _ _ H15.out H25.out hwone hwtwo HT5.out).mono ?_
            rintro e w6 ⟨rb, rfl, hr, hb⟩
            go_wp2
            go_ret
            refine ⟨rb, rfl, by rw [HRES2.out]; exact hr, ?_⟩
            rw [← HB.out]
            exact HM5.out.below.trans (hb.mono hsB5)
          · have HRES2 : Hid (res = rWord (bytesN t)) := HRES.out
            clear HRES
            have xB := HM5.out.box
            have x0 := xB.cell 0; have x1 := xB.cell 1; have x2 := xB.cell 2; have x3 := xB.cell 3; have x4 := xB.cell 4
            simp only [List.getElem?_toArray, List.getElem?_cons_zero, List.getElem?_cons_succ] at x0 x1 x2 x3 x4
            clear xB
            go_wp2_with fail
            refine (word_any t _ (by omega)).mono ?_
            rintro e w6 ⟨rb, rfl, hr, hb⟩
            go_wp2
            go_ret
            refine ⟨rb, rfl, by rw [HRES2.out]; exact hr, ?_⟩
            rw [← HB.out]
            exact HM5.out.below.trans (hb.mono hsB5)
        · have hd1 : decide ((1 : Int) < ks.length) = false := decide_eq_false (by omega)
          have hd1' : decide (1 < ks.length) = false := decide_eq_false (by omega)
          go_wp2_with fail
          refine (nothing_any _).mono ?_
          rintro e w2 ⟨nb, rfl, hnb, hb2⟩
          have HM2 := hide (HM.out.step hb2)
          have HN2 := hide hnb
          have HROW2 := hide (HROW.out.below hb2)
          clear hnb hb2
          obtain ⟨-, aq, cq, eq, gq⟩ := HROW2.out.at
          obtain ⟨qb, qo, p0, qe, -, d0, r0⟩ := gq 0 (by rw [List.length_map]; omega)
          have hqq : qb = g2 ∧ qo = 0 := by injection eq with e1 e2 e3; rw [← e1] at qe; injection qe with qe; injection qe with q1 q2; exact ⟨q1.symm, q2.symm⟩
          obtain ⟨rfl, rfl⟩ := hqq
          have H10 := hide r0
          unfold PT at d0
          rw [Nat.add_zero] at d0
          have hl0 : 0 < ks.length := by omega
          clear eq gq qe r0
          unfold PT
          go_wp2_with fail
          refine (nothing_any _).mono ?_
          rintro e w4 ⟨nb2, rfl, hnb2, hb4⟩
          have HM4 := hide (HM2.out.step hb4)
          have HROW4 := hide (HROW2.out.below hb4)
          have hone : (ks.map SHP.re).getD 0 rNothing = (ks.map SHP.re)[0]'(by rw [List.length_map]; omega) := by rw [List.getD_eq_getElem?_getD, List.getElem?_eq_getElem (by rw [List.length_map]; omega)]; rfl
          have H14 : Hid (ReAt w4 p0 ((ks.map SHP.re).getD 0 rNothing)) := by show ReAt _ _ _; rw [hone]; exact H10.out.keep hb4
          have htwo : (ks.map SHP.re).getD 1 rNothing = rNothing := by rw [List.getD_eq_getElem?_getD, List.getElem?_eq_none (by rw [List.length_map]; omega)]; rfl
          have H24 : Hid (ReAt w4 nb2 ((ks.map SHP.re).getD 1 rNothing)) := by show ReAt _ _ _; rw [htwo]; exact hnb2
          have hwone : WfK ((ks.map SHP.re).getD 0 rNothing) := (wf_getD hwf 0).k
          have hwtwo : WfK ((ks.map SHP.re).getD 1 rNothing) := (wf_getD hwf 1).k
          clear hone htwo hnb2 hb4 HM2 HROW2 HN2 d0 H10
          unfold PT
          have hb4s : Below w.heap.size w w4 := HB.out ▸ HM4.out.below
          have xB := HM4.out.box
          have x0 := xB.cell 0; have x1 := xB.cell 1; have x2 := xB.cell 2; have x3 := xB.cell 3; have x4 := xB.cell 4
          simp only [List.getElem?_toArray, List.getElem?_cons_zero, List.getElem?_cons_succ] at x0 x1 x2 x3 x4
          clear xB
          have hopc := op_any _ _ w4 (HC.out.keep hb4s)
          rw [hkk] at hopc
          have HOP := hide hopc
          clear hopc hb4s
          unfold ShVal at HOP
          go_wp2_with fail
          refine HOP.out.mono ?_
          rintro e w5 ⟨rfl, hb5⟩
          have HM5 := hide (HM4.out.step hb5)
          have H15 := hide (H14.out.keep hb5)
          have H25 := hide (H24.out.keep hb5)
          have HROW5 := hide (HROW4.out.below hb5)
          have hsB5 : B ≤ w5.heap.size := by have := HM5.out.box.lt; omega
          have hb5s : Below w.heap.size w w5 := HB.out ▸ HM5.out.below
          have HT5 := hide (HT.out.agree (Agree.of_all (K := fun _ => True) hb5s) trivial)
          have HC5 := hide (HC.out.keep hb5s)
          clear hb5 HM4 H14 H24 HROW4 HOP x0 x1 x2 x3 x4 hb5s
          have hkc : kk = 0 ∨ kk = 1 ∨ kk = 2 ∨ kk = 3 ∨ kk = 4 ∨ kk = 5 ∨ kk = 6 ∨ kk = 7 ∨ kk = 8 := by omega
          clear hkv
          rcases hkc with rfl | rfl | rfl | rfl | rfl | rfl | rfl | rfl | rfl
          · have HRES2 : Hid (res = rNothing) := HRES.out
            clear HRES
            go_wp2_with fail
            refine (nothing_any _).mono ?_
            rintro e w6 ⟨rb, rfl, hr, hb⟩
            go_wp2
            go_ret
            refine ⟨rb, rfl, by rw [HRES2.out]; exact hr, ?_⟩
            rw [← HB.out]
            exact HM5.out.below.trans (hb.mono hsB5)
          · have HRES2 : Hid (res = rEmpty) := HRES.out
            clear HRES
            go_wp2_with fail
            refine (empty_re _).mono ?_
            rintro e w6 ⟨rb, rfl, hr, hb⟩
            go_wp2
            go_ret
            refine ⟨rb, rfl, by rw [HRES2.out]; exact hr, ?_⟩
            rw [← HB.out]
            exact HM5.out.below.trans (hb.mono hsB5)
          · have HRES2 : Hid (res = rOne (span (97 + l % 4) (97 + u % 4 + 1))) := HRES.out
            clear HRES
            have xB := HM5.out.box
            have x0 := xB.cell 0; have x1 := xB.cell 1; have x2 := xB.cell 2; have x3 := xB.cell 3; have x4 := xB.cell 4
            simp only [List.getElem?_toArray, List.getElem?_cons_zero, List.getElem?_cons_succ] at x0 x1 x2 x3 x4
            clear xB
            have hlow := low_any _ _ w5 HC5.out
            have HLOW := hide hlow
            clear hlow
            simp only [ShVal, SHP.lo, SHP.hi] at HLOW
            go_wp2_with fail
            refine HLOW.out.mono ?_
            rintro e w6 ⟨rfl, hb6⟩
            have HB6 := hide (HM5.out.below.trans (hb6.mono hsB5))
            have hsB6 : B ≤ w6.heap.size := by have := hb6.size; omega
            clear hb6 x0 x1 x2 x3 x4 HLOW
            go_wp2_with fail
            refine (from_any (97 + l % 4) (97 + u % 4) (by omega) (by omega) _).mono ?_
            rintro e w7 ⟨rfl, hb7⟩
            have HB7 := hide (HB6.out.trans (hb7.mono hsB6))
            have hsB7 : B ≤ w7.heap.size := by have := hb7.size; omega
            clear hb7
            go_wp2_with fail
            refine (one_any _ _).mono ?_
            rintro e w8 ⟨rb, rfl, hr, hb⟩
            go_wp2
            go_ret
            refine ⟨rb, rfl, by rw [HRES2.out]; exact hr, ?_⟩
            rw [← HB.out]
            exact HB7.out.trans (hb.mono hsB7)
          · have HRES2 : Hid (res = rThen (ks.map SHP.re)) := HRES.out
            clear HRES
            go_wp2_with fail
            refine (then_any _ _ _ HROW5.out hwf (by omega) (by omega)).mono ?_
            rintro e w6 ⟨rb, rfl, hr, hb⟩
            go_wp2
            go_ret
            refine ⟨rb, rfl, by rw [HRES2.out]; exact hr, ?_⟩
            rw [← HB.out]
            exact HM5.out.below.trans (hb.mono hsB5)
          · have HRES2 : Hid (res = rAny (ks.map SHP.re)) := HRES.out
            clear HRES
            go_wp2_with fail
            refine (any_re _ _ _ HROW5.out hwf (by omega) (by omega) HT5.out).mono ?_
            rintro e w6 ⟨rb, rfl, hr, hb⟩
            go_wp2
            go_ret
            refine ⟨rb, rfl, by rw [HRES2.out]; exact hr, ?_⟩
            rw [← HB.out]
            exact HM5.out.below.trans (hb.mono hsB5)
          · have HRES2 : Hid (res = rMany ((ks.map SHP.re).getD 0 rNothing)) := HRES.out
            clear HRES
            go_wp2_with fail
            refine (many_any _ _ _ H15.out).mono ?_
            rintro e w6 ⟨rb, rfl, hr, hb⟩
            go_wp2
            go_ret
            refine ⟨rb, rfl, by rw [HRES2.out]; exact hr, ?_⟩
            rw [← HB.out]
            exact HM5.out.below.trans (hb.mono hsB5)
          · have HRES2 : Hid (res = rBoth (ks.map SHP.re)) := HRES.out
            clear HRES
            go_wp2_with fail
            refine (both_re _ _ _ HROW5.out hwf (by omega) (by omega) HT5.out).mono ?_
            rintro e w6 ⟨rb, rfl, hr, hb⟩
            go_wp2
            go_ret
            refine ⟨rb, rfl, by rw [HRES2.out]; exact hr, ?_⟩
            rw [← HB.out]
            exact HM5.out.below.trans (hb.mono hsB5)
          · have HRES2 : Hid (res = rBut ((ks.map SHP.re).getD 0 rNothing) ((ks.map SHP.re).getD 1 rNothing)) := HRES.out
            clear HRES
            go_wp2_with fail
            refine (but_any _ _ _ _ _ H15.out H25.out hwone hwtwo HT5.out).mono ?_
            rintro e w6 ⟨rb, rfl, hr, hb⟩
            go_wp2
            go_ret
            refine ⟨rb, rfl, by rw [HRES2.out]; exact hr, ?_⟩
            rw [← HB.out]
            exact HM5.out.below.trans (hb.mono hsB5)
          · have HRES2 : Hid (res = rWord (bytesN t)) := HRES.out
            clear HRES
            have xB := HM5.out.box
            have x0 := xB.cell 0; have x1 := xB.cell 1; have x2 := xB.cell 2; have x3 := xB.cell 3; have x4 := xB.cell 4
            simp only [List.getElem?_toArray, List.getElem?_cons_zero, List.getElem?_cons_succ] at x0 x1 x2 x3 x4
            clear xB
            go_wp2_with fail
            refine (word_any t _ (by omega)).mono ?_
            rintro e w6 ⟨rb, rfl, hr, hb⟩
            go_wp2
            go_ret
            refine ⟨rb, rfl, by rw [HRES2.out]; exact hr, ?_⟩
            rw [← HB.out]
            exact HM5.out.below.trans (hb.mono hsB5)
      · have hd0 : decide ((0 : Int) < ks.length) = false := decide_eq_false (by omega)
        have hd1 : decide ((1 : Int) < ks.length) = false := decide_eq_false (by omega)
        have hd0' : decide (0 < ks.length) = false := decide_eq_false (by omega)
        have hd1' : decide (1 < ks.length) = false := decide_eq_false (by omega)
        go_wp2_with fail
        refine (nothing_any _).mono ?_
        rintro e w2 ⟨nb, rfl, hnb, hb2⟩
        have HM2 := hide (HM.out.step hb2)
        have HN2 := hide hnb
        have HROW2 := hide (HROW.out.below hb2)
        clear hnb hb2
        unfold PT
        go_wp2_with fail
        refine (nothing_any _).mono ?_
        rintro e w4 ⟨nb2, rfl, hnb2, hb4⟩
        have HM4 := hide (HM2.out.step hb4)
        have HROW4 := hide (HROW2.out.below hb4)
        have hone : (ks.map SHP.re).getD 0 rNothing = rNothing := by rw [List.getD_eq_getElem?_getD, List.getElem?_eq_none (by rw [List.length_map]; omega)]; rfl
        have H14 : Hid (ReAt w4 nb ((ks.map SHP.re).getD 0 rNothing)) := by show ReAt _ _ _; rw [hone]; exact HN2.out.keep hb4
        have htwo : (ks.map SHP.re).getD 1 rNothing = rNothing := by rw [List.getD_eq_getElem?_getD, List.getElem?_eq_none (by rw [List.length_map]; omega)]; rfl
        have H24 : Hid (ReAt w4 nb2 ((ks.map SHP.re).getD 1 rNothing)) := by show ReAt _ _ _; rw [htwo]; exact hnb2
        have hwone : WfK ((ks.map SHP.re).getD 0 rNothing) := (wf_getD hwf 0).k
        have hwtwo : WfK ((ks.map SHP.re).getD 1 rNothing) := (wf_getD hwf 1).k
        clear hone htwo hnb2 hb4 HM2 HROW2 HN2
        unfold PT
        have hb4s : Below w.heap.size w w4 := HB.out ▸ HM4.out.below
        have xB := HM4.out.box
        have x0 := xB.cell 0; have x1 := xB.cell 1; have x2 := xB.cell 2; have x3 := xB.cell 3; have x4 := xB.cell 4
        simp only [List.getElem?_toArray, List.getElem?_cons_zero, List.getElem?_cons_succ] at x0 x1 x2 x3 x4
        clear xB
        have hopc := op_any _ _ w4 (HC.out.keep hb4s)
        rw [hkk] at hopc
        have HOP := hide hopc
        clear hopc hb4s
        unfold ShVal at HOP
        go_wp2_with fail
        refine HOP.out.mono ?_
        rintro e w5 ⟨rfl, hb5⟩
        have HM5 := hide (HM4.out.step hb5)
        have H15 := hide (H14.out.keep hb5)
        have H25 := hide (H24.out.keep hb5)
        have HROW5 := hide (HROW4.out.below hb5)
        have hsB5 : B ≤ w5.heap.size := by have := HM5.out.box.lt; omega
        have hb5s : Below w.heap.size w w5 := HB.out ▸ HM5.out.below
        have HT5 := hide (HT.out.agree (Agree.of_all (K := fun _ => True) hb5s) trivial)
        have HC5 := hide (HC.out.keep hb5s)
        clear hb5 HM4 H14 H24 HROW4 HOP x0 x1 x2 x3 x4 hb5s
        have hkc : kk = 0 ∨ kk = 1 ∨ kk = 2 ∨ kk = 3 ∨ kk = 4 ∨ kk = 5 ∨ kk = 6 ∨ kk = 7 ∨ kk = 8 := by omega
        clear hkv
        rcases hkc with rfl | rfl | rfl | rfl | rfl | rfl | rfl | rfl | rfl
        · have HRES2 : Hid (res = rNothing) := HRES.out
          clear HRES
          go_wp2_with fail
          refine (nothing_any _).mono ?_
          rintro e w6 ⟨rb, rfl, hr, hb⟩
          go_wp2
          go_ret
          refine ⟨rb, rfl, by rw [HRES2.out]; exact hr, ?_⟩
          rw [← HB.out]
          exact HM5.out.below.trans (hb.mono hsB5)
        · have HRES2 : Hid (res = rEmpty) := HRES.out
          clear HRES
          go_wp2_with fail
          refine (empty_re _).mono ?_
          rintro e w6 ⟨rb, rfl, hr, hb⟩
          go_wp2
          go_ret
          refine ⟨rb, rfl, by rw [HRES2.out]; exact hr, ?_⟩
          rw [← HB.out]
          exact HM5.out.below.trans (hb.mono hsB5)
        · have HRES2 : Hid (res = rOne (span (97 + l % 4) (97 + u % 4 + 1))) := HRES.out
          clear HRES
          have xB := HM5.out.box
          have x0 := xB.cell 0; have x1 := xB.cell 1; have x2 := xB.cell 2; have x3 := xB.cell 3; have x4 := xB.cell 4
          simp only [List.getElem?_toArray, List.getElem?_cons_zero, List.getElem?_cons_succ] at x0 x1 x2 x3 x4
          clear xB
          have hlow := low_any _ _ w5 HC5.out
          have HLOW := hide hlow
          clear hlow
          simp only [ShVal, SHP.lo, SHP.hi] at HLOW
          go_wp2_with fail
          refine HLOW.out.mono ?_
          rintro e w6 ⟨rfl, hb6⟩
          have HB6 := hide (HM5.out.below.trans (hb6.mono hsB5))
          have hsB6 : B ≤ w6.heap.size := by have := hb6.size; omega
          clear hb6 x0 x1 x2 x3 x4 HLOW
          go_wp2_with fail
          refine (from_any (97 + l % 4) (97 + u % 4) (by omega) (by omega) _).mono ?_
          rintro e w7 ⟨rfl, hb7⟩
          have HB7 := hide (HB6.out.trans (hb7.mono hsB6))
          have hsB7 : B ≤ w7.heap.size := by have := hb7.size; omega
          clear hb7
          go_wp2_with fail
          refine (one_any _ _).mono ?_
          rintro e w8 ⟨rb, rfl, hr, hb⟩
          go_wp2
          go_ret
          refine ⟨rb, rfl, by rw [HRES2.out]; exact hr, ?_⟩
          rw [← HB.out]
          exact HB7.out.trans (hb.mono hsB7)
        · have HRES2 : Hid (res = rThen (ks.map SHP.re)) := HRES.out
          clear HRES
          go_wp2_with fail
          refine (then_any _ _ _ HROW5.out hwf (by omega) (by omega)).mono ?_
          rintro e w6 ⟨rb, rfl, hr, hb⟩
          go_wp2
          go_ret
          refine ⟨rb, rfl, by rw [HRES2.out]; exact hr, ?_⟩
          rw [← HB.out]
          exact HM5.out.below.trans (hb.mono hsB5)
        · have HRES2 : Hid (res = rAny (ks.map SHP.re)) := HRES.out
          clear HRES
          go_wp2_with fail
          refine (any_re _ _ _ HROW5.out hwf (by omega) (by omega) HT5.out).mono ?_
          rintro e w6 ⟨rb, rfl, hr, hb⟩
          go_wp2
          go_ret
          refine ⟨rb, rfl, by rw [HRES2.out]; exact hr, ?_⟩
          rw [← HB.out]
          exact HM5.out.below.trans (hb.mono hsB5)
        · have HRES2 : Hid (res = rMany ((ks.map SHP.re).getD 0 rNothing)) := HRES.out
          clear HRES
          go_wp2_with fail
          refine (many_any _ _ _ H15.out).mono ?_
          rintro e w6 ⟨rb, rfl, hr, hb⟩
          go_wp2
          go_ret
          refine ⟨rb, rfl, by rw [HRES2.out]; exact hr, ?_⟩
          rw [← HB.out]
          exact HM5.out.below.trans (hb.mono hsB5)
        · have HRES2 : Hid (res = rBoth (ks.map SHP.re)) := HRES.out
          clear HRES
          go_wp2_with fail
          refine (both_re _ _ _ HROW5.out hwf (by omega) (by omega) HT5.out).mono ?_
          rintro e w6 ⟨rb, rfl, hr, hb⟩
          go_wp2
          go_ret
          refine ⟨rb, rfl, by rw [HRES2.out]; exact hr, ?_⟩
          rw [← HB.out]
          exact HM5.out.below.trans (hb.mono hsB5)
        · have HRES2 : Hid (res = rBut ((ks.map SHP.re).getD 0 rNothing) ((ks.map SHP.re).getD 1 rNothing)) := HRES.out
          clear HRES
          go_wp2_with fail
          refine (but_any _ _ _ _ _ H15.out H25.out hwone hwtwo HT5.out).mono ?_
          rintro e w6 ⟨rb, rfl, hr, hb⟩
          go_wp2
          go_ret
          refine ⟨rb, rfl, by rw [HRES2.out]; exact hr, ?_⟩
          rw [← HB.out]
          exact HM5.out.below.trans (hb.mono hsB5)
        · have HRES2 : Hid (res = rWord (bytesN t)) := HRES.out
          clear HRES
          have xB := HM5.out.box
          have x0 := xB.cell 0; have x1 := xB.cell 1; have x2 := xB.cell 2; have x3 := xB.cell 3; have x4 := xB.cell 4
          simp only [List.getElem?_toArray, List.getElem?_cons_zero, List.getElem?_cons_succ] at x0 x1 x2 x3 x4
          clear xB
          go_wp2_with fail
          refine (word_any t _ (by omega)).mono ?_
          rintro e w6 ⟨rb, rfl, hr, hb⟩
          go_wp2
          go_ret
          refine ⟨rb, rfl, by rw [HRES2.out]; exact hr, ?_⟩
          rw [← HB.out]
          exact HM5.out.below.trans (hb.mono hsB5)
end Go.Proofs.YthemadegffhmfaaDoor
/- Rows of expressions that one may append to; what package deriv asks of rows. -/
namespace Go.Proofs.YthemadegffhmfaaDoor
set_option maxRecDepth 100000
set_option linter.unusedSimpArgs false
set_option linter.unusedVariables false
open Go.RowKit

/-- A row that may be appended to: it has no room behind its end, or it is one's own. -/
structure Fine (W : World) (base : Nat) (v : Value) (ps : List (Nat × RE)) : Prop where
  row : RowAt W v ps
  own : (∃ a, v = .slice a ps.length ps.length) ∨ OwnZ W base v ps
theorem Fine.keep {W W' : World} {base : Nat} {v : Value} {ps : List (Nat × RE)} (h : Fine W base v ps) (hb : Below W.heap.size W W') : Fine W' base v ps :=
  ⟨h.row.below hb, h.own.elim .inl fun h => .inr (h.keep hb)⟩
theorem Fine.nil (W : World) (base : Nat) : Fine W base (.slice none 0 0) [] :=
  ⟨⟨⟨by simp, .mk (by simp)⟩, none, 0, rfl, fun j p hp => by simp at hp⟩, .inl ⟨none, rfl⟩⟩
theorem OwnZ.lower {W : World} {base base' : Nat} {v : Value} {ps : List (Nat × RE)} (h : OwnZ W base v ps) (hb : base' ≤ base) : OwnZ W base' v ps := by
  obtain ⟨g, cap, cur, e, h1, h2⟩ := h.own
  exact ⟨g, cap, cur, e, Nat.le_trans hb h1, h2⟩
theorem Fine.lower {W : World} {base base' : Nat} {v : Value} {ps : List (Nat × RE)} (h : Fine W base v ps) (hb : base' ≤ base) : Fine W base' v ps :=
  ⟨h.row, h.own.elim .inl fun h => .inr (h.lower hb)⟩

theorem own_grown {W W' : World} {base K : Nat} {ps : List (Nat × RE)} (hW : W' = W.drew.alloc (.cells ((ptrs ps).toArray ++ Builtin.zeroCells (Value.pointer none).cells (K - ps.length)) 27)) (hK : ps.length ≤ K) (hm : K ≤ maxLen) (hbase : base ≤ W.heap.size) :
    OwnZ W' base (.slice (some ⟨W.heap.size, 0, none⟩) ps.length K) ps ∧ Below W.heap.size W W' := by
  have hblk : Blk W' W.heap.size ((ptrs ps).toArray ++ Builtin.zeroCells (Value.pointer none).cells (K - ps.length)) 27 := by rw [hW]; exact heap_alloc_new W.drew _
  refine ⟨⟨W.heap.size, _, _, rfl, hbase, hblk, hK, hm, ?_⟩, by rw [hW]; exact ⟨rfl, rfl, rfl, by simp, fun k hk => heap_alloc_old W.drew _ hk⟩⟩
  rw [Array.toList_append]
  congr 1
  simp [Builtin.zeroCells, Value.cells]
  apply List.ext_getElem
  · simp
  · intro j h1 h2
    simp [Nat.mod_one]

set_option maxHeartbeats 1000000 in
/-- append of a row. -/
theorem run_appendF {W : World} {base : Nat} {v u : Value} {ps qs : List (Nat × RE)} (h : Fine W base v ps) (hu : RowAt W u qs) (ty : TypeId) (hl : ps.length + qs.length ≤ 1099511627776) (hbase : base ≤ W.heap.size) :
    ∃ v' W', (Builtin.append_ #[35, 35] ty #[v, u]).run Tryd.prog W = .ok v' W' ∧ Fine W' base v' (ps ++ qs) ∧ Below base W W' ∧ ∀ b' r', ReAt W b' r' → ReAt W' b' r' := by
  obtain ⟨i, hi, hz0, hz1, hz2⟩ := info_parts infoP
  have hpp : ptrs (ps ++ qs) = ptrs ps ++ ptrs qs := by simp [ptrs]
  have hpl := ptrs_length ps
  have hql := ptrs_length qs
  obtain ⟨⟨hpn, hpc⟩, va, vc, rfl, hcells⟩ := h.row
  have hvc : ps.length ≤ vc := hpc _ _ _ rfl
  by_cases hq : qs = []
  · subst hq
    obtain ⟨⟨-, -⟩, ua, uc, rfl, -⟩ := hu
    have hs : Src Tryd.prog i.size 35 (.slice ua ([] : List (Nat × RE)).length uc) 0 [] W := by
      cases ua with
      | none => exact Src.ofNil (w := W) Tryd.underlying35 uc
      | some a => exact Src.ofSlice (w := W) Tryd.underlying35 a 0 uc [] (by simp) (by simp) (by simp)
    refine ⟨_, W, run_append_nothing W _ _ _ 27 i Tryd.underlying35 hi va ps.length vc hvc _ hs, ?_, Below.refl _ _, fun _ _ h => h⟩
    rw [List.append_nil]; exact h
  · have hq0 : 0 < qs.length := List.length_pos_iff.2 hq
    obtain ⟨ad, cap, rfl, hnews⟩ := hu.news hq0
    have hlen : (ps ++ qs).length = ps.length + qs.length := List.length_append
    have fin : ∀ (K : Nat) W', ps.length + qs.length ≤ K → K ≤ maxLen → W' = W.drew.alloc (.cells ((ptrs (ps ++ qs)).toArray ++ Builtin.zeroCells (Value.pointer none).cells (K - (ps.length + qs.length))) 27) →
        Fine W' base (.slice (some ⟨W.heap.size, 0, none⟩) (ps.length + qs.length) K) (ps ++ qs) ∧ Below base W W' ∧ ∀ b' r', ReAt W b' r' → ReAt W' b' r' := by
      intro K W' hK hm hW
      rw [← hlen] at hW hK ⊢
      obtain ⟨h1, h2⟩ := own_grown hW hK hm hbase
      exact ⟨⟨h1.row (by omega), .inr h1⟩, h2.mono hbase, fun b r hr => hr.keep h2⟩
    have hcm : ∀ c, grownCap W (ps.length + qs.length) c 27 ≤ maxLen ∨ True := fun c => .inr trivial
    have holds : ∀ b, va = some b → ∀ j u, (ptrs ps)[j]? = some u → W.cell? (b.add j) = some u := by
      intro b hb j u hju
      rw [ptrs, List.getElem?_map] at hju
      cases e : ps[j]? with
      | none => rw [e] at hju; cases hju
      | some p =>
        rw [e] at hju; simp at hju
        obtain ⟨b', off', e', -, hc⟩ := hcells j p e
        rw [hb] at e'; cases e'
        rw [Go.WideShapes.add_plain, hc, ← hju]
    by_cases hroom : ps.length + qs.length ≤ vc
    · rcases h.own with ⟨a, e⟩ | h
      · injection e with _ _ e; omega
      · obtain ⟨g, cp, cur, e, hbg, hg, hn, hcap, hcur⟩ := h.own
        injection e with e1 e2 e3
        subst e1 e3
        have hcs : cur.size = vc := by rw [← Array.length_toList, hcur]; simp [hpl]; omega
        have hfit : ps.length * i.size + (ptrs qs).length ≤ cur.size := by rw [hcs, hz1, hql]; omega
        have hr := run_append_room (P := Tryd.prog) W 35 ty 27 i Tryd.underlying35 hi g ps.length vc cur hg ad qs.length cap (ptrs qs) (by rw [hz1, hql]; omega) hnews (ptrs_one qs) hroom hfit
        rw [hz1, Nat.mul_one, hql] at hr
        obtain ⟨c', hc'⟩ : ∃ c' : Array Value, c' = (cur.toList.take ps.length ++ ptrs qs ++ cur.toList.drop (ps.length + qs.length)).toArray := ⟨_, rfl⟩
        rw [← hc'] at hr
        have hblk' : Blk (W.setRow g c') g c' 27 := setRow_heap W g cur _ 27 _ hg
        have hother : ∀ k, k ≠ g → (W.setRow g c').heap[k]? = W.heap[k]? := fun k hk => setRow_other W g k _ hk
        have hsz : (W.setRow g c').heap.size = W.heap.size := by simp
        have htake : cur.toList.take ps.length = ptrs ps := by rw [hcur, ← hpl]; exact List.take_left
        have hdrop : cur.toList.drop (ps.length + qs.length) = List.replicate (vc - (ps.length + qs.length)) (.pointer none) := by
          rw [hcur, List.drop_append, List.drop_eq_nil_of_le (by rw [hpl]; omega), hpl, List.nil_append, List.drop_replicate]
          congr 1
          omega
        have hown : OwnZ (W.setRow g c') base (.slice (some ⟨g, 0, none⟩) (ps ++ qs).length vc) (ps ++ qs) := by
          refine ⟨g, vc, c', rfl, hbg, hblk', by rw [hlen]; exact hroom, hcap, ?_⟩
          rw [hc', hpp, htake, hdrop, hlen]
        refine ⟨_, _, hr, ?_, ⟨rfl, rfl, rfl, by rw [hsz]; exact Nat.le_refl _, fun k hk => hother k (by omega)⟩, fun b' r' hr' => hr'.past (g := g) (by rw [hsz]; exact Nat.le_refl _) (fun k _ hk => hother k hk) hg hblk' ?_⟩
        · rw [← hlen]; exact ⟨hown.row (by omega), .inr hown⟩
        · intro j u hj hu
          have hj' : cur.toList[j]? = some u := by rw [Array.getElem?_toList]; exact hj
          have hjl : j < ps.length := by
            rw [hcur] at hj'
            rcases Nat.lt_or_ge j ps.length with h | h
            · exact h
            · exfalso
              rw [List.getElem?_append_right (by rw [hpl]; exact h), List.getElem?_replicate] at hj'
              split at hj'
              · injection hj' with e; exact hu e.symm
              · cases hj'
          rw [hc', ← Array.getElem?_toList, List.append_assoc, List.getElem?_append_left (by rw [htake, hpl]; exact hjl), List.getElem?_take, if_pos hjl]
          exact hj'
    · cases va with
      | none =>
        have hp0 : ps.length = 0 := by
          rcases Nat.eq_zero_or_pos ps.length with h | h
          · exact h
          · obtain ⟨b, off, e, -⟩ := hcells 0 ps[0] (List.getElem?_eq_getElem h); cases e
        have hvc0 : vc = 0 := by
          rcases h.own with ⟨a, e⟩ | h
          · injection e with _ _ e; omega
          · obtain ⟨g, cp, cur, e, -⟩ := h.own; cases e
        have hpn : ps = [] := List.length_eq_zero_iff.1 hp0
        subst hvc0 hpn
        have hr := run_append_nil (P := Tryd.prog) (w := W) 35 ty 27 i (.pointer none) Tryd.underlying35 hi hz0 ad qs.length cap (ptrs qs) (by rw [hz1, hql]; omega) hnews hq0 (by omega) (by rw [hz2]; omega)
        have hge := grownCap_ge W qs.length 0 27
        have hcm : grownCap W qs.length 0 27 ≤ maxLen := grownCap_le_maxLen W qs.length 0 _ (by unfold maxLen; omega)
        refine ⟨_, _, hr, ?_⟩
        have := fin _ _ (by simpa using hge) hcm rfl
        simpa using this
      | some b =>
        have hr := run_append_grow (P := Tryd.prog) W 35 ty 27 i (.pointer none) Tryd.underlying35 hi hz0 b ps.length vc (ptrs ps) (by rw [hz1, hpl]; omega) (holds b rfl) ad qs.length cap (ptrs qs) (by rw [hz1, hql]; omega) hnews (by omega) (by omega) (by rw [hz2]; exact growslice_fits (by omega) (by omega))
        have hge := grownCap_ge W (ps.length + qs.length) vc 27
        have hcm : grownCap W (ps.length + qs.length) vc 27 ≤ maxLen := grownCap_le_maxLen W (ps.length + qs.length) vc _ (by unfold maxLen; omega)
        refine ⟨_, _, hr, ?_⟩
        have := fin _ _ hge hcm rfl
        rw [hpp] at this
        simpa using this

theorem needsByte_any (b : Nat) (r : RE) (w : World) (h : ReAt w b r) :
    Calls Tryd.prog 39 #[PT b] w fun e w' => e = .returned (.bool (!r.null)) ∧ w' = w := by
  go_enter Tryd.func39, Tryd.ntmps39
  go_wp2_with fail
  refine (null_any b r w h).mono ?_
  rintro e w1 ⟨rfl, rfl⟩
  go_wp2
  go_ret
  exact ⟨rfl, rfl⟩

/-- slices.IndexFunc, and where it is. -/
theorem indexFunc_at (fid : FuncId) (ent : ∀ args w, (callFunc fid args).run Tryd.prog w = .ok (.enter fid args) w) (p : RE → Bool) (l : List RE) (v : Value) (w : World) (h : ResRow w v l)
    (hp : ∀ b r, ReAt w b r → Calls Tryd.prog fid #[PT b] w fun e w' => e = .returned (.bool (p r)) ∧ w' = w) :
    Calls Tryd.prog 58 #[v, .func (.func fid) #[] #[]] w fun e w' => ∃ i : Int, e = .returned (.int .i64 i) ∧ w' = w ∧
      ((i = -1 ∧ l.any p = false) ∨ ∃ k : Nat, ∃ hk : k < l.length, i = k ∧ (l.take k).any p = false ∧ p l[k] = true) := by
  obtain ⟨hn, ad, cap, rfl, hc⟩ := h.at
  go_enter Tryd.func58, Tryd.ntmps58
  go_wp2
  go_loopw [8] (fun i wr => ∃ k : Nat, k ≤ l.length ∧ i = .int .i64 k ∧ (l.take k).any p = false ∧ wr = w) (fun i _ => l.length - (intOf i).toNat)
  case atStart => exact ⟨0, by omega, rfl, rfl, rfl⟩
  case round =>
    obtain ⟨k, hk, rfl, hany, rfl⟩ := hrel
    by_cases hlt : k < l.length
    · obtain ⟨b, off, bk, rfl, hb, hcell, hre⟩ := hc k hlt
      unfold PT at hcell
      have hkd : decide (k < l.length) = true := by simp [hlt]
      have hany2 : (l.take (k + 1)).any p = p l[k] := by
        rw [List.take_succ_eq_append_getElem hlt, List.any_append, hany]; simp
      have HK := hide (show p l[k] = true → ∃ k' : Nat, ∃ hk : k' < l.length, ((k : Nat) : Int) = k' ∧ (l.take k').any p = false ∧ p l[k'] = true from fun e => ⟨k, hlt, rfl, hany, e⟩)
      generalize hr : l[k] = r at *
      have HA := hide hany2
      clear hany hany2
      go_wp2_with fail
      refine (hp bk _ hre).mono ?_
      rintro e w1 ⟨rfl, rfl⟩
      cases hpr : p r with
      | true =>
        go_wp2
        go_ret
        exact ⟨_, rfl, rfl, .inr (HK.out hpr)⟩
      | false =>
        rw [hpr] at HA
        go_wp2
        exact ⟨⟨k + 1, by omega, by go_num, HA.out, trivial⟩, by simp [intOf]; omega⟩
    · obtain rfl : k = l.length := by omega
      rw [List.take_length] at hany
      have HA := hide hany
      clear hany
      go_wp2
      go_ret
      exact ⟨_, rfl, rfl, .inl ⟨rfl, HA.out⟩⟩

/-- How many of a row a first byte can lie in. -/
def leadN : List RE → Nat
  | [] => 0
  | r :: l => if r.null then 1 + leadN l else 1
theorem leadN_le (l : List RE) : leadN l ≤ l.length := by
  induction l with
  | nil => simp [leadN]
  | cons r l ih => simp only [leadN, List.length_cons]; split <;> omega
theorem leadN_all (l : List RE) (h : l.any (fun r => !r.null) = false) : leadN l = l.length := by
  induction l with
  | nil => rfl
  | cons r l ih =>
    rw [List.any_cons, Bool.or_eq_false_iff] at h
    rw [leadN, if_pos (by simpa using h.1), ih h.2, List.length_cons]; omega
theorem leadN_at (l : List RE) (k : Nat) (hk : k < l.length) (h : (l.take k).any (fun r => !r.null) = false) (h2 : (!l[k].null) = true) : leadN l = k + 1 := by
  induction l generalizing k with
  | nil => simp at hk
  | cons r l ih =>
    cases k with
    | zero => rw [leadN, if_neg (by simpa using h2)]
    | succ k =>
      rw [List.take_succ_cons, List.any_cons, Bool.or_eq_false_iff] at h
      rw [leadN, if_pos (by simpa using h.1), ih k (by simpa using hk) h.2 (by simpa using h2)]; omega

theorem RowAt.take {w : World} {a : Option Addr} {m c k : Nat} {qs : List (Nat × RE)} (h : RowAt w (.slice a m c) qs) (hk : k ≤ qs.length) : RowAt w (.slice a k c) (qs.take k) := by
  obtain ⟨⟨h0, h1⟩, a', c', e, h2⟩ := h
  injection e with e1 e2 e3
  subst e1 e2 e3
  have := h1 _ _ _ rfl
  refine ⟨⟨by simp; omega, .mk (by omega)⟩, a, c, by simp [hk], fun j p hp => ?_⟩
  rw [List.getElem?_take] at hp
  split at hp
  · exact h2 j p hp
  · cases hp

theorem leading_any (v : Value) (qs : List (Nat × RE)) (w : World) (h : RowAt w v qs) (hr : ∀ p ∈ qs, ReAt w p.1 p.2) :
    Calls Tryd.prog 56 #[v] w fun e w' => w' = w ∧ ∃ v', e = .returned v' ∧ RowAt w v' (qs.take (leadN (qs.map Prod.snd))) := by
  have HW := hide h
  have HRes := hide (h.res hr)
  obtain ⟨⟨h0, h1⟩, a, cap, rfl, -⟩ := h
  have hcap : qs.length ≤ cap := h1 _ _ _ rfl
  clear h1 hr
  have hix := indexFunc_at 39 (enters_of Tryd.func39 (by kernel_rfl) rfl) (fun r => !r.null) _ _ w HRes.out (fun b r hb => needsByte_any b r w hb)
  have HL := hide (show ∀ i : Int, ((i = -1 ∧ (qs.map Prod.snd).any (fun r => !r.null) = false) ∨ ∃ k : Nat, ∃ hk : k < (qs.map Prod.snd).length, i = k ∧ ((qs.map Prod.snd).take k).any (fun r => !r.null) = false ∧ (!(qs.map Prod.snd)[k].null) = true) →
      (i = -1 ∧ leadN (qs.map Prod.snd) = qs.length) ∨ ∃ k : Nat, k < qs.length ∧ i = k ∧ leadN (qs.map Prod.snd) = k + 1 from by
    rintro i (⟨h1, h2⟩ | ⟨k, h1, h2, h3, h4⟩)
    · exact .inl ⟨h1, by rw [leadN_all _ h2]; simp⟩
    · exact .inr ⟨k, by simpa using h1, h2, leadN_at _ k h1 h3 h4⟩)
  obtain ⟨n, hn⟩ : ∃ n, n = qs.length := ⟨_, rfl⟩
  rw [← hn] at HL h0 hcap hix ⊢
  have HN := hide hn
  clear hn
  generalize leadN (qs.map Prod.snd) = m at *
  go_enter Tryd.func56, Tryd.ntmps56
  go_wp2_with fail
  refine hix.mono ?_
  rintro e w1 ⟨i, rfl, rfl, hi⟩
  rcases HL.out i hi with ⟨rfl, hm⟩ | ⟨k, hk, rfl, hm⟩
  · have HM := hide hm
    clear hm hi
    go_wp2
    go_ret
    refine ⟨rfl, _, rfl, ?_⟩
    rw [HM.out, HN.out, List.take_length, ← HN.out]
    have := HW.out
    rwa [← HN.out] at this
  · have HM := hide hm
    clear hm hi
    have hkd : decide ((0 : Int) ≤ (k : Int)) = true := by simp
    go_wp2
    go_ret
    refine ⟨rfl, _, rfl, ?_⟩
    rw [HM.out]
    have := (HW.out).take (k := k + 1) (by rw [← HN.out]; omega)
    simpa using this
end Go.Proofs.YthemadegffhmfaaDoor
/- Rows of one's own, of elements of one cell: what append leaves as it was. -/
namespace Go.Proofs.YthemadegffhmfaaDoor
set_option maxRecDepth 100000
set_option linter.unusedSimpArgs false
set_option linter.unusedVariables false
open Go.RowKit

/-- A row of its own, with zero values alone behind its end; or none. -/
def OwnG (W : World) (base : Nat) (E : TypeId) (z : Value) (v : Value) (xs : List Value) : Prop :=
  (v = .slice none 0 0 ∧ xs = []) ∨ ∃ g cap cur, v = .slice (some ⟨g, 0, none⟩) xs.length cap ∧ base ≤ g ∧ Blk W g cur E ∧ xs.length ≤ cap ∧ cap ≤ maxLen ∧ cur.toList = xs ++ List.replicate (cap - xs.length) z
theorem OwnG.nil (W : World) (base : Nat) (E : TypeId) (z : Value) : OwnG W base E z (.slice none 0 0) [] := .inl ⟨rfl, rfl⟩
theorem OwnG.other {W W' : World} {base : Nat} {E : TypeId} {z v : Value} {xs : List Value} (h : OwnG W base E z v xs) (hk : ∀ g, v.ownBlock = some g → g < W.heap.size → W'.heap[g]? = W.heap[g]?) : OwnG W' base E z v xs := by
  rcases h with h | ⟨g, cap, cur, rfl, h1, h2, h3⟩
  · exact .inl h
  · exact .inr ⟨g, cap, cur, rfl, h1, (hk g rfl h2.lt).trans h2, h3⟩
theorem OwnG.keep {W W' : World} {base : Nat} {E : TypeId} {z v : Value} {xs : List Value} (h : OwnG W base E z v xs) (hb : Below W.heap.size W W') : OwnG W' base E z v xs := h.other fun g _ hg => hb.block g hg
theorem OwnG.lower {W : World} {base base' : Nat} {E : TypeId} {z v : Value} {xs : List Value} (h : OwnG W base E z v xs) (hb : base' ≤ base) : OwnG W base' E z v xs := by
  rcases h with h | ⟨g, cap, cur, e, h1, h2⟩
  · exact .inl h
  · exact .inr ⟨g, cap, cur, e, Nat.le_trans hb h1, h2⟩
theorem OwnG.slice {W : World} {base : Nat} {E : TypeId} {z v : Value} {xs : List Value} (h : OwnG W base E z v xs) : ∃ a cap, v = .slice a xs.length cap ∧ xs.length ≤ cap := by
  rcases h with ⟨rfl, rfl⟩ | ⟨g, cap, cur, e, -, -, h, -⟩
  · exact ⟨none, 0, rfl, by simp⟩
  · exact ⟨_, _, e, h⟩
theorem OwnG.cell {W : World} {base : Nat} {E : TypeId} {z v : Value} {xs : List Value} (h : OwnG W base E z v xs) {j : Nat} {x : Value} (hj : xs[j]? = some x) :
    ∃ g cap, v = .slice (some ⟨g, 0, none⟩) xs.length cap ∧ base ≤ g ∧ g < W.heap.size ∧ W.cell? ⟨g, j, none⟩ = some x := by
  rcases h with ⟨rfl, rfl⟩ | ⟨g, cap, cur, e, h1, h2, h3, h4, h5⟩
  · simp at hj
  · refine ⟨g, cap, e, h1, h2.lt, ?_⟩
    rw [h2.cell, ← Array.getElem?_toList, h5, List.getElem?_append_left (List.getElem?_eq_some_iff.1 hj).1, hj]
theorem OwnG.at {W : World} {base : Nat} {E : TypeId} {z v : Value} {xs : List Value} (h : OwnG W base E z v xs) (h0 : 0 < xs.length) :
    ∃ g cap, v = .slice (some ⟨g, 0, none⟩) xs.length cap ∧ base ≤ g ∧ g < W.heap.size ∧ xs.length ≤ cap ∧ ∀ (j : Nat) x, xs[j]? = some x → W.cell? ⟨g, j, none⟩ = some x := by
  rcases h with ⟨rfl, rfl⟩ | ⟨g, cap, cur, e, h1, h2, h3, h4, h5⟩
  · simp at h0
  · refine ⟨g, cap, e, h1, h2.lt, h3, fun j x hj => ?_⟩
    rw [h2.cell, ← Array.getElem?_toList, h5, List.getElem?_append_left (List.getElem?_eq_some_iff.1 hj).1, hj]

/-- From W to W' such a row grew. -/
structure AppG (W W' : World) (base : Nat) (E : TypeId) (z v v' : Value) : Prop where
  below : Below base W W'
  size : W.heap.size ≤ W'.heap.size
  block : ∀ k, k < W.heap.size → v.ownBlock ≠ some k → W'.heap[k]? = W.heap[k]?
  old : ∀ g, v.ownBlock = some g → ∃ c c', Blk W g c E ∧ Blk W' g c' E ∧ ∀ (j : Nat) x, c[j]? = some x → x ≠ z → c'[j]? = some x
  own : v'.ownBlock = v.ownBlock ∨ v'.ownBlock = some W.heap.size

theorem AppG.cell {W W' : World} {base : Nat} {E : TypeId} {z v v' : Value} (h : AppG W W' base E z v v') {b i : Nat} {x : Value} (hx : W.cell? ⟨b, i, none⟩ = some x) (hz : x ≠ z) : W'.cell? ⟨b, i, none⟩ = some x := by
  by_cases e : v.ownBlock = some b
  · obtain ⟨c, c', h1, h2, h3⟩ := h.old _ e
    rw [h1.cell] at hx
    rw [h2.cell]
    exact h3 i x hx hz
  · rw [← hx]
    exact World.cell?_of_block (w := W) (h.block _ (World.block_lt_of_cell? _ _ hx) e)
theorem AppG.blk {W W' : World} {base b : Nat} {E t : TypeId} {z v v' : Value} {c : Array Value} (h : AppG W W' base E z v v') (hb : Blk W b c t) (ht : t ≠ E) : Blk W' b c t := by
  refine (h.block b hb.lt fun e => ?_).trans hb
  obtain ⟨c0, -, h1, -⟩ := h.old b e
  have e2 := hb.of_cells.symm.trans h1.of_cells
  injection e2 with e2; injection e2 with _ e3
  exact ht e3
theorem ReAt.app {W W' : World} {base b : Nat} {r : RE} {E : TypeId} {z v v' : Value} (h : ReAt W b r) (ha : AppG W W' base E z v v') (hE : 41 ≠ E) (hz : ∀ p, PT p ≠ z) : ReAt W' b r := by
  induction h with
  | mk b o s ks v bs blk row kid ih =>
    refine .mk b o s ks v bs (ha.blk blk hE) ?_ ih
    obtain ⟨h1, a, cap, rfl, h2⟩ := row
    refine ⟨h1, a, cap, rfl, fun k hk' => ?_⟩
    obtain ⟨b', off, e, hlt, hcell⟩ := h2 k hk'
    exact ⟨b', off, e, Nat.lt_of_lt_of_le hlt ha.size, ha.cell hcell (hz _)⟩
theorem RowAt.app {W W' : World} {base : Nat} {u : Value} {qs : List (Nat × RE)} {E : TypeId} {z v v' : Value} (h : RowAt W u qs) (ha : AppG W W' base E z v v') (hz : ∀ p, PT p ≠ z) : RowAt W' u qs := by
  obtain ⟨h1, a, cap, rfl, h2⟩ := h
  refine ⟨h1, a, cap, rfl, fun j p hp => ?_⟩
  obtain ⟨b', off, e, hlt, hcell⟩ := h2 j p hp
  exact ⟨b', off, e, Nat.lt_of_lt_of_le hlt ha.size, ha.cell hcell (hz _)⟩
theorem OwnZ.app {W W' : World} {base b0 : Nat} {u : Value} {qs : List (Nat × RE)} {E : TypeId} {z v v' : Value} (h : OwnZ W b0 u qs) (ha : AppG W W' base E z v v') (hE : 27 ≠ E) : OwnZ W' b0 u qs := by
  obtain ⟨g, cap, cur, e, h1, h2, h3⟩ := h.own
  exact ⟨g, cap, cur, e, h1, ha.blk h2 hE, h3⟩
theorem Fine.app {W W' : World} {base b0 : Nat} {u : Value} {qs : List (Nat × RE)} {E : TypeId} {z v v' : Value} (h : Fine W b0 u qs) (ha : AppG W W' base E z v v') (hE : 27 ≠ E) (hz : ∀ p, PT p ≠ z) : Fine W' b0 u qs :=
  ⟨h.row.app ha hz, h.own.elim .inl fun h => .inr (h.app ha hE)⟩
theorem OwnG.app {W W' : World} {base b0 : Nat} {E E' : TypeId} {z z' u v v' : Value} {xs : List Value} (h : OwnG W b0 E' z' u xs) (ha : AppG W W' base E z v v') (hE : E' ≠ E) : OwnG W' b0 E' z' u xs := by
  rcases h with h | ⟨g, cap, cur, e, h1, h2, h3⟩
  · exact .inl h
  · exact .inr ⟨g, cap, cur, e, h1, ha.blk h2 hE, h3⟩

theorem zeros_list (z : Value) (hz : z.cells = #[z]) (k : Nat) : (Builtin.zeroCells z.cells k).toList = List.replicate k z := by
  rw [hz]
  apply List.ext_getElem
  · simp [Builtin.zeroCells]
  · intro j h1 h2
    simp [Builtin.zeroCells, Nat.mod_one]

set_option maxHeartbeats 1000000 in
/-- append, where the elements are of one cell. -/
theorem run_appendG {W : World} {base : Nat} {v : Value} {xs : List Value} (T E ty : TypeId) (z : Value) (by0 : Nat) (hT : Tryd.prog.underlying T = some (.slice E)) (hI : (Tryd.prog.info? E).map (fun i => (i.zero, i.size, i.bytes)) = some (some z, 1, by0)) (hby : by0 ≤ 64) (hzc : z.cells = #[z])
    (h : OwnG W base E z v xs) (ad : Addr) (c : Nat) (news : List Value) (h0 : 0 < news.length) (hnews : ∀ j u, news[j]? = some u → W.cell? (ad.add j) = some u) (h1 : ∀ u ∈ news, u.oneCell' = true) (hl : xs.length + news.length ≤ 1099511627776) (hbase : base ≤ W.heap.size) :
    ∃ v' W', (Builtin.append_ #[T, T] ty #[v, .slice (some ad) news.length c]).run Tryd.prog W = .ok v' W' ∧ OwnG W' base E z v' (xs ++ news) ∧ AppG W W' base E z v v' := by
  obtain ⟨i, hi, hz0, hz1, hz2⟩ := info_parts hI
  have hlen : (xs ++ news).length = xs.length + news.length := List.length_append
  have hfit : ∀ old, old < xs.length + news.length → Builtin.nextslicecap (xs.length + news.length) old * i.bytes ≤ 281474976710656 := fun old ho => growslice_fits ho (by
    rw [hz2]
    have := Nat.mul_le_mul hl hby
    omega)
  have fin : ∀ (K : Nat) W', xs.length + news.length ≤ K → K ≤ maxLen → W' = W.drew.alloc (.cells ((xs ++ news).toArray ++ Builtin.zeroCells z.cells (K - (xs.length + news.length))) E) → (v.ownBlock = none ∨ ∃ g, v.ownBlock = some g ∧ ∃ c, Blk W g c E) →
      OwnG W' base E z (.slice (some ⟨W.heap.size, 0, none⟩) (xs.length + news.length) K) (xs ++ news) ∧ AppG W W' base E z v (.slice (some ⟨W.heap.size, 0, none⟩) (xs.length + news.length) K) := by
    intro K W' hK hm hW hown
    have hblk : Blk W' W.heap.size ((xs ++ news).toArray ++ Builtin.zeroCells z.cells (K - (xs.length + news.length))) E := by rw [hW]; exact heap_alloc_new W.drew _
    have hold : ∀ k, k < W.heap.size → W'.heap[k]? = W.heap[k]? := fun k hk => by rw [hW]; exact heap_alloc_old W.drew _ hk
    have hsz : W.heap.size ≤ W'.heap.size := by rw [hW]; simp
    refine ⟨.inr ⟨_, K, _, by rw [hlen], hbase, hblk, by rw [hlen]; exact hK, hm, ?_⟩, ⟨?_, hsz, fun k hk _ => hold k hk, fun g hg => ?_, .inr rfl⟩⟩
    · rw [Array.toList_append, zeros_list z hzc, hlen]
    · exact ⟨by rw [hW]; rfl, by rw [hW]; rfl, by rw [hW]; rfl, hsz, fun k hk => hold k (by omega)⟩
    · rcases hown with e | ⟨g', e, c, hc⟩
      · rw [e] at hg; cases hg
      · rw [e] at hg; injection hg with hg; subst hg
        exact ⟨c, c, hc, (hold _ hc.lt).trans hc, fun _ _ h _ => h⟩
  rcases h with ⟨rfl, rfl⟩ | ⟨g, cap, cur, rfl, hbg, hg, hn, hcap, hcur⟩
  · have hr := run_append_nil (P := Tryd.prog) (w := W) T ty E i z hT hi hz0 ad news.length c news (by rw [hz1, Nat.mul_one]) hnews h0 (by simp at hl; omega) (by
      rw [hz2]
      have := Nat.mul_le_mul hl hby
      simp at this ⊢
      omega)
    have hge := grownCap_ge W news.length 0 E
    have hcm : grownCap W news.length 0 E ≤ maxLen := grownCap_le_maxLen W news.length 0 _ (by unfold maxLen; simp at hl; omega)
    refine ⟨_, _, hr, ?_⟩
    have := fin _ _ (by simpa using hge) hcm rfl (.inl rfl)
    simpa using this
  · by_cases hroom : xs.length + news.length ≤ cap
    · have hcs : cur.size = cap := by rw [← Array.length_toList, hcur]; simp; omega
      have hr := run_append_room (P := Tryd.prog) W T ty E i hT hi g xs.length cap cur hg ad news.length c news (by rw [hz1, Nat.mul_one]) hnews h1 hroom (by rw [hcs, hz1]; omega)
      rw [hz1, Nat.mul_one] at hr
      obtain ⟨c', hc'⟩ : ∃ c' : Array Value, c' = (cur.toList.take xs.length ++ news ++ cur.toList.drop (xs.length + news.length)).toArray := ⟨_, rfl⟩
      rw [← hc'] at hr
      have hblk' : Blk (W.setRow g c') g c' E := setRow_heap W g cur _ E _ hg
      have hother : ∀ k, k ≠ g → (W.setRow g c').heap[k]? = W.heap[k]? := fun k hk => setRow_other W g k _ hk
      have hsz : (W.setRow g c').heap.size = W.heap.size := by simp
      have htake : cur.toList.take xs.length = xs := by rw [hcur]; exact List.take_left
      have hdrop : cur.toList.drop (xs.length + news.length) = List.replicate (cap - (xs.length + news.length)) z := by
        rw [hcur, List.drop_append, List.drop_eq_nil_of_le (by omega), List.nil_append, List.drop_replicate]
        congr 1
        omega
      refine ⟨_, _, hr, .inr ⟨g, cap, c', by rw [hlen], hbg, hblk', by rw [hlen]; exact hroom, hcap, ?_⟩, ⟨⟨rfl, rfl, rfl, by rw [hsz]; exact Nat.le_refl _, fun k hk => hother k (by omega)⟩, by rw [hsz]; exact Nat.le_refl _, fun k _ hne => hother k (fun e => hne (by rw [e]; rfl)), fun g' hg' => ?_, .inl rfl⟩⟩
      · rw [hc', htake, hdrop, hlen]
      · have e : g = g' := by simpa [Value.ownBlock] using hg'
        subst e
        refine ⟨cur, c', hg, hblk', fun j x hj hx => ?_⟩
        have hj' : cur.toList[j]? = some x := by rw [Array.getElem?_toList]; exact hj
        have hjl : j < xs.length := by
          rw [hcur] at hj'
          rcases Nat.lt_or_ge j xs.length with h | h
          · exact h
          · exfalso
            rw [List.getElem?_append_right h, List.getElem?_replicate] at hj'
            split at hj'
            · injection hj' with e; exact hx e.symm
            · cases hj'
        rw [hc', ← Array.getElem?_toList, List.append_assoc, List.getElem?_append_left (by rw [htake]; exact hjl), List.getElem?_take, if_pos hjl]
        exact hj'
    · have hr := run_append_grow (P := Tryd.prog) W T ty E i z hT hi hz0 ⟨g, 0, none⟩ xs.length cap xs (by rw [hz1, Nat.mul_one]) (fun j x hj => by
        rw [Go.WideShapes.add_plain, Nat.zero_add, hg.cell, ← Array.getElem?_toList, hcur, List.getElem?_append_left (List.getElem?_eq_some_iff.1 hj).1, hj]) ad news.length c news (by rw [hz1, Nat.mul_one]) hnews (by omega) (by omega) (hfit cap (by omega))
      have hge := grownCap_ge W (xs.length + news.length) cap E
      have hcm : grownCap W (xs.length + news.length) cap E ≤ maxLen := grownCap_le_maxLen W (xs.length + news.length) cap _ (by unfold maxLen; omega)
      refine ⟨_, _, hr, ?_⟩
      have := fin _ _ hge hcm rfl (.inr ⟨g, rfl, cur, hg⟩)
      simpa using this
end Go.Proofs.YthemadegffhmfaaDoor
/- Shapes that came in. -/
namespace Go.Proofs.YthemadegffhmfaaDoor
set_option maxRecDepth 100000
open Go.ChangeShapes Go.WideShapes Go.ChangeAt Go.WideMaps Go.WideElems Go.RowKit

theorem open_shape {H : Type} {enc : TypeId × Value → H} {w : World} {r : Reach} {b0 base : Nat} {sp : Nat → Bool} {held : Bool} {v : Value} {d : DataW H} {p : List MemPlace}
    (hv : Value.okWide Tryd.prog w r b0 24 v) (h : DataW.Trod enc Tryd.prog w base sp held 24 v d p) : ∃ s cs, v = ShVal cs ∧ ShC w cs s := by
  obtain ⟨cs, rfl, -⟩ := okWide_struct Tryd.underlying24 hv
  obtain ⟨fuel, hf⟩ := h
  obtain ⟨s, hs⟩ := open_shapeF fuel _ _ hf
  exact ⟨s, cs.toList, by simp [ShVal], hs⟩
theorem open_shapes {H : Type} {enc : TypeId × Value → H} {w : World} {r : Reach} {b0 base : Nat} {sp : Nat → Bool} {held : Bool} {v : Value} {d : DataW H} {p : List MemPlace}
    (hv : Value.okWide Tryd.prog w r b0 22 v) (h : DataW.Trod enc Tryd.prog w base sp held 22 v d p) : ∃ ks, ShsRow w v ks := by
  obtain ⟨a, len, cap, rfl⟩ := okWide_slice Tryd.underlying22 hv
  obtain ⟨fuel, hf⟩ := h
  exact open_shapesF (fun n _ cs y hy => open_shapeF n cs y hy) hf
end Go.Proofs.YthemadegffhmfaaDoor
