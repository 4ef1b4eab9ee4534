/- Texts of this claim put together: RunD, RunE. -/
import Derived.Test.YtjlgepahgmkamaaGreatDoorJoinRunC
/- An expression as it is written, read again: all levels. -/
namespace Go.Proofs.YtjlgepahgmkamaaGreatDoor
set_option maxRecDepth 100000
set_option linter.unusedSimpArgs false
set_option linter.unusedVariables false
open Go.RowKit Go.Shelf St

def kidsC (o : Nat) : Nat → List (Nat × Nat) → Nat
  | _, [] => 0
  | i, x :: r => grpN (needN o i) (holdN x.1) x.2 + kidsC o (i + 1) r
def kidsP (o : Nat) : Nat → List (Nat × Nat) → Nat
  | _, [] => 0
  | i, x :: r => max (grpN (needN o i) (holdN x.1) x.2) (kidsP o (i + 1) r)
def opC (o : Nat) (l : List (Nat × Nat)) : Nat := if o = 3 ∨ o = 4 ∨ o = 6 ∨ o = 7 then kidsC o 0 l else if o = 5 then kidsC o 0 l + 1 else 1
def opP (o : Nat) (l : List (Nat × Nat)) : Nat := if o = 1 then 1 else kidsP o 0 l
/-- How many parts are counted as an expression's text is read. -/
def RE.cost : RE → Nat
  | .mk o s ks => opC o (ks.map fun k => (k.op, k.cost))
/-- Within how many parentheses its parts are. -/
def RE.pd : RE → Nat
  | .mk o s ks => opP o (ks.map fun k => (k.op, k.pd))
def kidCL (ks : List RE) : List (Nat × Nat) := ks.map fun k => (k.op, k.cost)
def kidPL (ks : List RE) : List (Nat × Nat) := ks.map fun k => (k.op, k.pd)
theorem RE.cost_mk (o : Nat) (s : BitVec 256) (ks : List RE) : (RE.mk o s ks).cost = opC o (kidCL ks) := by rw [RE.cost]; rfl
theorem RE.pd_mk (o : Nat) (s : BitVec 256) (ks : List RE) : (RE.mk o s ks).pd = opP o (kidPL ks) := by rw [RE.pd]; rfl
theorem kidT_grp (o i k : Nat) (t : List Nat) : kidT o i k t = (if 0 < i then sepB o else []) ++ grpT (needN o i) (holdN k) t := rfl
theorem kidsT_cons (o i : Nat) (k : RE) (ks : List RE) : kidsT o i (kidL (k :: ks)) = (if 0 < i then sepB o else []) ++ (grpT (needN o i) (holdN k.op) k.txt ++ kidsT o (i + 1) (kidL ks)) := by
  show kidT o i k.op k.txt ++ _ = _
  rw [kidT_grp, List.append_assoc]; rfl
theorem kidsC_cons (o i : Nat) (k : RE) (ks : List RE) : kidsC o i (kidCL (k :: ks)) = grpN (needN o i) (holdN k.op) k.cost + kidsC o (i + 1) (kidCL ks) := rfl
theorem kidsP_cons (o i : Nat) (k : RE) (ks : List RE) : kidsP o i (kidPL (k :: ks)) = max (grpN (needN o i) (holdN k.op) k.pd) (kidsP o (i + 1) (kidPL ks)) := rfl
theorem need_4 (i : Nat) : needN 4 i = 1 := by unfold needN; rw [if_neg (by omega)]; rfl
theorem need_6 (i : Nat) : needN 6 i = 3 := by unfold needN; rw [if_neg (by omega)]; rfl
theorem need_3 (i : Nat) : needN 3 i = 4 := by unfold needN; rw [if_neg (by omega)]; rfl
theorem need_5 (i : Nat) : needN 5 i = 5 := by unfold needN; rw [if_neg (by omega)]; rfl
theorem need_70 : needN 7 0 = 1 := rfl
theorem byteW_hd {a : Nat} (ha : a < 256) : HeadOk (byteW a) := by
  obtain ⟨b, t, h, h1, h2, -⟩ := byteW_head a ha
  refine ⟨b, t, h, h2, ?_⟩
  rcases h1 with rfl | h1
  · rfl
  · simp [signsL] at h1
    simp; omega
theorem classW_hd (s : BitVec 256) : HeadOk (classW s) := by
  unfold classW
  split
  · rename_i h
    obtain ⟨a, ha, hs, hr⟩ := card_1 h
    rw [hr]
    have e : runsW [(a, a)] = byteW a := by simp [runsW, runW]
    rw [e]; exact byteW_hd ha
  split
  · exact ⟨46, [], rfl, rfl, rfl⟩
  split
  · exact ⟨91, _, rfl, rfl, rfl⟩
  · exact ⟨91, _, rfl, rfl, rfl⟩
theorem grpT_hd {k h : Nat} {t : List Nat} (ht : HeadOk t) : HeadOk (grpT k h t) := by
  unfold grpT
  split
  · exact ⟨40, _, rfl, rfl, rfl⟩
  · exact ht
theorem kids_hd {o : Nat} {ks : List RE} (h : ks ≠ []) (hk : ∀ k ∈ ks, HeadOk k.txt) : HeadOk (kidsT o 0 (kidL ks)) := by
  cases ks with
  | nil => exact absurd rfl h
  | cons k ks =>
    rw [kidsT_cons, if_neg (by omega), List.nil_append]
    exact (grpT_hd (hk k (by simp))).append _
theorem Shp.ne {o : Nat} {s : BitVec 256} {ks : List RE} (h : Shp o s ks) (ho : o = 3 ∨ o = 4 ∨ o = 5 ∨ o = 6 ∨ o = 7) : ks ≠ [] := by
  rcases ho with rfl | rfl | rfl | rfl | rfl
  · have := (h.cat rfl).1; intro e; rw [e] at this; simp at this
  · have := (h.or (.inl rfl)).1; intro e; rw [e] at this; simp at this
  · obtain ⟨k, hk, -⟩ := h.star rfl; rw [hk]; simp
  · have := (h.or (.inr rfl)).1; intro e; rw [e] at this; simp at this
  · obtain ⟨a, b, hk, -⟩ := h.minus rfl; rw [hk]; simp
theorem txt_hd {r : RE} (h : Wf r) : HeadOk r.txt := by
  induction h with
  | mk o s ks hk h ih =>
    rw [RE.txt_mk]
    have ho := h.op
    have : o = 0 ∨ o = 1 ∨ o = 2 ∨ o = 3 ∨ o = 4 ∨ o = 5 ∨ o = 6 ∨ o = 7 := by omega
    rcases this with rfl | rfl | rfl | rfl | rfl | rfl | rfl | rfl
    · rw [opT_0]; exact ⟨91, _, rfl, rfl, rfl⟩
    · rw [opT_1]; exact ⟨40, _, rfl, rfl, rfl⟩
    · rw [opT_2]; exact classW_hd s
    · rw [opT_3]; exact kids_hd (h.ne (by omega)) ih
    · rw [opT_4]; exact kids_hd (h.ne (by omega)) ih
    · rw [opT_5]; exact (kids_hd (h.ne (by omega)) ih).append _
    · rw [opT_6]; exact kids_hd (h.ne (by omega)) ih
    · rw [opT_7]; exact kids_hd (h.ne (by omega)) ih
/-- A kid that is read as it was written. -/
def KidCp (n : Nat) (k : RE) : Prop := Wf k ∧ (∀ j ≤ holdN k.op, Rds n j k.txt k k.cost k.pd) ∧ HeadOk k.txt
theorem KidCp.grp {n : Nat} {k : RE} (h : KidCp n k) (j : Nat) (hj : j ≤ 5) : Rds n j (grpT j (holdN k.op) k.txt) k (grpN j (holdN k.op) k.cost) (grpN j (holdN k.op) k.pd) := Rds.grp h.1 h.2.1 h.2.2 j hj
theorem or_list {n : Nat} : ∀ (ks : List RE) (i : Nat) (l : List RE) (rest : List Nat) (d c : Nat), (∀ k ∈ ks, KidCp n k) → 0 < i → Stop 0 rest → d + kidsP 4 i (kidPL ks) ≤ 60 → c + kidsC 4 i (kidCL ks) ≤ 1000 →
    Run n (.orL l) ⟨kidsT 4 i (kidL ks) ++ rest, d, c, 0, 0⟩ (rAny (l ++ ks), ⟨rest, d, c + kidsC 4 i (kidCL ks), 0, 0⟩)
  | [], i, l, rest, d, c, _, _, hs, _, _ => by
    rw [List.append_nil]
    exact orL_end hs
  | k :: ks, i, l, rest, d, c, hk, hi, hs, hd, hc => by
    rw [kidsT_cons, if_pos hi, need_4, show sepB 4 = [124] from rfl]
    rw [kidsC_cons, need_4] at hc ⊢
    rw [kidsP_cons, need_4] at hd
    have hkk := hk k (by simp)
    have hn : Stop 1 (kidsT 4 (i + 1) (kidL ks) ++ rest) := by
      cases ks with
      | nil => exact hs.up
      | cons k2 ks =>
        rw [kidsT_cons, if_pos (by omega)]
        exact .inr ⟨124, _, rfl, rfl, rfl⟩
    have h1 := hkk.grp 1 (by omega) (kidsT 4 (i + 1) (kidL ks) ++ rest) d c hn (by omega) (by omega)
    have h2 := or_list ks (i + 1) (l ++ [k]) rest d (c + grpN 1 (holdN k.op) k.cost) (fun x hx => hk x (by simp [hx])) (by omega) hs (by omega) (by omega)
    have e : [124] ++ (grpT 1 (holdN k.op) k.txt ++ kidsT 4 (i + 1) (kidL ks)) ++ rest = 124 :: (grpT 1 (holdN k.op) k.txt ++ (kidsT 4 (i + 1) (kidL ks) ++ rest)) := by simp
    rw [e]
    have h3 := Run.orL (st := ⟨124 :: (grpT 1 (holdN k.op) k.txt ++ (kidsT 4 (i + 1) (kidL ks) ++ rest)), d, c, 0, 0⟩) (l := l) (signB_yes (by decide)) (by rw [sign_yes (by decide)]; exact h1) h2
    rw [List.append_assoc, List.singleton_append, Nat.add_assoc] at h3
    exact h3
theorem or_rd {n : Nat} {s : BitVec 256} {ks : List RE} (hw : Wf (.mk 4 s ks)) (hk : ∀ k ∈ ks, KidCp n k) : Rds n 0 (kidsT 4 0 (kidL ks)) (.mk 4 s ks) (kidsC 4 0 (kidCL ks)) (kidsP 4 0 (kidPL ks)) := by
  intro rest d c hs hd hc
  have hsame : rAny ks = .mk 4 s ks := with_same hw
  cases ks with
  | nil => exact absurd rfl (hw.shp.ne (by show 4 = 3 ∨ 4 = 4 ∨ 4 = 5 ∨ 4 = 6 ∨ 4 = 7; omega))
  | cons k ks =>
    rw [kidsT_cons, if_neg (by omega), need_4, List.nil_append, List.append_assoc]
    rw [kidsC_cons, need_4] at hc ⊢
    rw [kidsP_cons, need_4] at hd
    rw [Nat.zero_add] at *
    have hn : Stop 1 (kidsT 4 1 (kidL ks) ++ rest) := by
      cases ks with
      | nil => exact hs.up
      | cons k2 ks =>
        rw [kidsT_cons, if_pos (by omega)]
        exact .inr ⟨124, _, rfl, rfl, rfl⟩
    have h1 := (hk k (by simp)).grp 1 (by omega) (kidsT 4 1 (kidL ks) ++ rest) d c hn (by omega) (by omega)
    have h2 := or_list ks 1 [k] rest d (c + grpN 1 (holdN k.op) k.cost) (fun x hx => hk x (by simp [hx])) (by omega) hs (by omega) (by omega)
    rw [List.singleton_append, hsame, Nat.add_assoc] at h2
    exact Run.or h1 h2
theorem and_list {n : Nat} : ∀ (ks : List RE) (i : Nat) (l : List RE) (rest : List Nat) (d c : Nat), (∀ k ∈ ks, KidCp n k) → 0 < i → Stop 2 rest → d + kidsP 6 i (kidPL ks) ≤ 60 → c + kidsC 6 i (kidCL ks) ≤ 1000 →
    Run n (.andL l) ⟨kidsT 6 i (kidL ks) ++ rest, d, c, 0, 0⟩ (rBoth (l ++ ks), ⟨rest, d, c + kidsC 6 i (kidCL ks), 0, 0⟩)
  | [], i, l, rest, d, c, _, _, hs, _, _ => by
    rw [List.append_nil]
    exact andL_end hs
  | k :: ks, i, l, rest, d, c, hk, hi, hs, hd, hc => by
    rw [kidsT_cons, if_pos hi, need_6, show sepB 6 = [38] from rfl]
    rw [kidsC_cons, need_6] at hc ⊢
    rw [kidsP_cons, need_6] at hd
    have hkk := hk k (by simp)
    have hn : Stop 3 (kidsT 6 (i + 1) (kidL ks) ++ rest) := by
      cases ks with
      | nil => exact hs.up
      | cons k2 ks =>
        rw [kidsT_cons, if_pos (by omega)]
        exact .inr ⟨38, _, rfl, rfl, rfl⟩
    have h1 := hkk.grp 3 (by omega) (kidsT 6 (i + 1) (kidL ks) ++ rest) d c hn (by omega) (by omega)
    have h2 := and_list ks (i + 1) (l ++ [k]) rest d (c + grpN 3 (holdN k.op) k.cost) (fun x hx => hk x (by simp [hx])) (by omega) hs (by omega) (by omega)
    have e : [38] ++ (grpT 3 (holdN k.op) k.txt ++ kidsT 6 (i + 1) (kidL ks)) ++ rest = 38 :: (grpT 3 (holdN k.op) k.txt ++ (kidsT 6 (i + 1) (kidL ks) ++ rest)) := by simp
    rw [e]
    have h3 := Run.andL (st := ⟨38 :: (grpT 3 (holdN k.op) k.txt ++ (kidsT 6 (i + 1) (kidL ks) ++ rest)), d, c, 0, 0⟩) (l := l) (signB_yes (by decide)) (by rw [sign_yes (by decide)]; exact h1) h2
    rw [List.append_assoc, List.singleton_append, Nat.add_assoc] at h3
    exact h3
theorem and_rd {n : Nat} {s : BitVec 256} {ks : List RE} (hw : Wf (.mk 6 s ks)) (hk : ∀ k ∈ ks, KidCp n k) : Rds n 2 (kidsT 6 0 (kidL ks)) (.mk 6 s ks) (kidsC 6 0 (kidCL ks)) (kidsP 6 0 (kidPL ks)) := by
  intro rest d c hs hd hc
  have hsame : rBoth ks = .mk 6 s ks := with_same hw
  cases ks with
  | nil => exact absurd rfl (hw.shp.ne (by show 6 = 3 ∨ 6 = 4 ∨ 6 = 5 ∨ 6 = 6 ∨ 6 = 7; omega))
  | cons k ks =>
    rw [kidsT_cons, if_neg (by omega), need_6, List.nil_append, List.append_assoc]
    rw [kidsC_cons, need_6] at hc ⊢
    rw [kidsP_cons, need_6] at hd
    rw [Nat.zero_add] at *
    have hn : Stop 3 (kidsT 6 1 (kidL ks) ++ rest) := by
      cases ks with
      | nil => exact hs.up
      | cons k2 ks =>
        rw [kidsT_cons, if_pos (by omega)]
        exact .inr ⟨38, _, rfl, rfl, rfl⟩
    have h1 := (hk k (by simp)).grp 3 (by omega) (kidsT 6 1 (kidL ks) ++ rest) d c hn (by omega) (by omega)
    have h2 := and_list ks 1 [k] rest d (c + grpN 3 (holdN k.op) k.cost) (fun x hx => hk x (by simp [hx])) (by omega) hs (by omega) (by omega)
    rw [List.singleton_append, hsame, Nat.add_assoc] at h2
    exact Run.and h1 h2
theorem cat_list {n : Nat} : ∀ (ks : List RE) (i : Nat) (l : List RE) (rest : List Nat) (d c : Nat), (∀ k ∈ ks, KidCp n k) → 0 < i → Stop 3 rest → d + kidsP 3 i (kidPL ks) ≤ 60 → c + kidsC 3 i (kidCL ks) ≤ 1000 →
    Run n (.catL l) ⟨kidsT 3 i (kidL ks) ++ rest, d, c, 0, 0⟩ (rThen (l ++ ks), ⟨rest, d, c + kidsC 3 i (kidCL ks), 0, 0⟩)
  | [], i, l, rest, d, c, _, _, hs, _, _ => by
    rw [List.append_nil]
    exact catL_end hs
  | k :: ks, i, l, rest, d, c, hk, hi, hs, hd, hc => by
    rw [kidsT_cons, if_pos hi, need_3, show sepB 3 = [] from rfl, List.nil_append, List.append_assoc]
    rw [kidsC_cons, need_3] at hc ⊢
    rw [kidsP_cons, need_3] at hd
    have hkk := hk k (by simp)
    have hn : Stop 4 (kidsT 3 (i + 1) (kidL ks) ++ rest) := by
      cases ks with
      | nil => exact hs.up
      | cons k2 ks =>
        rw [kidsT_cons, if_pos (by omega), need_3, show sepB 3 = [] from rfl, List.nil_append, List.append_assoc]
        exact ((grpT_hd (hk k2 (by simp)).2.2).append _).stop
    have h1 := hkk.grp 4 (by omega) (kidsT 3 (i + 1) (kidL ks) ++ rest) d c hn (by omega) (by omega)
    have h2 := cat_list ks (i + 1) (l ++ [k]) rest d (c + grpN 4 (holdN k.op) k.cost) (fun x hx => hk x (by simp [hx])) (by omega) hs (by omega) (by omega)
    obtain ⟨b, u, hb, hb1, hb2⟩ := (grpT_hd (k := 4) (h := holdN k.op) hkk.2.2).append (kidsT 3 (i + 1) (kidL ks) ++ rest)
    have hsk : St.skip ⟨grpT 4 (holdN k.op) k.txt ++ (kidsT 3 (i + 1) (kidL ks) ++ rest), d, c, 0, 0⟩ = ⟨grpT 4 (holdN k.op) k.txt ++ (kidsT 3 (i + 1) (kidL ks) ++ rest), d, c, 0, 0⟩ := by rw [hb]; exact skip_no hb1
    have h3 := Run.catL (n := n) (st := ⟨grpT 4 (holdN k.op) k.txt ++ (kidsT 3 (i + 1) (kidL ks) ++ rest), d, c, 0, 0⟩) (l := l) (b := b) (t := u) (by rw [hsk]; exact hb) (by simp at hb2 ⊢; omega) (by rw [hsk]; exact h1) h2
    rw [List.append_assoc, List.singleton_append, Nat.add_assoc] at h3
    exact h3
theorem cat_rd {n : Nat} {s : BitVec 256} {ks : List RE} (hw : Wf (.mk 3 s ks)) (hk : ∀ k ∈ ks, KidCp n k) : Rds n 3 (kidsT 3 0 (kidL ks)) (.mk 3 s ks) (kidsC 3 0 (kidCL ks)) (kidsP 3 0 (kidPL ks)) := by
  intro rest d c hs hd hc
  have hsame : rThen ks = .mk 3 s ks := with_same hw
  cases ks with
  | nil => exact absurd rfl (hw.shp.ne (by show 3 = 3 ∨ 3 = 4 ∨ 3 = 5 ∨ 3 = 6 ∨ 3 = 7; omega))
  | cons k ks =>
    rw [kidsT_cons, if_neg (by omega), need_3, List.nil_append, List.append_assoc]
    rw [kidsC_cons, need_3] at hc ⊢
    rw [kidsP_cons, need_3] at hd
    rw [Nat.zero_add] at *
    have hn : Stop 4 (kidsT 3 1 (kidL ks) ++ rest) := by
      cases ks with
      | nil => exact hs.up
      | cons k2 ks =>
        rw [kidsT_cons, if_pos (by omega), need_3, show sepB 3 = [] from rfl, List.nil_append, List.append_assoc]
        exact ((grpT_hd (hk k2 (by simp)).2.2).append _).stop
    have h1 := (hk k (by simp)).grp 4 (by omega) (kidsT 3 1 (kidL ks) ++ rest) d c hn (by omega) (by omega)
    have h2 := cat_list ks 1 [k] rest d (c + grpN 4 (holdN k.op) k.cost) (fun x hx => hk x (by simp [hx])) (by omega) hs (by omega) (by omega)
    rw [List.singleton_append, hsame, Nat.add_assoc] at h2
    exact Run.cat h1 h2
theorem star_rd {n : Nat} {s : BitVec 256} {k : RE} (hw : Wf (.mk 5 s [k])) (hk : KidCp n k) (hz : (RE.mk 5 s [k]).cnt ≤ 1000) : Rds n 4 (kidsT 5 0 (kidL [k]) ++ [42]) (.mk 5 s [k]) (kidsC 5 0 (kidCL [k]) + 1) (kidsP 5 0 (kidPL [k])) := by
  intro rest d c hs hd hc
  have hsame : rMany k = .mk 5 s [k] := with_same hw
  rw [kidsT_cons, if_neg (by omega), need_5, List.nil_append]
  rw [kidsC_cons, need_5] at hc ⊢
  rw [kidsP_cons, need_5] at hd
  have e0 : kidsC 5 1 (kidCL []) = 0 := rfl
  have e1 : kidsT 5 (0 + 1) (kidL []) = [] := rfl
  rw [e0, Nat.add_zero] at hc ⊢
  rw [e1, List.append_nil]
  have h1 := hk.grp 5 (by omega) (42 :: rest) d c (.inr ⟨42, rest, rfl, rfl, rfl⟩) (by omega) (by omega)
  have hz2 : ¬ 1000 < (rMany k).size := by rw [hsame, size_min]; omega
  have e2 : sized n (rMany k, ⟨rest, d, c + grpN 5 (holdN k.op) k.cost, 0, 0⟩) = ⟨rest, d, c + (grpN 5 (holdN k.op) k.cost + 1), 0, 0⟩ := by
    unfold sized
    rw [if_neg hz2]
    show St.counted n ⟨rest, d, c + grpN 5 (holdN k.op) k.cost, 0, 0⟩ = _
    rw [counted_ok (by omega), Nat.add_assoc]
  have h2 := Run.star (n := n) (st := ⟨42 :: rest, d, c + grpN 5 (holdN k.op) k.cost, 0, 0⟩) (r := k) (signB_yes (by decide)) (by rw [sign_yes (by decide), e2]; exact postL_end hs)
  rw [hsame] at h2
  have e : grpT 5 (holdN k.op) k.txt ++ [42] ++ rest = grpT 5 (holdN k.op) k.txt ++ 42 :: rest := by simp
  rw [e]
  exact Run.post h1 h2
/-- What is read first of several that are taken away from one another. -/
def Cps (n : Nat) (t : List Nat) (r : RE) (cost pd : Nat) : Prop :=
  ∀ rest d c z, Stop 2 rest → d + pd ≤ 60 → c + cost ≤ 1000 → Run n (.minusL r) ⟨rest, d, c + cost, 0, 0⟩ z → Run n .minus ⟨t ++ rest, d, c, 0, 0⟩ z
theorem Rds.cps {n : Nat} {t : List Nat} {r : RE} {cost pd : Nat} (h : Rds n 2 t r cost pd) : Cps n t r cost pd := fun rest d c z hs hd hc hz => Run.minus (h rest d c hs hd hc) hz
theorem Cps.rd {n : Nat} {t : List Nat} {r : RE} {cost pd : Nat} (h : Cps n t r cost pd) : Rds n 1 t r cost pd := fun rest d c hs hd hc => h rest d c _ hs.up hd hc (minusL_end hs)
theorem minus_cps {n : Nat} {s : BitVec 256} {a b : RE} (hw : Wf (.mk 7 s [a, b])) (ha : KidCp n a) (hb : KidCp n b) (hac : 1 ≤ holdN a.op → Cps n a.txt a a.cost a.pd) : Cps n (kidsT 7 0 (kidL [a, b])) (.mk 7 s [a, b]) (kidsC 7 0 (kidCL [a, b])) (kidsP 7 0 (kidPL [a, b])) := by
  intro rest d c z hs hd hc hz
  have hsame : rBut a b = .mk 7 s [a, b] := with_same hw
  have ua : Cps n (grpT 1 (holdN a.op) a.txt) a (grpN 1 (holdN a.op) a.cost) (grpN 1 (holdN a.op) a.pd) := by
    by_cases h : 1 ≤ holdN a.op
    · have e1 : grpT 1 (holdN a.op) a.txt = a.txt := by unfold grpT; rw [if_neg (by omega)]
      have e2 : ∀ x, grpN 1 (holdN a.op) x = x := fun x => by unfold grpN; rw [if_neg (by omega)]
      rw [e1, e2, e2]; exact hac h
    · have e1 : grpT 1 (holdN a.op) a.txt = grpT 2 (holdN a.op) a.txt := by unfold grpT; rw [if_pos (by omega), if_pos (by omega)]
      have e2 : ∀ x, grpN 1 (holdN a.op) x = grpN 2 (holdN a.op) x := fun x => by unfold grpN; rw [if_pos (by omega), if_pos (by omega)]
      rw [e1, e2, e2]; exact (ha.grp 2 (by omega)).cps
  rw [kidsT_cons, if_neg (by omega), kidsT_cons, if_pos (by omega), need_70, show needN 7 (0 + 1) = 2 from rfl, show sepB 7 = [45] from rfl, show kidsT 7 (0 + 1 + 1) (kidL []) = [] from rfl]
  rw [kidsC_cons, kidsC_cons, need_70, show needN 7 (0 + 1) = 2 from rfl, show kidsC 7 (0 + 1 + 1) (kidCL []) = 0 from rfl] at hc hz
  rw [kidsP_cons, kidsP_cons, need_70, show needN 7 (0 + 1) = 2 from rfl] at hd
  have e : [] ++ (grpT 1 (holdN a.op) a.txt ++ ([45] ++ (grpT 2 (holdN b.op) b.txt ++ []))) ++ rest = grpT 1 (holdN a.op) a.txt ++ 45 :: (grpT 2 (holdN b.op) b.txt ++ rest) := by simp
  rw [e]
  refine ua _ d c z (.inr ⟨45, _, rfl, rfl, rfl⟩) (by omega) (by omega) ?_
  have h1 := hb.grp 2 (by omega) rest d (c + grpN 1 (holdN a.op) a.cost) hs (by omega) (by omega)
  refine Run.minusL (a := b) (s1 := ⟨rest, d, c + grpN 1 (holdN a.op) a.cost + grpN 2 (holdN b.op) b.cost, 0, 0⟩) (signB_yes (by decide)) (by rw [sign_yes (by decide)]; exact h1) ?_
  rw [hsame, Nat.add_assoc]
  rw [Nat.add_zero] at hz
  exact hz
theorem cnt_kid {k : RE} {ks : List RE} (h : k ∈ ks) : k.cnt ≤ cntL ks := by
  induction ks with
  | nil => cases h
  | cons x ks ih =>
    rw [cntL_cons]
    rcases List.mem_cons.1 h with rfl | h
    · omega
    · have := ih h; omega
/-- An expression's text is read as that expression. -/
theorem txt_rd (n : Nat) {r : RE} (hw : Wf r) (hz : r.cnt ≤ 1000) : (∀ j ≤ holdN r.op, Rds n j r.txt r r.cost r.pd) ∧ (1 ≤ holdN r.op → Cps n r.txt r r.cost r.pd) := by
  have hw0 := hw
  induction hw with
  | mk o s ks hk h ih =>
    have hkid : ∀ k ∈ ks, KidCp n k ∧ (1 ≤ holdN k.op → Cps n k.txt k k.cost k.pd) := fun k hkm => by
      have hc : k.cnt ≤ 1000 := by rw [RE.cnt_mk] at hz; have := cnt_kid hkm; omega
      have := ih k hkm hc (hk k hkm)
      exact ⟨⟨hk k hkm, this.1, txt_hd (hk k hkm)⟩, this.2⟩
    have fin : ∀ j0, j0 ≤ holdN o → j0 ≤ 5 → holdN o ≤ j0 → Rds n j0 (RE.mk o s ks).txt (.mk o s ks) (RE.mk o s ks).cost (RE.mk o s ks).pd → o ≠ 7 → (∀ j ≤ holdN o, Rds n j (RE.mk o s ks).txt (.mk o s ks) (RE.mk o s ks).cost (RE.mk o s ks).pd) ∧ (1 ≤ holdN o → Cps n (RE.mk o s ks).txt (.mk o s ks) (RE.mk o s ks).cost (RE.mk o s ks).pd) := by
      intro j0 h1 h5 h2 h3 h7
      have hall := Rds.down hw0 h1 h5 h3
      refine ⟨fun j hj => hall j (by omega), fun h => (hall 2 ?_).cps⟩
      have : holdN o ≠ 1 := by
        unfold holdN
        repeat' split
        all_goals omega
      omega
    show (∀ j ≤ holdN o, _) ∧ (1 ≤ holdN o → _)
    have ho := h.op
    have : o = 0 ∨ o = 1 ∨ o = 2 ∨ o = 3 ∨ o = 4 ∨ o = 5 ∨ o = 6 ∨ o = 7 := by omega
    rcases this with rfl | rfl | rfl | rfl | rfl | rfl | rfl | rfl
    · refine fin 5 (by decide) (by decide) (by decide) ?_ (by decide)
      have e := hw0.none rfl
      rw [RE.txt_mk, RE.cost_mk, RE.pd_mk, opT_0, h.leaf (.inl rfl)]
      intro rest d c hs hd hc
      have hc' : c + 1 ≤ 1000 := hc
      refine ⟨2, ?_⟩
      have hcl : clas n 1 ⟨93 :: rest, d, c, 0, 0⟩ = some (0#256, ⟨rest, d, c, 0, 0⟩) := rfl
      have := P_set (n := n) (f := 1) hcl (by omega)
      rw [show rOne 0#256 = rNothing from rfl] at this
      rw [h.leaf (.inl rfl)] at e
      rw [e]; exact this
    · refine fin 5 (by decide) (by decide) (by decide) ?_ (by decide)
      have e := hw0.eps rfl
      rw [RE.txt_mk, RE.cost_mk, RE.pd_mk, opT_1, h.leaf (.inr rfl)]
      rw [h.leaf (.inr rfl)] at e
      intro rest d c hs hd hc
      have hc' : c + 1 ≤ 1000 := hc
      have hd' : d + 1 ≤ 60 := hd
      rw [e]
      show Run n .atom ⟨40 :: 41 :: rest, d, c, 0, 0⟩ (rEmpty, ⟨rest, d, c + 1, 0, 0⟩)
      have e1 : St.sign 40 ⟨40 :: 41 :: rest, d, c, 0, 0⟩ = ⟨41 :: rest, d, c, 0, 0⟩ := sign_yes (by decide)
      have g := Run.groupE (n := n) (st := ⟨41 :: rest, d, c, 0, 0⟩) (by rw [deeper_ok hd']; exact signB_yes (by decide))
      rw [deeper_ok hd', sign_yes (by decide)] at g
      have k := Run.paren (n := n) (st := ⟨40 :: 41 :: rest, d, c, 0, 0⟩) (signB_yes (by decide)) (by rw [e1]; exact g)
      have e2 : St.counted n (St.upper ⟨rest, d + 1, c, 0, 0⟩) = ⟨rest, d, c + 1, 0, 0⟩ := by
        show St.counted n ⟨rest, d + 1 - 1, c, 0, 0⟩ = _
        rw [Nat.add_sub_cancel, counted_ok (by omega)]
      rw [e2] at k
      exact k
    · refine fin 5 (by decide) (by decide) (by decide) ?_ (by decide)
      obtain ⟨hk0, hs0⟩ := h.cls rfl
      rw [RE.txt_mk, RE.cost_mk, RE.pd_mk, opT_2, hk0]
      intro rest d c hs hd hc
      have hc' : c + 1 ≤ 1000 := hc
      have := class_rd (n := n) (d := d) (c := c) s rest (by omega)
      rw [one_mk hs0] at this
      exact this
    · refine fin 3 (by decide) (by decide) (by decide) ?_ (by decide)
      rw [RE.txt_mk, RE.cost_mk, RE.pd_mk, opT_3]
      exact cat_rd hw0 (fun k hk => (hkid k hk).1)
    · refine fin 0 (by decide) (by decide) (by decide) ?_ (by decide)
      rw [RE.txt_mk, RE.cost_mk, RE.pd_mk, opT_4]
      exact or_rd hw0 (fun k hk => (hkid k hk).1)
    · refine fin 4 (by decide) (by decide) (by decide) ?_ (by decide)
      obtain ⟨k, rfl, -⟩ := h.star rfl
      rw [RE.txt_mk, RE.cost_mk, RE.pd_mk, opT_5]
      exact star_rd hw0 (hkid k (by simp)).1 hz
    · refine fin 2 (by decide) (by decide) (by decide) ?_ (by decide)
      rw [RE.txt_mk, RE.cost_mk, RE.pd_mk, opT_6]
      exact and_rd hw0 (fun k hk => (hkid k hk).1)
    · obtain ⟨a, b, rfl, -⟩ := h.minus rfl
      have hcps : Cps n (RE.mk 7 s [a, b]).txt (.mk 7 s [a, b]) (RE.mk 7 s [a, b]).cost (RE.mk 7 s [a, b]).pd := by
        rw [RE.txt_mk, RE.cost_mk, RE.pd_mk, opT_7]
        exact minus_cps hw0 (hkid a (by simp)).1 (hkid b (by simp)).1 (hkid a (by simp)).2
      exact ⟨Rds.down hw0 (k := 1) (by show 1 ≤ holdN 7; decide) (by decide) hcps.rd, fun _ => hcps⟩
end Go.Proofs.YtjlgepahgmkamaaGreatDoor
/- An expression's text, read whole: how many parts it takes. -/
namespace Go.Proofs.YtjlgepahgmkamaaGreatDoor
set_option maxRecDepth 100000
set_option linter.unusedSimpArgs false
set_option linter.unusedVariables false
open Go.RowKit Go.Shelf St

theorem kidsC_le (o : Nat) (ks : List RE) (h : ∀ k ∈ ks, k.cost + 1 ≤ 2 * k.cnt) (i : Nat) : kidsC o i (kidCL ks) ≤ 2 * cntL ks := by
  induction ks generalizing i with
  | nil => exact Nat.zero_le _
  | cons k ks ih =>
    have h1 := h k (by simp)
    have h2 := ih (fun x hx => h x (by simp [hx])) (i + 1)
    have h3 : grpN (needN o i) (holdN k.op) k.cost ≤ k.cost + 1 := by unfold grpN; split <;> omega
    rw [kidsC_cons, cntL_cons]
    omega
theorem cost_le (r : RE) : r.cost + 1 ≤ 2 * r.cnt := by
  refine RE.ind (P := fun r => r.cost + 1 ≤ 2 * r.cnt) ?_ r
  intro o s ks ih
  have h := kidsC_le o ks ih 0
  rw [RE.cost_mk, RE.cnt_mk]
  unfold opC
  repeat' split
  all_goals omega
/-- The whole text is read as the expression. -/
theorem read_txt {r : RE} (hw : Wf r) (hz : r.cnt ≤ 500) (hp : r.pd ≤ 60) (hl : r.txt.length ≤ 65536) : readQ r.txt = (r, ⟨[], 0, r.cost, 0, 0⟩) ∧ (rdEnd r.txt).err = 0 := by
  have hc := cost_le r
  have h := (txt_rd r.txt.length hw (by omega)).1 0 (Nat.zero_le _) [] 0 0 (.inl rfl) (by omega) (by omega)
  rw [List.append_nil, Nat.zero_add] at h
  have h2 : readQ r.txt = (r, ⟨[], 0, r.cost, 0, 0⟩) := readQ_run hl h
  refine ⟨h2, ?_⟩
  unfold rdEnd
  rw [h2]
  have hs : ¬ 1000 < r.size := by rw [size_min]; omega
  show (if _ ∧ 1000 < r.size then _ else _ : St).err = 0
  rw [if_neg (fun h => hs h.2)]
  rfl
end Go.Proofs.YtjlgepahgmkamaaGreatDoor
