/- Texts of this claim put together: NsA, NsB0, NsB. -/
import Derived.Test.YtblpekljiilkjaaGreatDoorJoinTmH
import Derived.Test.YtblpekljiilkjaaGreatDoorJoinTmM
/- How deep parentheses lie in one another: the law's reading of a text, byte by byte, and the texts of terms. -/
namespace Go.Proofs.YtblpekljiilkjaaGreatDoor
set_option maxRecDepth 100000
set_option linter.unusedSimpArgs false
set_option linter.unusedVariables false
open Go.RowKit Go.Shelf

/-- Reading: n open ones, m at most, q within which quotes (0: none); k: the next byte counts with the one ahead. -/
def scF : List Nat → Bool → Int → Int → Nat → Int × Int × Nat
  | [], _, n, m, q => (n, m, q)
  | c :: r, k, n, m, q =>
    if k = true then scF r false n m q
    else if q ≠ 0 ∧ c = 92 then scF r true n m q
    else if q ≠ 0 then scF r false n m (if c = q then 0 else q)
    else if c = 34 ∨ c = 47 then scF r false n m c
    else if c = 40 then scF r false (n + 1) (max m (n + 1)) q
    else if c = 41 then scF r false (n - 1) m q
    else scF r false n m q
def sc (l : List Nat) (n m : Int) (q : Nat) : Int × Int × Nat := scF l false n m q
theorem sc_nil (n m : Int) (q : Nat) : sc [] n m q = (n, m, q) := by unfold sc; rw [scF]
theorem sc_esc (x : Nat) (r : List Nat) (n m : Int) (q : Nat) (hq : q ≠ 0) : sc (92 :: x :: r) n m q = sc r n m q := by
  unfold sc; rw [scF, if_neg (by decide), if_pos ⟨hq, rfl⟩, scF, if_pos rfl]
theorem sc_esc1 (n m : Int) (q : Nat) (hq : q ≠ 0) : sc [92] n m q = (n, m, q) := by unfold sc; rw [scF, if_neg (by decide), if_pos ⟨hq, rfl⟩, scF]
theorem sc_in (c : Nat) (r : List Nat) (n m : Int) (q : Nat) (hq : q ≠ 0) (hc : c ≠ 92) : sc (c :: r) n m q = sc r n m (if c = q then 0 else q) := by
  unfold sc
  rw [scF, if_neg (by decide), if_neg (fun h => hc h.2), if_pos hq]
theorem sc_q (c : Nat) (r : List Nat) (n m : Int) (hc : c = 34 ∨ c = 47) : sc (c :: r) n m 0 = sc r n m c := by
  unfold sc
  rw [scF, if_neg (by decide), if_neg (fun h => h.1 rfl), if_neg (fun h => h rfl), if_pos hc]
theorem sc_open (r : List Nat) (n m : Int) : sc (40 :: r) n m 0 = sc r (n + 1) (max m (n + 1)) 0 := by
  unfold sc
  rw [scF, if_neg (by decide), if_neg (fun h => h.1 rfl), if_neg (fun h => h rfl), if_neg (by decide), if_pos rfl]
theorem sc_close (r : List Nat) (n m : Int) : sc (41 :: r) n m 0 = sc r (n - 1) m 0 := by
  unfold sc
  rw [scF, if_neg (by decide), if_neg (fun h => h.1 rfl), if_neg (fun h => h rfl), if_neg (by decide), if_neg (by decide), if_pos rfl]
theorem sc_out (c : Nat) (r : List Nat) (n m : Int) (h1 : c ≠ 34) (h2 : c ≠ 47) (h3 : c ≠ 40) (h4 : c ≠ 41) : sc (c :: r) n m 0 = sc r n m 0 := by
  unfold sc
  rw [scF, if_neg (by decide), if_neg (fun h => h.1 rfl), if_neg (fun h => h rfl), if_neg (by omega), if_neg h3, if_neg h4]

/-- Within quotes q these bytes turn nothing. -/
def Qt (q : Nat) (l : List Nat) : Prop := ∀ r n m, sc (l ++ r) n m q = sc r n m q
theorem Qt.nil (q : Nat) : Qt q [] := fun _ _ _ => rfl
theorem Qt.app {q : Nat} {a b : List Nat} (ha : Qt q a) (hb : Qt q b) : Qt q (a ++ b) := fun r n m => by rw [List.append_assoc, ha, hb]
theorem Qt.one {q c : Nat} (hq : q ≠ 0) (h1 : c ≠ 92) (h2 : c ≠ q) : Qt q [c] := fun r n m => by
  rw [List.cons_append, List.nil_append, sc_in c r n m q hq h1, if_neg h2]
theorem Qt.esc {q : Nat} (hq : q ≠ 0) (x : Nat) : Qt q [92, x] := fun r n m => by
  rw [List.cons_append, List.cons_append, List.nil_append, sc_esc x r n m q hq]
theorem Qt.flat {q : Nat} {l : List Nat} {f : Nat → List Nat} (h : ∀ x ∈ l, Qt q (f x)) : Qt q (l.flatMap f) := by
  induction l with
  | nil => exact Qt.nil q
  | cons x l ih => rw [List.flatMap_cons]; exact (h x (by simp)).app (ih fun y hy => h y (by simp [hy]))
theorem hexd : ∀ i < 16, digitsL.getD i 0 ≠ 92 ∧ digitsL.getD i 0 ≠ 34 ∧ digitsL.getD i 0 ≠ 47 := by decide +kernel
theorem plain_esc : ∀ b < 256, (signsL ++ othersL).contains b = false → b ≠ 92 ∧ b ≠ 34 ∧ b ≠ 47 := by decide +kernel
theorem Qt.byte {q b : Nat} (hq : q = 34 ∨ q = 47) (hb : b < 256) : Qt q (byteW b) := by
  have h0 : q ≠ 0 := by omega
  unfold byteW
  split
  · exact Qt.esc h0 _
  · split
    · exact Qt.esc h0 _
    · split
      · have h1 := hexd (b / 16) (by omega)
        have h2 := hexd (b % 16) (by omega)
        exact (Qt.esc h0 120).app ((Qt.one h0 h1.1 (by omega)).app (Qt.one h0 h2.1 (by omega)))
      · split
        · exact Qt.esc h0 _
        · rename_i h
          obtain ⟨h1, h2, h3⟩ := plain_esc b hb (by simpa using h)
          exact Qt.one h0 h1 (by omega)
theorem Qt.run {x : Nat × Nat} (h : x.1 < 256 ∧ x.2 < 256) : Qt 47 (runW x) := by
  unfold runW
  refine (Qt.byte (.inr rfl) h.1).app ?_
  split
  · exact (Qt.one (c := 45) (by decide) (by decide) (by decide)).app (Qt.byte (.inr rfl) h.2)
  · exact Qt.nil _
theorem Qt.runs {l : List (Nat × Nat)} (h : ∀ x ∈ l, x.1 < 256 ∧ x.2 < 256) : Qt 47 (runsW l) := by
  unfold runsW
  induction l with
  | nil => exact Qt.nil _
  | cons x l ih => rw [List.flatMap_cons]; exact (Qt.run (h x (by simp))).app (ih fun y hy => h y (by simp [hy]))
theorem Qt.class (s : BitVec 256) : Qt 47 (classW s) := by
  have h1 := Qt.runs (runs_lt256 s)
  have h2 := Qt.runs (runs_lt256 (~~~s))
  have o : ∀ c, c ≠ 92 → c ≠ 47 → Qt 47 [c] := fun c hc hd => Qt.one (by decide) hc hd
  unfold classW
  repeat' split
  · exact h1
  · exact o 46 (by decide) (by decide)
  · exact ((o 91 (by decide) (by decide)).app (o 94 (by decide) (by decide))).app (h2.app (o 93 (by decide) (by decide)))
  · exact (o 91 (by decide) (by decide)).app (h1.app (o 93 (by decide) (by decide)))
theorem Qt.kids (o : Nat) (ks : List RE) (h : ∀ k ∈ ks, Qt 47 k.txt) (i : Nat) : Qt 47 (kidsT o i (kidL ks)) := by
  have ch : ∀ c, c ≠ 92 → c ≠ 47 → Qt 47 [c] := fun c hc hd => Qt.one (by decide) hc hd
  induction ks generalizing i with
  | nil => exact Qt.nil _
  | cons k ks ih =>
    rw [show kidL (k :: ks) = (k.op, k.txt) :: kidL ks from rfl, kidsT]
    refine Qt.app ?_ (ih (fun x hx => h x (by simp [hx])) (i + 1))
    unfold kidT
    refine Qt.app ?_ ?_
    · split
      · unfold sepB
        repeat' split
        · exact ch 124 (by decide) (by decide)
        · exact ch 38 (by decide) (by decide)
        · exact ch 45 (by decide) (by decide)
        · exact Qt.nil _
      · exact Qt.nil _
    · split
      · exact ((ch 40 (by decide) (by decide)).app (h k (by simp))).app (ch 41 (by decide) (by decide))
      · exact h k (by simp)
theorem Qt.txt (r : RE) : Qt 47 r.txt := by
  refine RE.ind (P := fun r => Qt 47 r.txt) ?_ r
  intro o s ks ih
  have ch : ∀ c, c ≠ 92 → c ≠ 47 → Qt 47 [c] := fun c hc hd => Qt.one (by decide) hc hd
  rw [RE.txt_mk]
  unfold opT
  repeat' split
  · exact (ch 40 (by decide) (by decide)).app (ch 41 (by decide) (by decide))
  · exact Qt.class s
  · exact Qt.kids o ks ih 0
  · exact (Qt.kids o ks ih 0).app (ch 42 (by decide) (by decide))
  · exact (ch 91 (by decide) (by decide)).app (ch 93 (by decide) (by decide))

/-- Outside of quotes: k of these parentheses lie in one another at most. -/
def Sc (k : Nat) (l : List Nat) : Prop := ∀ r n m, n ≤ m → sc (l ++ r) n m 0 = sc r n (max m (n + k)) 0
theorem Sc.nil : Sc 0 [] := fun r n m h => by rw [List.nil_append, show max m (n + ((0 : Nat) : Int)) = m from by omega]
theorem Sc.app {a b : Nat} {l l' : List Nat} (h : Sc a l) (h' : Sc b l') : Sc (max a b) (l ++ l') := fun r n m hm => by
  rw [List.append_assoc, h _ _ _ hm, h' _ _ _ (by omega)]
  congr 1
  omega
theorem Sc.app0 {b : Nat} {l l' : List Nat} (h : Sc 0 l) (h' : Sc b l') : Sc b (l ++ l') := by
  have := h.app h'
  rwa [Nat.zero_max] at this
theorem Sc.out {c : Nat} (h1 : c ≠ 34) (h2 : c ≠ 47) (h3 : c ≠ 40) (h4 : c ≠ 41) : Sc 0 [c] := fun r n m h => by
  rw [List.cons_append, List.nil_append, sc_out c r n m h1 h2 h3 h4, show max m (n + ((0 : Nat) : Int)) = m from by omega]
theorem Sc.outs {l : List Nat} (h : ∀ c ∈ l, c ≠ 34 ∧ c ≠ 47 ∧ c ≠ 40 ∧ c ≠ 41) : Sc 0 l := by
  induction l with
  | nil => exact Sc.nil
  | cons c l ih =>
    obtain ⟨h1, h2, h3, h4⟩ := h c (by simp)
    exact (Sc.out h1 h2 h3 h4).app0 (ih fun x hx => h x (by simp [hx]))
theorem Sc.quoted {q : Nat} (hq : q = 34 ∨ q = 47) {l : List Nat} (h : Qt q l) : Sc 0 ([q] ++ l ++ [q]) := fun r n m hm => by
  rw [List.append_assoc, List.append_assoc, List.cons_append, List.nil_append, sc_q q _ n m hq, h, List.cons_append, List.nil_append, sc_in q r n m q (by omega) (by omega), if_pos rfl, show max m (n + ((0 : Nat) : Int)) = m from by omega]
theorem Sc.paren {k : Nat} {l : List Nat} (h : Sc k l) : Sc (k + 1) ([40] ++ l ++ [41]) := fun r n m hm => by
  rw [List.append_assoc, List.append_assoc, List.cons_append, List.nil_append, sc_open, h _ _ _ (by omega), List.cons_append, List.nil_append, sc_close]
  congr 1 <;> omega
theorem sc_quote (s : ByteArray) : Sc 0 (quoteT s) := Sc.quoted (.inl rfl) (Qt.flat fun x hx => Qt.byte (.inl rfl) (bN_lt s x hx))
theorem sc_arg (r : Option RE) : Sc 0 (argT r) := by
  refine Sc.quoted (.inr rfl) ?_
  cases r with
  | none => exact (Qt.one (c := 91) (by decide) (by decide) (by decide)).app (Qt.one (c := 93) (by decide) (by decide) (by decide))
  | some r => exact Qt.txt r
theorem sc_word (o : Nat) : Sc 0 (wordT o) := by
  refine Sc.outs ?_
  by_cases h : o < 18
  · have key : ∀ o < 18, ∀ c ∈ wordT o, c ≠ 34 ∧ c ≠ 47 ∧ c ≠ 40 ∧ c ≠ 41 := by decide +kernel
    exact key o h
  · unfold wordT
    rw [if_neg (by omega), if_neg (by omega), if_neg (by omega), if_neg (by omega), if_neg (by omega), if_neg (by omega), if_neg (by omega), if_neg (by omega), if_neg (by omega), if_neg (by omega), if_neg (by omega), if_neg (by omega)]
    simp
theorem sc_sep (o : Nat) : Sc 0 (tsep o) := by
  refine Sc.outs ?_
  unfold tsep
  split
  · decide
  · split
    · decide
    · split <;> decide
/-- Names without quotes and parentheses. -/
inductive NmT : TM → Prop where
  | mk (o : Nat) (n t b : ByteArray) (r : Option RE) (ks : List TM) (hn : ∀ c ∈ bytesN n, c ≠ 34 ∧ c ≠ 47 ∧ c ≠ 40 ∧ c ≠ 41) (hk : ∀ k ∈ ks, NmT k) : NmT (.mk o n t b r ks)
theorem NmT.name {o : Nat} {n t b : ByteArray} {r : Option RE} {ks : List TM} (h : NmT (.mk o n t b r ks)) : ∀ c ∈ bytesN n, c ≠ 34 ∧ c ≠ 47 ∧ c ≠ 40 ∧ c ≠ 41 := by cases h; assumption
theorem NmT.kid {o : Nat} {n t b : ByteArray} {r : Option RE} {ks : List TM} (h : NmT (.mk o n t b r ks)) : ∀ k ∈ ks, NmT k := by cases h; assumption
theorem sc_rest (o : Nat) (n t b : ByteArray) (r : Option RE) (hn : ∀ c ∈ bytesN n, c ≠ 34 ∧ c ≠ 47 ∧ c ≠ 40 ∧ c ≠ 41) : Sc 0 (restT o n t b r) := by
  have sp : Sc 0 [32] := Sc.out (by decide) (by decide) (by decide) (by decide)
  unfold restT
  refine Sc.app0 (Sc.app0 (Sc.app0 ?_ ?_) ?_) ?_
  · split
    · exact sp.app0 (Sc.outs hn)
    · exact Sc.nil
  · split
    · exact Sc.nil
    · exact sp.app0 (sc_arg r)
  · split
    · exact sp.app0 (sc_quote t)
    · exact Sc.nil
  · split
    · exact sp.app0 (sc_quote b)
    · exact Sc.nil
/-- Does a term's word enclose its kids? -/
def encO (o : Nat) : Bool := o == 10 || o == 12 || o == 13 || o == 14 || o == 15
def nestK (o : Nat) : Nat → List (Nat × Nat) → Nat
  | _, [] => 0
  | i, x :: r => max (x.2 + if encO o = true ∨ levT x.1 < mustT o i then 1 else 0) (nestK o (i + 1) r)
/-- How deep. -/
def TM.nest : TM → Nat
  | .mk o _ _ _ _ ks => nestK o 0 (ks.map fun k => (k.op, k.nest))
def nestL (ks : List TM) : List (Nat × Nat) := ks.map fun k => (k.op, k.nest)
theorem TM.nest_mk (o : Nat) (n t b : ByteArray) (r : Option RE) (ks : List TM) : (TM.mk o n t b r ks).nest = nestK o 0 (nestL ks) := by rw [TM.nest]; rfl
theorem sc_inT {k : Nat} {t : List Nat} (h : Sc k t) (lv m : Nat) : Sc (k + if lv < m then 1 else 0) (inT lv m t) := by
  unfold inT
  by_cases hl : lv < m
  · rw [if_pos hl, if_pos hl]; exact h.paren
  · rw [if_neg hl, if_neg hl]; exact h
theorem sc_tk (o : Nat) (sep : List Nat) (hs : Sc 0 sep) (he : encO o = false) (ks : List TM) (h : ∀ k ∈ ks, Sc k.nest k.txt) (i : Nat) : Sc (nestK o i (nestL ks)) (tkT o sep i (tkL ks)) := by
  induction ks generalizing i with
  | nil => exact Sc.nil
  | cons k ks ih =>
    rw [show tkL (k :: ks) = (k.op, k.txt) :: tkL ks from rfl, show nestL (k :: ks) = (k.op, k.nest) :: nestL ks from rfl, tkT, nestK]
    refine Sc.app (Sc.app0 ?_ ?_) (ih (fun x hx => h x (by simp [hx])) (i + 1))
    · split
      · exact hs
      · exact Sc.nil
    · have := sc_inT (h k (by simp)) (levT k.op) (mustT o i)
      have e : (if encO o = true ∨ levT k.op < mustT o i then 1 else 0) = (if levT k.op < mustT o i then 1 else 0 : Nat) := by rw [he]; simp
      dsimp only
      rw [e]
      exact this
theorem sc_tkE (o : Nat) (sep : List Nat) (hs : Sc 0 sep) (he : encO o = true) (hm : ∀ i, mustT o i = 0) (ks : List TM) (h : ∀ k ∈ ks, Sc k.nest k.txt) (i : Nat) : ∃ z, Sc z (tkT o sep i (tkL ks)) ∧ (ks ≠ [] → nestK o i (nestL ks) = z + 1) ∧ (ks = [] → z = 0 ∧ nestK o i (nestL ks) = 0) := by
  induction ks generalizing i with
  | nil => exact ⟨0, Sc.nil, fun h => absurd rfl h, fun _ => ⟨rfl, rfl⟩⟩
  | cons k ks ih =>
    obtain ⟨z, hz, h1, h2⟩ := ih (fun x hx => h x (by simp [hx])) (i + 1)
    rw [show tkL (k :: ks) = (k.op, k.txt) :: tkL ks from rfl, show nestL (k :: ks) = (k.op, k.nest) :: nestL ks from rfl, tkT, nestK]
    refine ⟨max k.nest z, Sc.app (Sc.app0 ?_ ?_) hz, fun _ => ?_, fun e => by cases e⟩
    · split
      · exact hs
      · exact Sc.nil
    · have := sc_inT (h k (by simp)) (levT k.op) (mustT o i)
      rw [hm i] at this ⊢
      rwa [if_neg (by omega)] at this
    · dsimp only
      rw [if_pos (Or.inl he)]
      by_cases e : ks = []
      · obtain ⟨e1, e2⟩ := h2 e
        omega
      · have := h1 e
        omega
theorem sc_case (o : Nat) (he : encO o = true) (hm : ∀ i, mustT o i = 0) (ks : List TM) (h : ∀ k ∈ ks, Sc k.nest k.txt) (h0 : ks ≠ []) : Sc (nestK o 0 (nestL ks)) (wordT o ++ [40] ++ tkT o (tsep o) 0 (tkL ks) ++ [41]) := by
  obtain ⟨z, hz, h1, -⟩ := sc_tkE o _ (sc_sep o) he hm ks h 0
  rw [h1 h0, List.append_assoc, List.append_assoc]
  exact (sc_word _).app0 (by rw [← List.append_assoc]; exact hz.paren)
/-- The text of a term. -/
theorem tm_sc (t : TM) : WfT t → NmT t → Sc t.nest t.txt := by
  refine TM.ind (P := fun t => WfT t → NmT t → Sc t.nest t.txt) ?_ t
  intro o n t b r ks ih hw hm
  have hk : ∀ k ∈ ks, Sc k.nest k.txt := fun k hk => ih k hk (hw.kid k hk) (hm.kid k hk)
  have hlen := hw.len
  rw [TM.txt_mk, TM.nest_mk]
  rcases op_cases hw.op with h | h | h | h | h | h | h | h | h | h | h | h | h | h | h | h
  all_goals subst h
  all_goals first
    | (have hks : ks = [] := List.eq_nil_of_length_eq_zero hlen
       subst hks
       rw [tmT_leaf _ _ _ _ _ _ (by decide)]
       exact (sc_word _).app0 (sc_rest _ n t b r hm.name))
    | (rw [tmT_row _ _ _ _ _ _ (by decide) (by decide)]
       exact sc_tk _ _ (sc_sep _) (by decide) ks hk 0)
    | (rw [tmT_9]
       have := (sc_tk 9 [] Sc.nil (by decide) ks hk 0).app (Sc.out (c := 42) (by decide) (by decide) (by decide) (by decide))
       rwa [Nat.max_zero] at this)
    | (rw [tmT_word _ _ _ _ _ _ (by decide) (by decide) (by decide)]
       exact sc_case _ (by decide) (fun i => rfl) ks hk (by intro e; rw [e] at hlen; cases hlen))
theorem keyN_ok (n : Int) : ∀ c ∈ bytesN (keyN n), c ≠ 34 ∧ c ≠ 47 ∧ c ≠ 40 ∧ c ≠ 41 := by
  unfold keyN
  split
  · have : ∀ c ∈ bytesN ⟨#[107]⟩, c ≠ 34 ∧ c ≠ 47 ∧ c ≠ 40 ∧ c ≠ 41 := by decide +kernel
    exact this
  · have : ∀ c ∈ bytesN ⟨#[99, 111, 108, 111, 114]⟩, c ≠ 34 ∧ c ≠ 47 ∧ c ≠ 40 ∧ c ≠ 41 := by decide +kernel
    exact this
theorem pl_nm (s : PL) : NmT s.tm := by
  have h0 : ∀ c ∈ bytesN ⟨#[]⟩, c ≠ 34 ∧ c ≠ 47 ∧ c ≠ 40 ∧ c ≠ 41 := fun c hc => by cases hc
  have hA : NmT hdA := .mk _ _ _ _ _ _ h0 (fun k hk => by cases hk)
  refine PL.ind (P := fun s => NmT s.tm) ?_ s
  intro op wd num ks ih
  rw [PL.tm_mk]
  have hg : ∀ i, NmT ((ks.map PL.tm).getD i hdA) := fun i => by
    rw [List.getD_eq_getElem?_getD, List.getElem?_map]
    cases e : ks[i]? with
    | none => exact hA
    | some k => exact ih k (List.mem_of_getElem? e)
  refine .mk _ _ _ _ _ _ ?_ ?_
  · split
    · exact keyN_ok num
    · exact h0
  · intro k hk
    split at hk
    · rcases List.mem_cons.1 hk with rfl | hk
      · exact hg 0
      · rw [List.mem_singleton] at hk; subst hk; exact hg 1
    · split at hk
      · rw [List.mem_singleton] at hk; subst hk; exact hg 0
      · cases hk
end Go.Proofs.YtblpekljiilkjaaGreatDoor
/- encloses. -/
namespace Go.Proofs.YtblpekljiilkjaaGreatDoor
set_option maxRecDepth 100000
set_option linter.unusedSimpArgs false
set_option linter.unusedVariables false
open Go.RowKit Go.Shelf

theorem enc_facts : ∀ o < 18, (encO o = true → kidsO o ≠ 0 ∧ wordT o ≠ []) ∧ (encO o = false → kidsO o = 0 ∨ wordT o = []) := by decide +kernel
theorem enc_word : ∀ o < 18, encO o = true → (strB (wordT o)).toList.isEmpty = false := by decide +kernel
set_option maxHeartbeats 2000000 in
theorem encloses_any (b o : Nat) (ho : 2 ≤ o ∧ o ≤ 17) (w : World) (hc : w.cell? ⟨b, 0, none⟩ = some (.int .i64 o)) (hD : WordsAt w) :
    Calls Tryz.prog 49 #[PT b] w fun e w' => e = .returned (.bool (encO o)) ∧ w' = w := by
  obtain ⟨h1, h2⟩ := enc_facts o (by omega)
  obtain ⟨E, hE⟩ : ∃ E, E = encO o := ⟨_, rfl⟩
  rw [← hE] at h1 h2 ⊢
  have HK : Hid (Calls Tryz.prog 64 #[.int .i64 o] w fun e w' => e = .returned (.int .i64 (kidsO o)) ∧ w' = w) := by
    show Calls _ _ _ _ _
    go_enter Tryz.func64, Tryz.ntmps64
    rcases op_cases ho with h | h | h | h | h | h | h | h | h | h | h | h | h | h | h | h
    all_goals
      subst h
      clear ho h1 h2 hc hE
      go_wp2
      go_ret
      exact ⟨rfl, rfl⟩
  have HW := hide (wordOp_any o (by omega) w hD)
  have hne : E = true → (strB (wordT o)).toList.isEmpty = false := fun h => enc_word o (by omega) (hE ▸ h)
  have heq : wordT o = [] → strB (wordT o) = ⟨#[]⟩ := fun h => by rw [h]; rfl
  generalize hk : kidsO o = k at *
  generalize hwd : wordT o = wd at *
  obtain ⟨W, hW⟩ : ∃ W, W = strB wd := ⟨_, rfl⟩
  rw [← hW] at HW hne heq
  have HH1 := hide h1
  have HH2 := hide h2
  have HNE := hide hne
  have HEQ := hide heq
  clear hk hwd hW ho h1 h2 hne heq hD hE
  unfold PT
  go_enter Tryz.func49, Tryz.ntmps49
  go_wp2_with fail
  refine HK.out.mono ?_
  rintro e w1 ⟨rfl, rfl⟩
  by_cases h0 : k = 0
  · subst h0
    obtain rfl : E = false := by
      cases E with
      | false => rfl
      | true => exact absurd rfl (HH1.out rfl).1
    go_wp2
    go_ret
    exact ⟨rfl, rfl⟩
  · have hd : decide ((0 : Int) < k) = true := by simp; omega
    have hd2 : decide (0 < k) = true := by simp; omega
    go_wp2_with fail
    refine HW.out.mono ?_
    rintro e w2 ⟨rfl, rfl⟩
    cases E with
    | false =>
      have hWe := HEQ.out (((HH2.out rfl)).resolve_left h0)
      subst hWe
      go_wp2
      go_ret
      exact ⟨rfl, rfl⟩
    | true =>
      have hWn := HNE.out rfl
      go_wp2
      go_ret
      exact ⟨rfl, rfl⟩
end Go.Proofs.YtblpekljiilkjaaGreatDoor
/- Nest. -/
namespace Go.Proofs.YtblpekljiilkjaaGreatDoor
set_option maxRecDepth 100000
set_option linter.unusedSimpArgs false
set_option linter.unusedVariables false
open Go.RowKit Go.Shelf

theorem nestK_le (o : Nat) (ks : List TM) (h : ∀ k ∈ ks, k.nest ≤ k.sz) (i : Nat) : nestK o i (nestL ks) ≤ 1 + (ks.map TM.sz).sum := by
  induction ks generalizing i with
  | nil => simp [nestL, nestK]
  | cons k ks ih =>
    have h1 := ih (fun x hx => h x (by simp [hx])) (i + 1)
    have h2 := h k (by simp)
    rw [show nestL (k :: ks) = (k.op, k.nest) :: nestL ks from rfl, nestK]
    simp only [List.map_cons, List.sum_cons]
    split <;> omega
theorem nest_le (t : TM) : t.nest ≤ t.sz := by
  refine TM.ind (P := fun t => t.nest ≤ t.sz) ?_ t
  intro o n t b r ks ih
  rw [TM.nest_mk, TM.sz_mk]
  exact nestK_le o ks ih 0
/-- The depth of the first k kids. -/
def nk (o : Nat) (ks : List TM) (k : Nat) : Nat := nestK o 0 (nestL (ks.take k))
theorem nk_zero (o : Nat) (ks : List TM) : nk o ks 0 = 0 := by unfold nk; rw [List.take_zero]; rfl
theorem nestK_append (o : Nat) (a b : List (Nat × Nat)) (i : Nat) : nestK o i (a ++ b) = max (nestK o i a) (nestK o (i + a.length) b) := by
  induction a generalizing i with
  | nil => simp [nestK]
  | cons x a ih =>
    rw [List.cons_append]
    simp only [nestK]
    rw [ih, List.length_cons, show i + 1 + a.length = i + (a.length + 1) from by omega, Nat.max_assoc]
theorem nk_succ (o : Nat) (ks : List TM) (k : Nat) (h : k < ks.length) : nk o ks (k + 1) = max (nk o ks k) ((ks[k]).nest + if encO o = true ∨ levT (ks[k]).op < mustT o k then 1 else 0) := by
  unfold nk nestL
  rw [List.take_succ_eq_append_getElem h, List.map_append, nestK_append]
  congr 1
  simp [nestK, List.length_take, Nat.min_eq_left (Nat.le_of_lt h)]
set_option maxHeartbeats 4000000 in
theorem nest_any (t : TM) : ∀ (b : Nat) (w : World), WfT t → TmAt w b t → t.sz ≤ 1000000 → WordsAt w →
    Calls Tryz.prog 28 #[PT b] w fun e w' => e = .returned (.int .i64 t.nest) ∧ Below w.heap.size w w' := by
  refine TM.ind (P := fun t => ∀ (b : Nat) (w : World), WfT t → TmAt w b t → t.sz ≤ 1000000 → WordsAt w →
    Calls Tryz.prog 28 #[PT b] w fun e w' => e = .returned (.int .i64 t.nest) ∧ Below w.heap.size w w') ?_ t
  intro o nm tx bk r ks ih b w hwf hR hl hD
  obtain ⟨rp, a, c, hS⟩ := hR.see
  have c6 := hS.c6 w (Below.refl _ _)
  have ho := hwf.op
  have HS := hide hS
  have HIH := hide ih
  have HWF := hide hwf
  have HDW := hide hD
  have hkl : ks.length ≤ 2 := by
    rw [hwf.len]; unfold kidsO
    repeat' split
    all_goals omega
  rw [TM.sz_mk] at hl
  rw [TM.nest_mk]
  have HE : Hid (nestK o 0 (nestL ks) = nk o ks ks.length) := by show _ = _; unfold nk; rw [List.take_length]
  rw [HE.out]
  have HL := hide hl
  have hc0 := hS.c0
  have HENC : Hid (∀ W, Below w.heap.size w W → Calls Tryz.prog 49 #[PT b] W fun e w' => e = .returned (.bool (encO o)) ∧ w' = W) := by
    intro W hW
    exact encloses_any b o ho W (hc0 W hW) (hD.on hW)
  have HNEED : Hid (∀ k : Nat, k ≤ 1000 → ∀ W, Below w.heap.size w W → Calls Tryz.prog 51 #[PT b, .int .i64 k] W fun e w' => e = .returned (.int .i64 (mustT o k)) ∧ Below W.heap.size W w') := by
    intro k hk W hW
    exact need_tm b o k ho hk W (hc0 W hW)
  clear hS ih hR hl hD hwf hc0
  unfold PT at HENC HNEED ⊢
  go_enter Tryz.func28, Tryz.ntmps28
  go_wp2
  clear c6
  go_loopw [3, 14] (fun q i wr => ∃ k N0 : Nat, k ≤ ks.length ∧ i = .int .i64 k ∧ q = .int .i64 N0 ∧ Hid (N0 = nk o ks k) ∧ Hid (Below w.heap.size w wr)) (fun _ i _ => ks.length - (intOf i).toNat)
  case atStart => exact ⟨0, 0, by omega, rfl, rfl, (nk_zero o ks).symm, Below.refl _ _⟩
  case round =>
    obtain ⟨k, N0, hk1, rfl, rfl, HN0, HB⟩ := hrel
    by_cases hlt : k < ks.length
    · have hkd : decide (k < ks.length) = true := by simp [hlt]
      obtain ⟨g, f, p, rfl, hc, ht⟩ := HS.out.kid k hlt
      have cK := hc wr HB.out
      have hmem := List.getElem_mem hlt
      have hsz : (ks[k]).sz ≤ 1000000 := by have h1 := sz_take ks k hlt; have h2 := sz_take_le ks (k + 1); have h3 := HL.out; omega
      have hnz : (ks[k]).nest ≤ 1000000 := Nat.le_trans (nest_le _) hsz
      have hwk := HWF.out.kid _ hmem
      have HREC := hide (HIH.out _ hmem p wr hwk (ht.keep HB.out) hsz (HDW.out.on HB.out))
      have HNK := hide (nk_succ o ks k hlt)
      have HHOLD : Hid (∀ W, Below w.heap.size w W → Calls Tryz.prog 50 #[PT p] W fun e w' => e = .returned (.int .i64 (levT (ks[k]).op)) ∧ Below W.heap.size W w') := fun W hW => by
        refine hold_tm p _ hwk.op' W ?_
        cases hks : ks[k] with
        | mk o' n' t' k' r' ks' =>
          rw [hks] at ht
          obtain ⟨_, _, _, hs'⟩ := ht.see
          exact hs'.c0 W hW
      have hnk : nk o ks k ≤ 1000001 := by
        have h1 := nestK_le o (ks.take k) (fun x _ => nest_le x) 0
        have h2 := sz_take_le ks k
        have h3 := HL.out
        unfold nk
        omega
      obtain ⟨lv, hlv⟩ : ∃ lv, lv = levT (ks[k]).op := ⟨_, rfl⟩
      obtain ⟨mu, hmu⟩ : ∃ mu, mu = mustT o k := ⟨_, rfl⟩
      obtain ⟨z, hz⟩ : ∃ z, z = (ks[k]).nest := ⟨_, rfl⟩
      have HNE : Hid (∀ W, Below w.heap.size w W → Calls Tryz.prog 51 #[.pointer (some ⟨b, 0, none⟩), .int .i64 k] W fun e w' => e = .returned (.int .i64 mu) ∧ Below W.heap.size W w') := fun W hW => by rw [hmu]; exact HNEED.out k (by omega) W hW
      rw [← hlv] at HHOLD HNK
      rw [← hmu] at HNK
      rw [← hz] at HREC HNK hnz
      rw [← HN0.out] at HNK hnk
      clear hc ht hmem hwk hlv hmu hz hsz
      unfold PT at HREC cK HHOLD
      go_wp2_with fail
      refine HREC.out.mono ?_
      rintro e w2 ⟨rfl, hb⟩
      have HB2 := hide (HB.out.trans (hb.mono HB.out.size))
      clear hb HREC cK
      go_wp2_with fail
      refine (HENC.out w2 HB2.out).mono ?_
      rintro e w3 ⟨rfl, rfl⟩
      have hm1 : max (N0 : Int) ((z : Int) + 1) = ((max N0 (z + 1) : Nat) : Int) := by omega
      have hm0 : max (N0 : Int) (z : Int) = ((max N0 z : Nat) : Int) := by omega
      cases he : encO o with
      | true =>
        have hE : Hid (nk o ks (k + 1) = max N0 (z + 1)) := by show _ = _; rw [HNK.out, if_pos (.inl he)]
        clear he
        go_wp2
        try rw [hm1]
        refine ⟨⟨k + 1, max N0 (z + 1), by omega, by go_num, rfl, hE.out.symm, HB2⟩, by simp [intOf]; omega⟩
      | false =>
        go_wp2_with fail
        refine (HHOLD.out _ HB2.out).mono ?_
        rintro e w4 ⟨rfl, hb⟩
        have HB4 := hide (HB2.out.trans (hb.mono HB2.out.size))
        clear hb
        go_wp2_with fail
        refine (HNE.out _ HB4.out).mono ?_
        rintro e w5 ⟨rfl, hb⟩
        have HB5 := hide (HB4.out.trans (hb.mono HB4.out.size))
        clear hb
        by_cases hlm : lv < mu
        · have hd : decide ((lv : Int) < mu) = true := by simp; omega
          have hd2 : decide (lv < mu) = true := by simp [hlm]
          have hE : Hid (nk o ks (k + 1) = max N0 (z + 1)) := by show _ = _; rw [HNK.out, if_pos (.inr hlm)]
          clear he
          go_wp2
          try rw [hm1]
          refine ⟨⟨k + 1, max N0 (z + 1), by omega, by go_num, rfl, hE.out.symm, HB5⟩, by simp [intOf]; omega⟩
        · have hd : decide ((lv : Int) < mu) = false := by simp; omega
          have hd2 : decide (lv < mu) = false := by simp; omega
          have hE : Hid (nk o ks (k + 1) = max N0 z) := by show _ = _; rw [HNK.out, if_neg (by rw [he]; simp; omega), Nat.add_zero]
          clear he
          go_wp2
          try rw [hm0]
          refine ⟨⟨k + 1, max N0 z, by omega, by go_num, rfl, hE.out.symm, HB5⟩, by simp [intOf]; omega⟩
    · obtain rfl : k = ks.length := by omega
      go_wp2
      go_ret
      exact ⟨by rw [← HN0.out]; rfl, HB.out⟩
theorem nest_nil (w : World) : Calls Tryz.prog 28 #[.pointer none] w fun e w' => e = .returned (.int .i64 0) ∧ w' = w := by
  go_enter Tryz.func28, Tryz.ntmps28
  go_wp2
  go_ret
  exact ⟨rfl, rfl⟩
end Go.Proofs.YtblpekljiilkjaaGreatDoor
