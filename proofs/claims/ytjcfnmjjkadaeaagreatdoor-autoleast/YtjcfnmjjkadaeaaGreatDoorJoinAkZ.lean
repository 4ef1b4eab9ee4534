/- Texts of this claim put together: AkW, AkX, AkY, AkZ. -/
import Derived.Test.YtjcfnmjjkadaeaaGreatDoorJoinAkV
import Derived.Test.YtjcfnmjjkadaeaaGreatDoorJoinAuC
import Derived.Test.YtjcfnmjjkadaeaaGreatDoorJoinAuE
/- Package auto's Groups; groups and texts. -/
namespace Go.Proofs.YtjcfnmjjkadaeaaGreatDoor
set_option maxRecDepth 100000
set_option linter.unusedSimpArgs false
set_option linter.unusedVariables false
open Go.RowKit Go.Shelf

/-- A row of truth values, by places. -/
def yCells (n : Nat) (v : Nat → Bool) : Array Value := ((List.range n).map fun j => Value.bool (v j)).toArray
def setYF (v : Nat → Bool) (i : Nat) (b : Bool) : Nat → Bool := fun j => if j = i then b else v j
theorem yCells_get (n : Nat) (v : Nat → Bool) {i : Nat} (h : i < n) : (yCells n v)[i]? = some (.bool (v i)) := by
  simp [yCells, h]
theorem yCells_set (n : Nat) (v : Nat → Bool) (i : Nat) (b : Bool) : (yCells n v).setIfInBounds i (.bool b) = yCells n (setYF v i b) := by
  apply Array.ext_getElem?
  intro j
  rw [Array.getElem?_setIfInBounds]
  by_cases hj : j < n
  · by_cases e : i = j
    · subst e
      simp [yCells, setYF, hj]
    · rw [if_neg e]
      simp [yCells, setYF, hj, Ne.symm e]
  · have h1 : (yCells n v)[j]? = none := by simp [yCells]; omega
    have h2 : (yCells n (setYF v i b))[j]? = none := by simp [yCells]; omega
    rw [h1, h2]
    by_cases e : i = j
    · subst e; simp [yCells]; omega
    · rw [if_neg e]
theorem madeYB (n : Nat) : madeCells (Value.bool false).cells (n * 1) = yCells n fun _ => false := by
  apply Array.ext_getElem?
  intro j
  rw [Nat.mul_one]
  by_cases h : j < n
  · simp [madeCells, yCells, Value.cells, h, Nat.mod_one]
  · have h1 : (yCells n fun _ => false)[j]? = none := by simp [yCells]; omega
    have h2 : (madeCells (Value.bool false).cells n)[j]? = none := by simp [madeCells]; omega
    rw [h1, h2]
theorem bools_makeY (n : Nat) (w : World) (hn : n ≤ 1000000) : (Instr.makeSlice 35 (.int .i64 n) (.int .i64 n)).run Tryz.prog w = .ok (.slice (some ⟨w.heap.size, 0, none⟩) n n) (w.alloc (.cells (yCells n fun _ => false) 4)) := by
  obtain ⟨i, hi, hz0, hz1, hz2⟩ := info_parts (show (Tryz.prog.info? 4).map (fun i => (i.zero, i.size, i.bytes)) = some (some (.bool false), 1, 1) by kernel_rfl)
  have h := run_make (P := Tryz.prog) w 35 4 i (.bool false) Tryz.underlying35 hi hz0 .i64 .i64 n n (by omega) (Int.le_refl _) (by rw [hz2]; omega) (by omega)
  simp only [Int.toNat_natCast] at h
  rw [h, hz1, madeYB]

/-- No text tells two states apart. -/
def AlT (S : List RE) (rows : List (List Nat)) (fd : Nat → Nat) (p q : Nat) : Prop := ∀ t : List Nat, (∀ b ∈ t, b < 256) → yesN S (runN rows fd p t) = yesN S (runN rows fd q t)
section
variable {r : RE} {pl : List (BitVec 256)} {S : List RE} {rows : List (List Nat)}
theorem DfaOk.head (h : DfaOk r pl S rows) {b : Nat} (hb : b < 256) : ∃ x ∈ pl.map least, x < 256 ∧ ∀ q, colN rows (idxF pl pl.length) b q = colN rows (idxF pl pl.length) x q := by
  obtain ⟨h1, h2, h3⟩ := head_of h.part hb
  have hl : idxF pl pl.length b < (pl.map least).length := by simpa using h1
  have hg : (pl.map least).getD (idxF pl pl.length b) 0 = least pl[idxF pl pl.length b] := by simp [List.getD_eq_getElem?_getD, h1]
  refine ⟨(pl.map least).getD (idxF pl pl.length b) 0, ?_, h2, fun q => ?_⟩
  · rw [hg]; exact List.mem_map.2 ⟨_, List.getElem_mem h1, rfl⟩
  · unfold colN
    rw [hg, idxF_head h.part h1]
theorem DfaOk.cols_of (h : DfaOk r pl S rows) {cols : List (Nat → Nat)} (h2 : ∀ b ∈ pl.map least, ∃ c ∈ cols, ∀ q, q < S.length → c q = colN rows (idxF pl pl.length) b q) :
    ∀ t : List Nat, (∀ b ∈ t, b < 256) → ∃ w, (∀ c ∈ w, c ∈ cols) ∧ ∀ q, q < S.length → runN rows (idxF pl pl.length) q t = ((alRun w q : Nat) : Int)
  | [], _ => ⟨[], fun c hc => by simp at hc, fun q hq => rfl⟩
  | b :: t, hb => by
    obtain ⟨w, hw, hr⟩ := h.cols_of h2 t fun x hx => hb x (by simp [hx])
    have hb' := hb b (by simp)
    obtain ⟨x, hx, -, hxe⟩ := h.head hb'
    obtain ⟨c, hc, hce⟩ := h2 x hx
    refine ⟨c :: w, fun d hd => ?_, fun q hq => ?_⟩
    · rcases List.mem_cons.1 hd with rfl | hd
      · exact hc
      · exact hw d hd
    · show runN rows _ (stepN rows _ q b) t = ((alRun w (c q) : Nat) : Int)
      rw [stepN_col (by rw [h.len]; exact hq), hr _ (h.col hb' hq), hce q hq, hxe q]
theorem DfaOk.txt_of (h : DfaOk r pl S rows) {cols : List (Nat → Nat)} (h1 : ∀ c ∈ cols, ∃ b ∈ pl.map least, ∀ q, q < S.length → c q = colN rows (idxF pl pl.length) b q) :
    ∀ w : List (Nat → Nat), (∀ c ∈ w, c ∈ cols) → ∃ t : List Nat, (∀ b ∈ t, b < 256) ∧ ∀ q, q < S.length → runN rows (idxF pl pl.length) q t = ((alRun w q : Nat) : Int)
  | [], _ => ⟨[], fun c hc => by simp at hc, fun q hq => rfl⟩
  | c :: w, hw => by
    obtain ⟨t, ht, hr⟩ := h.txt_of h1 w fun x hx => hw x (by simp [hx])
    obtain ⟨b, hb, hce⟩ := h1 c (hw c (by simp))
    have hb' : b < 256 := by
      obtain ⟨x, -, rfl⟩ := List.mem_map.1 hb
      exact least_lt _
    refine ⟨b :: t, fun d hd => ?_, fun q hq => ?_⟩
    · rcases List.mem_cons.1 hd with rfl | hd
      · exact hb'
      · exact ht d hd
    · show runN rows _ (stepN rows _ q b) t = ((alRun w (c q) : Nat) : Int)
      rw [stepN_col (by rw [h.len]; exact hq), hr _ (h.col hb' hq), hce q hq]
theorem DfaOk.alike (h : DfaOk r pl S rows) {cols : List (Nat → Nat)} (h1 : ∀ c ∈ cols, ∃ b ∈ pl.map least, ∀ q, q < S.length → c q = colN rows (idxF pl pl.length) b q)
    (h2 : ∀ b ∈ pl.map least, ∃ c ∈ cols, ∀ q, q < S.length → c q = colN rows (idxF pl pl.length) b q) {p q : Nat} (hp : p < S.length) (hq : q < S.length) :
    AlEq (fun x => yesN S x) cols p q ↔ AlT S rows (idxF pl pl.length) p q := by
  constructor
  · intro e t ht
    obtain ⟨w, hw, hr⟩ := h.cols_of h2 t ht
    have := e w hw
    rw [hr p hp, hr q hq]
    exact this
  · intro e w hw
    obtain ⟨t, ht, hr⟩ := h.txt_of h1 w hw
    have := e t ht
    rw [hr p hp, hr q hq] at this
    exact this
end
set_option maxHeartbeats 4000000 in
theorem agroups_any (p : Nat) (r : RE) (pl : List (BitVec 256)) (S : List RE) (rows : List (List Nat)) (w : World) (h : DfaR w p r pl S rows) (hS : S.length ≤ 1000000) :
    Calls Tryz.prog 31 #[PT p] w fun e w' => ∃ (bo : Nat) (f : Nat → Nat), e = .returned (.slice (some ⟨bo, 0, none⟩) S.length S.length) ∧ Blk w' bo (iCells S.length fun j => ((numF f j : Nat) : Int)) 3 ∧ Below w.heap.size w w' ∧ w.heap.size ≤ bo ∧
      ∀ p q, p < S.length → q < S.length → (f p = f q ↔ AlT S rows (idxF pl pl.length) p q) := by
  have H := hide h
  have HLEN := hide h.len
  have h0 := h.ok.pos
  obtain ⟨n, hnS⟩ : ∃ n, S.length = n := ⟨_, rfl⟩
  have HN := hide hnS
  rw [hnS] at HLEN hS h0
  rw [hnS]
  have hmk : ∀ W : World, (Instr.makeSlice 35 (.int .i64 n) (.int .i64 n)).run Tryz.prog W = .ok (.slice (some ⟨W.heap.size, 0, none⟩) n n) (W.alloc (.cells (yCells n fun _ => false) 4)) := fun W => bools_makeY n W hS
  clear h hnS
  unfold PT
  go_enter Tryz.func31, Tryz.ntmps31
  go_wp2_with fail
  refine HLEN.out.mono ?_
  rintro e w2 ⟨rfl, rfl⟩
  go_wp2
  have hb2 : Below w2.heap.size w2 (w2.alloc (.cells (yCells n fun _ => false) 4)) := (Below.refl _ _).alloc (Nat.le_refl _) _
  have hk2 : Blk (w2.alloc (.cells (yCells n fun _ => false) 4)) w2.heap.size (yCells n fun _ => false) 4 := Blk.newAt rfl _ _
  generalize (w2.alloc (.cells (yCells n fun _ => false) 4)) = w3 at hb2 hk2 ⊢
  obtain ⟨be, hbe⟩ : ∃ be, w2.heap.size = be := ⟨_, rfl⟩
  rw [hbe] at hk2 ⊢
  have HBE := hide (show w2.heap.size ≤ be by omega)
  have HB2 := hide hb2
  have HK2 := hide hk2
  clear hb2 hk2 hbe hmk HLEN
  go_loopw [10] (fun jv wx => ∃ j : Nat, jv = .int .i64 j ∧ j ≤ n ∧ Hid (Blk wx be (yCells n fun k => decide (k < j) && yesN S k) 4) ∧ Hid (Below w2.heap.size w2 wx)) (fun jv _ => n - (intOf jv).toNat)
  case atStart => exact ⟨0, rfl, Nat.zero_le _, by show Blk w3 be _ _; simpa using HK2.out, HB2⟩
  case round =>
    rename World => wx
    obtain ⟨j, rfl, hj, HK, HBX⟩ := hrel
    by_cases hjn : j < n
    · have dj : decide ((j : Int) < (n : Int)) = true := by simp; omega
      have HY := hide ((H.out.keep HBX.out).yesQ j)
      go_wp2_with fail
      refine HY.out.mono ?_
      rintro e w4 ⟨rfl, rfl⟩
      have ce : w4.cell? ⟨be, j, none⟩ = some (.bool (decide (j < j) && yesN S j)) := by rw [HK.out.cell, yCells_get _ _ hjn]
      have fe := HK.out.frozen j
      have HK4 : Hid (Blk (w4.setCell ⟨be, j, none⟩ (.bool (yesN S j))) be (yCells n fun k => decide (k < j + 1) && yesN S k) 4) := by
        have := HK.out.set j (.bool (yesN S j))
        rw [yCells_set] at this
        have e : setYF (fun k => decide (k < j) && yesN S (k : Nat)) j (yesN S (j : Nat)) = fun k => decide (k < j + 1) && yesN S (k : Nat) := by
          funext k
          unfold setYF
          by_cases e : k = j
          · subst e; simp
          · rw [if_neg e]
            have e3 : decide (k < j) = decide (k < j + 1) := by simp only [decide_eq_decide]; omega
            show (decide (k < j) && yesN S (k : Nat)) = _
            rw [e3]
        rw [e] at this
        exact this
      have HB4 : Hid (Below w2.heap.size w2 (w4.setCell ⟨be, j, none⟩ (.bool (yesN S j)))) := HBX.out.setCell HBE.out _
      clear HY HK HBX
      go_wp2
      exact ⟨⟨j + 1, by go_num, hjn, HK4, HB4⟩, by simp [intOf]; omega⟩
    · have dj : decide ((j : Int) < (n : Int)) = false := by simp; omega
      obtain rfl : n = j := by omega
      have HCO := hide (columns_any p r pl S rows wx (H.out.keep HBX.out) (by rw [HN.out]; exact hS))
      rw [HN.out] at HCO
      have hpl : (pl.map least).length ≤ 1000000 := by have := parts_256 H.out.ok.part; simp; omega
      go_wp2_with fail
      refine HCO.out.mono ?_
      rintro e w5 ⟨vo, cols, rfl, hc1, hc2, hc3, hc4, hb5⟩
      have hok := H.out.ok
      have hy : ∀ q, q < n → w5.cell? ⟨be, q, none⟩ = some (.bool (yesN S (q : Nat))) := fun q hq => by
        rw [(HK.out.below hb5 HK.out.lt).cell, yCells_get _ _ hq]
        simp [hq]
      have hlt : ∀ c ∈ cols, ∀ q, q < n → c q < n := fun c hc q hq => by
        obtain ⟨b, hb, he⟩ := hc3 c hc
        have hb' : b < 256 := by
          obtain ⟨x, -, rfl⟩ := List.mem_map.1 hb
          exact least_lt _
        rw [he q hq, ← HN.out]
        exact hok.col hb' (by rw [HN.out]; exact hq)
      have HGR := hide (alGroups_any w5 be n n (fun q => yesN S (q : Nat)) vo cols hS h0 hy hc1 (by omega) hlt)
      have HEQ : Hid (∀ p q, p < n → q < n → (AlEq (fun x => yesN S (x : Nat)) cols p q ↔ AlT S rows (idxF pl pl.length) p q)) := fun p q hp hq => hok.alike (by rw [HN.out]; exact hc3) (by rw [HN.out]; exact hc4) (by rw [HN.out]; exact hp) (by rw [HN.out]; exact hq)
      have HB5 := hide (HBX.out.trans (hb5.mono HBX.out.size))
      obtain ⟨a5, c5, rfl, -⟩ := hc1.ex
      clear hc1 hc2 hc3 hc4 hb5 hok hy hlt HCO HK HBX
      go_wp2_with fail
      refine HGR.out.mono ?_
      rintro e w6 ⟨bo, f, rfl, hko, hb6, hlo, hiff⟩
      have HKO := hide hko
      have HB6 := hide (HB5.out.trans (hb6.mono HB5.out.size))
      have HLO := hide (Nat.le_trans HB5.out.size hlo)
      have HIF : Hid (∀ p q, p < n → q < n → (f p = f q ↔ AlT S rows (idxF pl pl.length) p q)) := fun p q hp hq => (hiff p q hp hq).trans (HEQ.out p q hp hq)
      clear hko hb6 hlo hiff HGR HEQ
      go_wp2
      go_ret
      exact ⟨bo, f, rfl, HKO.out, HB6.out, HLO.out, HIF.out⟩
end Go.Proofs.YtjcfnmjjkadaeaaGreatDoor
/- slices.Max of numbers; auto.Least. -/
namespace Go.Proofs.YtjcfnmjjkadaeaaGreatDoor
set_option maxRecDepth 100000
set_option linter.unusedSimpArgs false
set_option linter.unusedVariables false
open Go.RowKit Go.Shelf

/-- The greatest of the first i. -/
def mxF (f : Nat → Nat) : Nat → Nat
  | 0 => 0
  | i + 1 => max (mxF f i) (f i)
theorem mxF_le (f : Nat → Nat) : ∀ i j, j < i → f j ≤ mxF f i
  | 0, j, h => by omega
  | i + 1, j, h => by
    unfold mxF
    by_cases e : j = i
    · subst e; exact Nat.le_max_right _ _
    · exact Nat.le_trans (mxF_le f i j (by omega)) (Nat.le_max_left _ _)
theorem mxF_is (f : Nat → Nat) : ∀ i, 0 < i → ∃ j, j < i ∧ f j = mxF f i
  | 0, h => by omega
  | i + 1, _ => by
    unfold mxF
    by_cases h : mxF f i ≤ f i
    · exact ⟨i, by omega, (Nat.max_eq_right h).symm⟩
    · by_cases hi : 0 < i
      · obtain ⟨j, h1, h2⟩ := mxF_is f i hi
        exact ⟨j, by omega, by rw [h2, Nat.max_eq_left (by omega)]⟩
      · have : i = 0 := by omega
        subst this
        exact absurd (Nat.zero_le _) h
set_option maxHeartbeats 2000000 in
theorem max_ints (b n : Nat) (f : Nat → Nat) (w : World) (hb : Blk w b (iCells n fun j => ((f j : Nat) : Int)) 3) (h0 : 0 < n) (hn : n ≤ 1000000) (hf : ∀ j, j < n → f j ≤ 1000000) :
    Calls Tryz.prog 63 #[.slice (some ⟨b, 0, none⟩) n n] w fun e w' => e = .returned (.int .i64 (mxF f n : Nat)) ∧ Below w.heap.size w w' := by
  have c0 := hb.cI h0
  have hc : ∀ i, i < n → w.cell? ⟨b, i, none⟩ = some (.int .i64 ((f i : Nat) : Int)) := fun i hi => hb.cI hi
  have HC := hide hc
  have HF := hide hf
  have d0 : decide ((n : Int) < 1) = false := by simp; omega
  have hn0 : (0 : Int) < n := by omega
  have hm1 : mxF f 1 = f 0 := by simp [mxF]
  have HM1 := hide hm1
  clear hb hc hf hm1
  go_enter Tryz.func63, Tryz.ntmps63
  go_wp2
  clear c0
  go_loopw [3, 4] (fun mv iv wr => ∃ i : Nat, iv = .int .i64 i ∧ mv = .int .i64 (mxF f i : Nat) ∧ 1 ≤ i ∧ i ≤ n ∧ wr = w) (fun _ iv _ => n - (intOf iv).toNat)
  case atStart => exact ⟨1, rfl, by rw [HM1.out], Nat.le_refl _, h0, rfl⟩
  case round =>
    rename World => wr
    obtain ⟨i, rfl, rfl, hi1, hi, rfl⟩ := hrel
    by_cases hin : i < n
    · have di : decide ((i : Int) < (n : Int)) = true := by simp; omega
      have ci := HC.out i hin
      have hmx : ((mxF f (i + 1) : Nat) : Int) = max ((mxF f i : Nat) : Int) ((f i : Nat) : Int) := by
        show ((max (mxF f i) (f i) : Nat) : Int) = _
        omega
      go_wp2
      exact ⟨⟨i + 1, by go_num, by rw [hmx], by omega, by omega, trivial⟩, by simp [intOf]; omega⟩
    · have di : decide ((i : Int) < (n : Int)) = false := by simp; omega
      obtain rfl : n = i := by omega
      go_wp2
      go_ret
      exact ⟨rfl, Below.refl _ _⟩
/-- How many groups, and of which states. -/
def LeastP (g : Int) (r : RE) (e : Ending) : Prop :=
  (∃ pl : List (BitVec 256), pl.Perm (refL (r.sts false)) ∧ pl.Pairwise (fun x y => least x ≤ least y) ∧ (bldF g (pl.map least) r 0).2 = none ∧ e = .returned (.tuple #[.int .i64 0, .int .i64 5])) ∨
  ∃ (pl : List (BitVec 256)) (s : Bs) (rows : List (List Nat)) (f : Nat → Nat), pl.Perm (refL (r.sts false)) ∧ pl.Pairwise (fun x y => least x ≤ least y) ∧ bldF g (pl.map least) r 0 = (s, some rows) ∧ DfaOk r pl s.S rows ∧
    (∀ p q, p < s.S.length → q < s.S.length → (f p = f q ↔ AlT s.S rows (idxF pl pl.length) p q)) ∧ e = .returned (.tuple #[.int .i64 ((mxF (numF f) s.S.length + 1 : Nat) : Int), .int .i64 0])
set_option maxHeartbeats 2000000 in
theorem least_new (r : RE) (b0 : Nat) (w : World) (h : ReAt w b0 r) (hw : Wf r) (bud : Nat) (g : Int) (hb : BudAt w bud g 0) (hg : 0 ≤ g) (hg2 : g < 1000000) (hT : TabAt w) :
    Calls Tryz.prog 32 #[PT b0, PT bud] w fun e w' => LeastP g r e ∧ ∀ n, n ≤ w.heap.size → n ≤ bud → Below n w w' := by
  have HBD := hide (build_new r b0 w h hw bud g hb hg hg2 hT)
  clear h hb hT
  unfold PT at HBD ⊢
  go_enter Tryz.func32, Tryz.ntmps32
  go_wp2_with fail
  refine HBD.out.mono ?_
  rintro e w1 ⟨pl, h1, h2, h3, h4⟩
  have HL : Hid (∀ n, n ≤ w.heap.size → n ≤ bud → Below n w w1) := fun n a b => h3.below a b
  have HS1 := hide h1
  have HS2 := hide h2
  clear HBD h1 h3 h2
  rcases h4 with ⟨hno, rfl, -⟩ | ⟨s, rows, p, hbl, rfl, -, hd, -, hst⟩
  · have HNO := hide hno
    clear hno
    go_wp2
    refine bodyPost_ret (v := .tuple #[.int .i64 0, .int .i64 5]) (by simp [results, Tryz.results32, go_sem]) rfl ⟨.inl ⟨pl, HS1.out, HS2.out, HNO.out, rfl⟩, HL.out⟩
  · have hok := hd.ok
    obtain ⟨hbs, -⟩ := bldF_ok hw hg hbl
    have hle : s.S.length ≤ 1000000 := by have a1 := hbs.t; have a2 := hbs.g; omega
    have h0 := hok.pos
    have HGR := hide (agroups_any p r pl s.S rows w1 hd hle)
    have HOK := hide hok
    have HBL := hide hbl
    clear hok hbs hbl hd hst
    unfold PT at HGR
    go_wp2_with fail
    refine HGR.out.mono ?_
    rintro e w2 ⟨bo, f, rfl, hko, hb2, hlo, hiff⟩
    have HIF := hide hiff
    have hmle : ∀ j, j < s.S.length → numF f j ≤ 1000000 := fun j hj => by have := numF_le f j; omega
    have HMX := hide (max_ints bo s.S.length (numF f) w2 hko h0 hle hmle)
    have HB2 := hide hb2
    have hmm : mxF (numF f) s.S.length ≤ 1000000 := by
      obtain ⟨j, hj, e⟩ := mxF_is (numF f) s.S.length h0
      rw [← e]; exact hmle j hj
    clear hko hb2 hlo hiff hmle HGR
    go_wp2_with fail
    refine HMX.out.mono ?_
    rintro e w3 ⟨rfl, hb3⟩
    have HB3 := hide hb3
    have e1 : ((mxF (numF f) s.S.length + 1 : Nat) : Int) = 1 + ((mxF (numF f) s.S.length : Nat) : Int) := by omega
    have HE1 := hide e1
    clear hb3 e1 HMX
    generalize hm : mxF (numF f) s.S.length = m at hmm HE1 ⊢
    have HM := hide hm
    clear hm
    go_wp2
    refine bodyPost_ret (v := .tuple #[.int .i64 (1 + (m : Int)), .int .i64 0]) (by simp [results, Tryz.results32, go_sem]) rfl ⟨.inr ⟨pl, s, rows, f, HS1.out, HS2.out, HBL.out, HOK.out, HIF.out, by rw [HM.out, HE1.out]⟩, fun n a b => ?_⟩
    have h1 := HL.out n a b
    have h2 := h1.trans (HB2.out.mono (Nat.le_trans a h1.size))
    exact h2.trans (HB3.out.mono (Nat.le_trans a h2.size))
end Go.Proofs.YtjcfnmjjkadaeaaGreatDoor
/- How many groups: as many for expressions that have the same texts. -/
namespace Go.Proofs.YtjcfnmjjkadaeaaGreatDoor
set_option maxRecDepth 100000
set_option linter.unusedSimpArgs false
set_option linter.unusedVariables false
open Go.RowKit Go.Shelf

theorem metL_sub (l : List Nat) : ∀ ms, ∀ x ∈ metL ms l, x ∈ ms ∨ x ∈ l := by
  induction l with
  | nil => intro ms x h; exact .inl h
  | cons y l ih =>
    intro ms x h
    unfold metL at h
    split at h
    · rcases ih ms x h with h | h
      · exact .inl h
      · exact .inr (by simp [h])
    · rcases ih _ x h with h | h
      · rcases List.mem_append.1 h with h | h
        · exact .inl h
        · exact .inr (by simp at h; simp [h])
      · exact .inr (by simp [h])
theorem numF_idx (f : Nat → Nat) (n j : Nat) (hj : j < n) : numF f j = (msF f n).idxOf (f j) ∧ f j ∈ msF f n := by
  obtain ⟨h1, h2⟩ := numK_idx ((List.range n).map f) []
  have e := numL_range f n
  unfold numL at e
  rw [h1] at e
  have e2 := congrArg (fun l => l[j]?) e
  simp [hj] at e2
  refine ⟨e2.symm, ?_⟩
  exact h2 (f j) (List.mem_map.2 ⟨j, List.mem_range.2 hj, rfl⟩)
theorem numF_iff (f : Nat → Nat) {n i j : Nat} (hi : i < n) (hj : j < n) : numF f i = numF f j ↔ f i = f j := by
  obtain ⟨a1, a2⟩ := numF_idx f n i hi
  obtain ⟨b1, b2⟩ := numF_idx f n j hj
  constructor
  · intro h
    rw [a1, b1] at h
    exact idxOf_inj a2 b2 h
  · intro h
    rw [a1, b1, h]
theorem idxOf_at {l : List Nat} (h : l.Nodup) {k x : Nat} (hk : l[k]? = some x) : l.idxOf x = k := by
  have hx := List.mem_of_getElem? hk
  have h1 := List.idxOf_lt_length_of_mem hx
  have h2 : l[l.idxOf x]? = some x := by rw [List.getElem?_eq_getElem h1, List.getElem_idxOf]
  exact (List.getElem?_inj h1 h).1 (h2.trans hk.symm)
/-- All numbers up to the greatest are there. -/
theorem numF_all (f : Nat → Nat) {n k : Nat} (h0 : 0 < n) (hk : k ≤ mxF (numF f) n) : ∃ j, j < n ∧ numF f j = k := by
  obtain ⟨i, hi, he⟩ := mxF_is (numF f) n h0
  obtain ⟨a1, a2⟩ := numF_idx f n i hi
  have hl := List.idxOf_lt_length_of_mem a2
  have hkl : k < (msF f n).length := by omega
  obtain ⟨x, hx⟩ : ∃ x, (msF f n)[k]? = some x := ⟨_, List.getElem?_eq_getElem hkl⟩
  rcases metL_sub _ _ x (List.mem_of_getElem? hx) with h | h
  · simp at h
  · obtain ⟨j, hj, rfl⟩ := List.mem_map.1 h
    have hj := List.mem_range.1 hj
    exact ⟨j, hj, by rw [(numF_idx f n j hj).1]; exact idxOf_at (msF_nodup f n) hx⟩
/-- Each state is reached. -/
theorem least_reach {g : Int} {r : RE} {pl : List (BitVec 256)} {s : Bs} {rows : List (List Nat)} (hok : DfaOk r pl s.S rows) (hsort : pl.Pairwise (fun x y => least x ≤ least y)) (hb : bldF g (pl.map least) r 0 = (s, some rows)) {q : Nat} (hq : q < s.S.length) :
    ∃ t, By t ∧ runN rows (idxF pl pl.length) 0 t = (q : Nat) := by
  have hp := hok.part
  have hlen := hok.len
  obtain ⟨hm, hml⟩ := bldF_metT hb (heads_lt hp hsort) (fun x hx => by
    obtain ⟨p, -, rfl⟩ := List.mem_map.1 hx
    exact least_lt p)
  have hr : ∀ q, q < rows.length → (rows.getD q []).length = (pl.map least).length := fun q hq => (hok.rows.2 q hq).len
  have hf : ∀ i, i < (pl.map least).length → idxF pl pl.length ((pl.map least).getD i 0) = i := fun i hi => by
    have hi : i < pl.length := by simpa using hi
    rw [head_getD hi]; exact idxF_head hp hi
  have hst := rowsT_st hr hf
  obtain ⟨st, hst0⟩ : ∃ st : Nat → Nat → Nat, st = fun q b => (rows.getD q []).getD (idxF pl pl.length b) 0 := ⟨_, rfl⟩
  rw [← hst0] at hst
  have hrun : ∀ w, By w → runN rows (idxF pl pl.length) 0 w = (runS st 0 w : Nat) ∧ runS st 0 w < rows.length := by
    refine list_snoc (P := fun w => By w → runN rows (idxF pl pl.length) 0 w = (runS st 0 w : Nat) ∧ runS st 0 w < rows.length) ?_ ?_
    · intro _; exact ⟨rfl, by have := hok.pos; show 0 < rows.length; omega⟩
    · intro w x ih hw
      obtain ⟨i1, i2⟩ := ih fun y hy => hw y (by simp [hy])
      have hx : x < 256 := hw x (by simp)
      obtain ⟨q', e1, e2, -⟩ := hok.step (q := runS st 0 w) (by omega) hx
      have e3 : stepN rows (idxF pl pl.length) (runS st 0 w : Nat) x = (st (runS st 0 w) x : Nat) := by
        unfold stepN
        rw [if_pos (by omega), hst0]
        simp
      have e4 : st (runS st 0 w) x = q' := by rw [e3] at e1; omega
      rw [runN_append, i1, runS_snoc]
      refine ⟨e3, ?_⟩
      rw [e4]; omega
  obtain ⟨l1, l2⟩ := hm.leads hst q (by omega)
  have hby : By (wayW (wyT (rowsT (pl.map least) 0 rows) [(0, 0)]) q) := fun x hx => by
    obtain ⟨p, -, rfl⟩ := List.mem_map.1 (l2 x hx)
    exact least_lt p
  exact ⟨_, hby, by rw [(hrun _ hby).1, l1]⟩
/-- Two states are told apart just where the texts behind what leads to them are. -/
theorem AlT_lang {r : RE} {pl : List (BitVec 256)} {S : List RE} {rows : List (List Nat)} (hok : DfaOk r pl S rows) {p q : Nat} {t u : List Nat} (ht : By t) (hu : By u) (hp : runN rows (idxF pl pl.length) 0 t = (p : Nat)) (hq : runN rows (idxF pl pl.length) 0 u = (q : Nat)) :
    AlT S rows (idxF pl pl.length) p q ↔ ∀ v, By v → (r.lang (t ++ v) ↔ r.lang (u ++ v)) := by
  have key : ∀ v, By v → (yesN S (runN rows (idxF pl pl.length) p v) = true ↔ r.lang (t ++ v)) ∧ (yesN S (runN rows (idxF pl pl.length) q v) = true ↔ r.lang (u ++ v)) := fun v hv => by
    have h1 := hok.match (t := t ++ v) (fun x hx => by rcases List.mem_append.1 hx with h | h <;> first | exact ht x h | exact hv x h)
    have h2 := hok.match (t := u ++ v) (fun x hx => by rcases List.mem_append.1 hx with h | h <;> first | exact hu x h | exact hv x h)
    rw [runN_append, hp] at h1
    rw [runN_append, hq] at h2
    exact ⟨h1, h2⟩
  constructor
  · intro h v hv
    obtain ⟨k1, k2⟩ := key v hv
    rw [← k1, ← k2, h v hv]
  · intro h v hv
    obtain ⟨k1, k2⟩ := key v hv
    rw [Bool.eq_iff_iff, k1, k2]
    exact h v hv
/-- What Least has counted. -/
structure Cnt (r : RE) (m : Nat) : Prop where
  ex : ∃ (g : Int) (pl : List (BitVec 256)) (s : Bs) (rows : List (List Nat)) (f : Nat → Nat), pl.Pairwise (fun x y => least x ≤ least y) ∧ bldF g (pl.map least) r 0 = (s, some rows) ∧ DfaOk r pl s.S rows ∧
    (∀ p q, p < s.S.length → q < s.S.length → (f p = f q ↔ AlT s.S rows (idxF pl pl.length) p q)) ∧ m = mxF (numF f) s.S.length
theorem Cnt.le {r r' : RE} {m m' : Nat} (h : Cnt r m) (h' : Cnt r' m') (hl : ∀ t, By t → (r.lang t ↔ r'.lang t)) : m ≤ m' := by
  obtain ⟨g, pl, s, rows, f, h1, h2, h3, h4, rfl⟩ := h.ex
  obtain ⟨g', pl', s', rows', f', h1', h2', h3', h4', rfl⟩ := h'.ex
  have hex : ∀ k, ∃ y : Nat × List Nat × Nat, k ≤ mxF (numF f) s.S.length → (y.1 < s.S.length ∧ numF f y.1 = k ∧ By y.2.1 ∧ runN rows (idxF pl pl.length) 0 y.2.1 = (y.1 : Nat) ∧ y.2.2 < s'.S.length ∧ runN rows' (idxF pl' pl'.length) 0 y.2.1 = (y.2.2 : Nat)) := fun k => by
    by_cases hk : k ≤ mxF (numF f) s.S.length
    · obtain ⟨j, hj, e⟩ := numF_all f h3.pos hk
      obtain ⟨t, ht, hr⟩ := least_reach h3 h1 h2 hj
      obtain ⟨q, e1, e2, -⟩ := h3'.run t 0 h3'.pos ht
      exact ⟨(j, t, q), fun _ => ⟨hj, e, ht, hr, e2, e1⟩⟩
    · exact ⟨(0, [], 0), fun h => absurd h hk⟩
  obtain ⟨φ, hφ⟩ := Classical.skolem.1 hex
  have hlen := nodup_len (l := (List.range (mxF (numF f) s.S.length + 1)).map fun k => numF f' (φ k).2.2) (m := mxF (numF f') s'.S.length + 1) ?_ ?_
  · simp at hlen; omega
  · rw [List.nodup_iff_pairwise_ne, List.pairwise_map]
    refine List.pairwise_lt_range.imp_of_mem ?_
    intro i j hi hj hlt e
    have hi := List.mem_range.1 hi
    have hj := List.mem_range.1 hj
    obtain ⟨a1, a2, a3, a4, a5, a6⟩ := hφ i (by omega)
    obtain ⟨b1, b2, b3, b4, b5, b6⟩ := hφ j (by omega)
    have e1 := (h4' _ _ a5 b5).1 ((numF_iff f' a5 b5).1 e)
    have e2 := (AlT_lang h3' a3 b3 a6 b6).1 e1
    have e3 := (AlT_lang h3 a3 b3 a4 b4).2 fun v hv => by
      rw [hl _ (fun x hx => by rcases List.mem_append.1 hx with h | h <;> first | exact a3 x h | exact hv x h), hl _ (fun x hx => by rcases List.mem_append.1 hx with h | h <;> first | exact b3 x h | exact hv x h)]
      exact e2 v hv
    have e4 := (numF_iff f a1 b1).2 ((h4 _ _ a1 b1).2 e3)
    rw [a2, b2] at e4
    omega
  · intro x hx
    obtain ⟨k, hk, rfl⟩ := List.mem_map.1 hx
    have hk := List.mem_range.1 hk
    obtain ⟨a1, a2, a3, a4, a5, a6⟩ := hφ k (by omega)
    have := mxF_le (numF f') s'.S.length _ a5
    omega
theorem Cnt.same {r r' : RE} {m m' : Nat} (h : Cnt r m) (h' : Cnt r' m') (hl : ∀ t, By t → (r.lang t ↔ r'.lang t)) : m = m' :=
  Nat.le_antisymm (h.le h' hl) (h'.le h fun t ht => (hl t ht).symm)
theorem LeastP.q {g : Int} {r : RE} {e : Ending} (h : LeastP g r e) : ∃ (m c : Nat), (c = 0 ∨ c = 5) ∧ e = .returned (.tuple #[.int .i64 (m : Nat), .int .i64 (c : Nat)]) ∧ (c = 0 → ∃ m', m = m' + 1 ∧ Cnt r m') := by
  rcases h with ⟨pl, -, -, -, rfl⟩ | ⟨pl, s, rows, f, h1, h2, h3, h4, h5, rfl⟩
  · exact ⟨0, 5, .inr rfl, rfl, fun h => absurd h (by decide)⟩
  · exact ⟨_, 0, .inl rfl, rfl, fun _ => ⟨_, rfl, ⟨g, pl, s, rows, f, h2, h3, h4, h5, rfl⟩⟩⟩
end Go.Proofs.YtjcfnmjjkadaeaaGreatDoor
/- Of no Dfa: no text, no group. -/
namespace Go.Proofs.YtjcfnmjjkadaeaaGreatDoor
set_option maxRecDepth 100000
set_option linter.unusedSimpArgs false
set_option linter.unusedVariables false
open Go.RowKit Go.Shelf

theorem heads_nil (w : World) : Calls Tryz.prog 15 #[.pointer none] w fun e w' => e = .returned (.slice none 0 0) ∧ w' = w := by
  go_enter Tryz.func15, Tryz.ntmps15
  go_wp2
  go_ret
  exact ⟨rfl, rfl⟩
set_option maxHeartbeats 2000000 in
theorem columns_nil (w : World) : Calls Tryz.prog 62 #[.pointer none] w fun e w' => e = .returned (.slice none 0 0) ∧ w' = w := by
  go_enter Tryz.func62, Tryz.ntmps62
  go_wp2
  go_step3
  go_wp2
  go_step3
  go_wp2_with fail
  refine (heads_nil w).mono ?_
  rintro e w1 ⟨rfl, rfl⟩
  go_wp2
  go_loopw [3, 13] (fun ov iv wr => ov = .slice none 0 0 ∧ iv = .int .i64 0 ∧ wr = w1) (fun _ _ _ => 0)
  case atStart => exact ⟨rfl, rfl, rfl⟩
  case round =>
    rename World => wr
    obtain ⟨rfl, rfl, rfl⟩ := hrel
    go_wp2
    rw [Exit.noGoto_ret]
    go_ret
    exact ⟨rfl, rfl⟩
set_option maxHeartbeats 8000000 in
theorem oneGroup_nil (n : Nat) (w : World) (hn : n ≤ 1000000) (hz : n = 0) :
    Calls Tryz.prog 92 #[.int .i64 n] w fun e w' => ∃ p o, e = .returned (PT p) ∧ PrtAt w' p n (fun _ => 0) id id [] [] o ∧ Below w.heap.size w w' ∧ ∀ k, o k → w.heap.size ≤ k := by
  have hmk : ∀ W : World, (Instr.makeSlice 36 (.int .i64 n) (.int .i64 n)).run Tryz.prog W = .ok (.slice (some ⟨W.heap.size, 0, none⟩) n n) (W.alloc (.cells (iCells n fun _ => 0) 3)) := fun W => ints_make n W hn
  have HZ := hide hz
  clear hz
  go_enter Tryz.func92, Tryz.ntmps92
  go_wp2
  rename_i Q' K hK
  have key : ∀ (b1 b2 b3 : Nat) (Z : World), Below w.heap.size w Z → Blk Z (w.heap.size + 1 + 1 + 1) #[.slice (some ⟨b1, 0, none⟩) n n, .slice (some ⟨b2, 0, none⟩) n n, .slice (some ⟨b3, 0, none⟩) n n, .slice none 0 0, .slice none 0 0] 145 → Blk Z b1 (iCells n fun _ => 0) 3 → Blk Z b2 (iCells n fun _ => 0) 3 → Blk Z b3 (iCells n fun _ => 0) 3 → b1 ≠ b2 → b1 ≠ b3 → b2 ≠ b3 → w.heap.size ≤ b1 → w.heap.size ≤ b2 → w.heap.size ≤ b3 →
      Exit.then K Q' Exit.normal { tmps := #[.int .i64 n, undef, .pointer none, .pointer (some ⟨w.heap.size + 1 + 1 + 1, 0, none⟩), undef, .int .i64 n, .slice (some ⟨b1, 0, none⟩) n n, .int .i64 n, .slice (some ⟨b2, 0, none⟩) n n, .int .i64 n, .slice (some ⟨b3, 0, none⟩) n n, .agg #[.slice (some ⟨b1, 0, none⟩) n n, .slice (some ⟨b2, 0, none⟩) n n, .slice (some ⟨b3, 0, none⟩) n n, .slice none 0 0, .slice none 0 0], .pointer (some ⟨w.heap.size + 1 + 1 + 1, 0, none⟩), undef, undef, undef, undef, undef, undef, undef, undef, undef, undef, undef, undef, undef, undef, undef, undef, undef, undef, undef, undef, undef, undef, undef, undef, undef, undef, undef, undef, undef, undef, undef, undef, undef], defers := [] } Z := by
    intro b1 b2 b3 Z hb kp k1 k2 k3 n12 n13 n23 l1 l2 l3
    obtain ⟨p, hp⟩ : ∃ p, w.heap.size + 1 + 1 + 1 = p := ⟨_, rfl⟩
    rw [hp] at kp ⊢
    have HP := hide hp
    have HB := hide hb
    have HE0 : Hid (PrtE Z p n (fun _ => 0) (fun _ => 0) (fun _ => 0) [] [] b1 b2 b3 (.slice none 0 0) (.slice none 0 0)) := ⟨kp, k1, k2, k3, .inl ⟨rfl, rfl⟩, .inl ⟨rfl, rfl⟩, n12, n13, n23, by simp [Value.ownBlock], by simp [Value.ownBlock], by simp [Value.ownBlock]⟩
    clear hb kp k1 k2 k3 hp hmk
    go_wp2
    go_loopw [14] (fun iv wr => ∃ i : Nat, iv = .int .i64 i ∧ i ≤ n ∧ Hid (PrtE wr p n (fun _ => 0) (upTo i) (upTo i) [] [] b1 b2 b3 (.slice none 0 0) (.slice none 0 0)) ∧ Hid (Below w.heap.size w wr)) (fun iv _ => n - (intOf iv).toNat)
    case atStart => exact ⟨0, rfl, Nat.zero_le _, HE0.out.congrO (fun j _ => rfl) (fun j _ => rfl), HB.out⟩
    case round =>
      obtain ⟨i, rfl, hi, HE1, HB1⟩ := hrel
      by_cases hlt : i < n
      · have := HZ.out; omega
      · have di : decide ((i : Int) < (n : Int)) = false := by simp; omega
        obtain rfl : i = n := by omega
        have d0 : decide ((0 : Int) < (i : Int)) = false := by have := HZ.out; simp; omega
        have d1 : ¬ 0 < i := by have := HZ.out; omega
        have hE := HE1.out.congrO (od' := id) (pl' := id) (fun j hj => if_pos hj) (fun j hj => if_pos hj)
        have HE4 := hide hE
        have HOW : Hid (∀ k, ownP p b1 b2 b3 (.slice none 0 0) (.slice none 0 0) k → w.heap.size ≤ k) := fun k hk => by
          rcases hk with e | e | e | e | e | e
          · have := HP.out; omega
          · omega
          · omega
          · omega
          · cases e
          · cases e
        clear hE
        go_wp2
        go_ret
        exact ⟨p, _, rfl, ⟨b1, b2, b3, _, _, HE4.out, rfl⟩, HB1.out, HOW.out⟩
  clear hK
  go_region
  all_goals
    obtain ⟨f1, f2, f3, f4, f5⟩ := four_alloc w _ _ _ _ _ rfl
    exact key _ _ _ _ f1 f5 (by first | exact f2 | exact f3 | exact f4) (by first | exact f2 | exact f3 | exact f4) (by first | exact f2 | exact f3 | exact f4) (by omega) (by omega) (by omega) (by omega) (by omega) (by omega)
set_option maxHeartbeats 2000000 in
theorem alGroups_nil (w : World) (a : Option Addr) (cy : Nat) :
    Calls Tryz.prog 61 #[.slice a 0 cy, .slice none 0 0] w fun e w' => ∃ (bo : Nat), e = .returned (.slice (some ⟨bo, 0, none⟩) 0 0) ∧ Below w.heap.size w w' := by
  have HONE := hide (oneGroup_nil 0 w (by omega) rfl)
  go_enter Tryz.func61, Tryz.ntmps61
  go_wp2_with fail
  refine HONE.out.mono ?_
  rintro e w1 ⟨p, o1, rfl, hpt, hb1, ho1⟩
  have HP0 : Hid (Pst w1 p 0 o1 (fun _ => 0) 0 (fun _ => false)) := ⟨id, id, [], [], hpt, ⟨fun q hq => by omega, fun q hq => by omega, fun q hq => by omega, fun q hq => by omega, fun q hq => by omega, fun k x hk => by simp at hk⟩, List.nodup_nil, fun k => ⟨fun h => by simp at h, fun ⟨a, m, b, hx, hlt⟩ => by simp at hx⟩, rfl, fun q hq => by omega⟩
  have HB1 := hide hb1
  have HO1 := hide ho1
  clear hpt hb1 ho1 HONE
  unfold PT
  go_wp2
  go_loopw [20] (fun iv wr => iv = .int .i64 0 ∧ wr = w1) (fun _ _ => 0)
  case atStart => exact ⟨rfl, rfl⟩
  case round =>
    rename World => wr
    obtain ⟨rfl, rfl⟩ := hrel
    have HM := hide (pst_split HP0.out (by omega))
    go_wp2_with fail
    refine HM.out.mono ?_
    rintro e w2 ⟨rfl, o2, f2, N2, hp2, hs2, hk2⟩
    obtain ⟨hbb, hob⟩ := hk2.base HB1.out HO1.out
    have hN : N2 = 0 := by have := hp2.le; omega
    subst hN
    have HBS := hide (backSteps_any w2 (.slice none 0 0) 0 [] ⟨none, 0, rfl, fun i c hc => by simp at hc⟩ (by omega) (by simp) (fun c hc => by simp at hc))
    have HB2 := hide hbb
    have HP2 := hide hp2
    clear hbb hob hp2 hs2 hk2 HM HP0 HB1 HO1
    go_wp2_with fail
    refine HBS.out.mono ?_
    rintro e w3 ⟨vo, bks, rfl, hbl, hbk, hb3⟩
    have hP3 := HP2.out.keep hb3
    have HB3 := hide (HB2.out.trans (hb3.mono HB2.out.size))
    obtain ⟨⟨ga, gc, cg⟩, bf, c0, kf⟩ := hP3.cells
    obtain ⟨va, vcap, hvs, -⟩ := hbk.own.slice
    subst hvs
    have HN := hide (numbered_any bf 0 f2 w3 kf (by omega) (fun j hj => by omega))
    clear hbk hb3 hbl HBS HP2 HB2 hP3 kf
    go_wp2
    go_loopw [8] (fun gv wr => gv = .int .i64 0 ∧ wr = w3) (fun _ _ => 0)
    case atStart => exact ⟨rfl, rfl⟩
    case round =>
      rename World => wr
      obtain ⟨rfl, rfl⟩ := hrel
      go_wp2_with fail
      refine HN.out.mono ?_
      rintro e w9 ⟨bo, rfl, hko, hb9, hlo⟩
      have HBE := hide (HB3.out.trans (hb9.mono HB3.out.size))
      clear hko hb9 hlo HN
      go_wp2
      go_ret
      exact ⟨bo, rfl, HBE.out⟩
set_option maxHeartbeats 2000000 in
theorem agroups_nil (w : World) :
    Calls Tryz.prog 31 #[.pointer none] w fun e w' => ∃ (bo : Nat), e = .returned (.slice (some ⟨bo, 0, none⟩) 0 0) ∧ Below w.heap.size w w' := by
  have hmk : ∀ W : World, (Instr.makeSlice 35 (.int .i64 0) (.int .i64 0)).run Tryz.prog W = .ok (.slice (some ⟨W.heap.size, 0, none⟩) 0 0) (W.alloc (.cells (yCells 0 fun _ => false) 4)) := fun W => bools_makeY 0 W (by omega)
  go_enter Tryz.func31, Tryz.ntmps31
  go_wp2_with fail
  refine (dlen_nil w).mono ?_
  rintro e w2 ⟨rfl, rfl⟩
  go_wp2
  have hb2 : Below w2.heap.size w2 (w2.alloc (.cells (yCells 0 fun _ => false) 4)) := (Below.refl _ _).alloc (Nat.le_refl _) _
  generalize (w2.alloc (.cells (yCells 0 fun _ => false) 4)) = w3 at hb2 ⊢
  have HB2 := hide hb2
  clear hb2 hmk
  go_loopw [10] (fun jv wx => jv = .int .i64 0 ∧ wx = w3) (fun _ _ => 0)
  case atStart => exact ⟨rfl, rfl⟩
  case round =>
    rename World => wx
    obtain ⟨rfl, rfl⟩ := hrel
    go_wp2_with fail
    refine (columns_nil _).mono ?_
    rintro e w5 ⟨rfl, rfl⟩
    have HGR := hide (alGroups_nil w5 (some ⟨w2.heap.size, 0, none⟩) 0)
    go_wp2_with fail
    refine HGR.out.mono ?_
    rintro e w6 ⟨bo, rfl, hb6⟩
    have HB6 := hide (HB2.out.trans (hb6.mono HB2.out.size))
    clear hb6 HGR
    go_wp2
    go_ret
    exact ⟨bo, rfl, HB6.out⟩
end Go.Proofs.YtjcfnmjjkadaeaaGreatDoor
