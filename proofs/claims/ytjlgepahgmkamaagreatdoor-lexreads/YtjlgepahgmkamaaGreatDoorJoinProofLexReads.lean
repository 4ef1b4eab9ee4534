/- LexReads answers true for every text: All tells an error of three, at a place within the text, or tokens that begin one behind the other within it, the last one alone the End, each word and sign standing where it says, a quote or a slash where a text or an expression begins. Conditions: the table of math/bits holds what its initialiser lays (the card ties that to the program's text). -/
/- Texts of this claim put together: LawLexReads, OpenStr, ProofLexReads. -/
import Derived.Test.YtjlgepahgmkamaaGreatDoorJoinLxQ
import Derived.Test.YtjlgepahgmkamaaGreatDoorJoinTwB
import Derived.Test.YtjlgepahgmkamaaGreatDoorCards
import Derived.Test.YtjlgepahgmkamaaGreatDoorTie
/- LexReads: tokens that lie one behind the other within a text, or an error within it. -/
namespace Go.Proofs.YtjlgepahgmkamaaGreatDoor
set_option maxRecDepth 100000
set_option linter.unusedSimpArgs false
set_option linter.unusedVariables false
open Go.RowKit Go.Shelf

section
variable (ρ : Operand → Value) (d : Option Tmp) (x y z : Operand) (t : TypeId) (pos : String) (af : Array Edge) (g : Option (Nat × Bool))
theorem x_fldT3 (b o : Nat) (hx : ρ x = .pointer (some ⟨b, o, none⟩)) (w : World) : (execOp ρ { dst := d, op := .fieldAddr 35 x 3, type := t, pos := pos, after := af, guard := g }).run Tryz.prog w = .ok (.value (.pointer (some ⟨b, o + 3, none⟩))) w := by
  simp [go_sem, hx]
theorem x_ldPos (b n : Nat) (v : Int) (hx : ρ x = .pointer (some ⟨b, n, none⟩)) (w : World) (hc : w.cell? ⟨b, n, none⟩ = some (.int .i64 v)) : (execOp ρ { dst := d, op := .load 33 x, type := t, pos := pos, after := af, guard := g }).run Tryz.prog w = .ok (.value (.int .i64 v)) w := by
  simp [go_sem, hx, hc]
theorem x_addNN (u v : Nat) (h : u + v ≤ 1000000) (hx : ρ x = .int .i64 u) (hy : ρ y = .int .i64 v) (w : World) : (execOp ρ { dst := d, op := .binOp .add 3 x y 3, type := t, pos := pos, after := af, guard := g }).run Tryz.prog w = .ok (.value (.int .i64 ((u + v : Nat) : Int))) w := by
  have h : IntKind.i64.wrap ((u : Int) + (v : Int)) = ((u + v : Nat) : Int) := by
    rw [IntKind.wrap_i64]; omega
  simp [go_sem, hx, hy, h]
theorem x_gtrN (u v : Nat) (h : u ≤ v) (hx : ρ x = .int .i64 u) (hy : ρ y = .int .i64 v) (w : World) : (execOp ρ { dst := d, op := .binOp .gtr 3 x y 3, type := t, pos := pos, after := af, guard := g }).run Tryz.prog w = .ok (.value (.bool false)) w := by
  have h2 : decide ((v : Int) < (u : Int)) = false := by simp; omega
  have h3 : v < u ↔ False := ⟨fun e => by omega, fun e => e.elim⟩
  simp [go_sem, hx, hy, h3]
theorem x_sSubE (s : ByteArray) (i j : Nat) (u : ByteArray) (he : s.extract i j = u) (hx : ρ x = .string s) (hy : ρ y = .int .i64 i) (hz : ρ z = .int .i64 j) (h1 : i ≤ j) (h2 : j ≤ s.size) (w : World) :
    (execOp ρ { dst := d, op := .slice 9 x (some y) (some z) none, type := t, pos := pos, after := af, guard := g }).run Tryz.prog w = .ok (.value (.string u)) w := by
  rw [← he]
  simp [go_sem, hx, hy, hz, h1, h2]
theorem x_neqSame2 (u : ByteArray) (hx : ρ x = .string u) (hy : ρ y = .string u) (w : World) : (execOp ρ { dst := d, op := .binOp .neq 9 x y 9, type := t, pos := pos, after := af, guard := g }).run Tryz.prog w = .ok (.value (.bool false)) w := by
  simp [go_sem, hx, hy]
end
/-- Where the last token was; -1: there was none. -/
def lastV (l : List (LTok × Value)) (q : Nat) : Int := if q = 0 then -1 else ((l[q - 1]?).map fun x => (x.1.at' : Int)).getD (-1)
theorem lastV_succ {l : List (LTok × Value)} {q : Nat} {x : LTok × Value} (h : l[q]? = some x) : lastV l (q + 1) = (x.1.at' : Int) := by
  unfold lastV
  rw [if_neg (by omega), Nat.add_sub_cancel, h]
  rfl
set_option maxHeartbeats 8000000 in
theorem lexReads_any (s : ByteArray) (w : World) (hs : s.size ≤ 9223372036854775807) (hT : TabAt w) :
    Calls Tryz.prog 4 #[.string s] w fun e w' => e = .returned (.bool true) ∧ Below w.heap.size w w' := by
  have HT := hide hT
  clear hT
  go_enter Tryz.func4, Tryz.ntmps4
  go_wp2_with fail
  refine (head11_any w HT.out).mono ?_
  rintro e w1 ⟨rfl, hb1⟩
  have HB1 := hide hb1
  clear hb1
  by_cases h300 : 300 < s.size
  · have d0 : decide ((300 : Int) < (s.size : Int)) = true := by simp; omega
    go_wp2
    go_ret
    exact ⟨rfl, HB1.out⟩
  have d0 : decide ((300 : Int) < (s.size : Int)) = false := by simp; omega
  have hbig : s.size ≤ 300 := by omega
  have HALL := hide (lexAll_any s w1 (by omega) (HT.out.agree (Agree.of_all (K := fun _ => True) HB1.out) trivial))
  clear h300
  go_wp2_with fail
  refine HALL.out.mono ?_
  rintro e w4 ⟨hE, hO, hb4⟩
  have HB4 := hide (HB1.out.trans (hb4.mono HB1.out.size))
  clear HALL hb4
  cases hr : lexT s with
  | inl ex =>
    obtain ⟨e, x⟩ := ex
    obtain ⟨rfl, -⟩ := hE e x hr
    obtain ⟨h1, h2⟩ := lexF_inl (by omega) (s.size + 1) 0 (Nat.zero_le _) (by omega) hr
    have d1 : decide ((0 : Int) ≤ (x : Int)) = true := by simp
    have d2 : decide ((x : Int) ≤ (s.size : Int)) = true := by simp; omega
    clear hE hO hr
    rcases h1 with rfl | rfl | rfl
    all_goals
      go_wp2
      go_ret
      exact ⟨rfl, HB4.out⟩
  | inr m =>
    obtain ⟨V, l, rfl, hm, hO1, hP1⟩ := hO m hr
    obtain ⟨m0, m1, m2⟩ := lexF_inr (s.size + 1) 0 (Nat.zero_le _) hr
    have hln : l.length = m.length := by rw [← hm, List.length_map]
    have hl0 : 0 < l.length := by omega
    obtain ⟨g, cap, rfl, hg1, hg2, hcap, hcell⟩ := hO1.cell hl0
    have HC := hide hcell
    have HM2 : Hid (∀ i x, l[i]? = some x → x.1.at' ≤ s.size ∧ (x.1.kind = 0 ↔ i + 1 = l.length) ∧ (∀ x', l[i + 1]? = some x' → x.1.at' < x'.1.at') ∧ OkT s x.1) := fun i x hx => by
      have h1 : m[i]? = some x.1 := by rw [← hm, List.getElem?_map, hx]; rfl
      obtain ⟨k1, k2, k3, k4⟩ := m2 i x.1 h1
      refine ⟨k1, by rw [hln]; exact k2, fun x' hx' => k3 x'.1 ?_, k4⟩
      rw [← hm, List.getElem?_map, hx']; rfl
    have HP := hide hP1
    have hlc : l.length ≤ 301 := by
      -- the tokens begin at different places
      have hk : ∀ i, i < l.length → ∃ x, l[i]? = some x ∧ i ≤ x.1.at' := by
        intro i
        induction i with
        | zero => intro hi; exact ⟨_, List.getElem?_eq_getElem hi, Nat.zero_le _⟩
        | succ i ih =>
          intro hi
          obtain ⟨x, hx, hi2⟩ := ih (by omega)
          have h3 := (HM2.out i x hx).2.2.1 _ (List.getElem?_eq_getElem hi)
          exact ⟨_, List.getElem?_eq_getElem hi, by omega⟩
      obtain ⟨x, hx, hi⟩ := hk (l.length - 1) (by omega)
      have := (HM2.out _ x hx).1
      omega
    obtain ⟨n, hn⟩ : ∃ n, l.length = n := ⟨_, rfl⟩
    rw [hn] at hl0 hlc HM2 ⊢
    have HN := hide hn
    clear hE hO hr hm hP1 m0 m1 m2 hln hcell hO1 hcap hn hg1
    go_wp2
    go_loopw [6, 49] (fun lv iv wr => ∃ q : Nat, q ≤ n ∧ iv = .int .i64 q ∧ lv = .int .i64 (lastV l q) ∧ Hid (Below w4.heap.size w4 wr)) (fun _ i _ => n - (intOf i).toNat)
    case atStart => exact ⟨0, Nat.zero_le _, rfl, rfl, Below.refl _ _⟩
    case round =>
      obtain ⟨q, hq, rfl, rfl, HBR⟩ := hrel
      by_cases hqn : q < n
      · have dq : decide ((q : Int) < (n : Int)) = true := by simp; omega
        obtain ⟨x, hx⟩ : ∃ x, l[q]? = some x := ⟨_, List.getElem?_eq_getElem (by rw [HN.out]; exact hqn)⟩
        obtain ⟨k1, k2, k3, k4⟩ := HM2.out q x hx
        have hpt := HP.out x (List.mem_of_getElem? hx)
        have hnx := lastV_succ hx
        have hlt : lastV l q < (x.1.at' : Int) := by
          cases q with
          | zero => show (-1 : Int) < _; omega
          | succ q =>
            obtain ⟨x', hx'⟩ : ∃ x', l[q]? = some x' := ⟨_, List.getElem?_eq_getElem (by rw [HN.out]; omega)⟩
            rw [lastV_succ hx']
            have := (HM2.out q x' hx').2.2.1 x hx
            omega
        have hc := HC.out q x hx
        obtain ⟨t, v⟩ := x
        obtain ⟨o, rfl⟩ := hpt.ptr
        simp only at k1 k2 k4 hpt hnx hlt
        have HPT := hide hpt
        have HOK := hide k4
        have c0 := hc 0 (by omega); have c1 := hc 1 (by omega); have c2 := hc 2 (by omega); have c3 := hc 3 (by omega)
        simp only [encT, List.getElem?_cons_zero, List.getElem?_cons_succ, Nat.add_zero] at c0 c1 c2 c3
        have hbr : ∀ a, a.block = g → wr.cell? a = w4.cell? a := fun a ha => World.cell?_of_block (HBR.out.block _ (by rw [ha]; exact hg2))
        rw [← hbr _ rfl] at c0 c1 c2 c3
        obtain ⟨ta, hta⟩ : ∃ ta, ta = t.at' := ⟨_, rfl⟩
        obtain ⟨tx, htx⟩ : ∃ tx, tx = t.txt := ⟨_, rfl⟩
        obtain ⟨kd, hkd⟩ : ∃ kd, kd = t.kind := ⟨_, rfl⟩
        obtain ⟨lv, hlv⟩ : ∃ lv, lv = lastV l q := ⟨_, rfl⟩
        rw [← hlv] at hlt ⊢
        rw [← hta] at k1 hnx hlt c3
        rw [← htx] at c1
        rw [← hkd] at c0 k2
        have HNX := hide hnx
        have HTA := hide hta
        have HTX := hide htx
        have HKD := hide hkd
        have e1 : decide ((ta : Int) ≤ lv) = false := by simp; omega
        have e2 : decide ((s.size : Int) < (ta : Int)) = false := by simp; omega
        have hk4 : kd = 0 ∨ kd = 1 ∨ kd = 2 ∨ kd = 3 ∨ kd = 4 := by have := k4.kind; omega
        clear k4 hc hbr hpt hnx hta htx hkd hlv hx k3
        obtain ⟨K, hK⟩ : ∃ K, wr.heap.size = K := ⟨_, rfl⟩
        obtain ⟨w5, ew⟩ : ∃ w5, wr.alloc (.cells #[.int .i64 kd, .string tx, .pointer o, .int .i64 ta] 35) = w5 := ⟨_, rfl⟩
        have hK5 : Blk w5 K #[.int .i64 kd, .string tx, .pointer o, .int .i64 ta] 35 := by rw [← ew, ← hK]; exact Blk.newAt rfl _ _
        have HB5 : Hid (Below w4.heap.size w4 w5) := HBR.out.trans (by rw [← ew]; exact ((Below.refl _ _).alloc HBR.out.size _))
        have k50 := hK5.cell 0; have k51 := hK5.cell 1; have k52 := hK5.cell 2; have k53 := hK5.cell 3
        simp only [List.getElem?_toArray, List.getElem?_cons_zero, List.getElem?_cons_succ] at k50 k51 k52 k53
        have HK5 := hide hK5
        clear hK5
        rcases hk4 with hk | hk | hk | hk | hk
        · subst hk
          have f1 : ((q : Int) + 1 == (n : Int)) = true := by simp; omega
          rw [show ((0 : Nat) : Int) = 0 from rfl] at c0 ew k50
          go_wp2
          refine ⟨⟨q + 1, by omega, by go_num, by rw [HNX.out], ?_⟩, by simp [intOf]; omega⟩
          exact HB5.out
        · subst hk
          have f1 : ((q : Int) + 1 == (n : Int)) = false := by simp; omega
          rw [show ((1 : Nat) : Int) = 1 from rfl] at c0 ew k50
          obtain ⟨hle, hex⟩ := HOK.out.word (.inl HKD.out.symm)
          rw [← HTA.out, ← HTX.out] at hle hex
          go_wp2
          · have y1 : ∀ V, Below w5.heap.size w5 V → V.cell? ⟨K, 1, none⟩ = some (.string tx) := fun V hV => (World.cell?_of_block (hV.block _ HK5.out.lt)).trans (HK5.out.cell 1)
            have y3 : ∀ V, Below w5.heap.size w5 V → V.cell? ⟨K, 3, none⟩ = some (.int .i64 ta) := fun V hV => (World.cell?_of_block (hV.block _ HK5.out.lt)).trans (HK5.out.cell 3)
            refine w_lit (C := fun V => Below w5.heap.size w5 V) (by kernel_rfl) (by kernel_rfl) ⟨rfl, rfl, rfl, Nat.le_refl _, fun _ _ => rfl⟩ ?_
            refine w_value (.pointer (some ⟨K, 3, none⟩)) (by kernel_rfl) (fun w hw => x_fldT3 _ _ _ _ _ _ _ K 0 rfl w) ?_
            simp only [Act.put, List.setIfInBounds_toArray, List.set_cons_succ, List.set_cons_zero]
            refine w_value (.int .i64 ta) (by kernel_rfl) (fun w hw => x_ldPos _ _ _ _ _ _ _ K 3 _ rfl w (y3 w hw)) ?_
            simp only [Act.put, List.setIfInBounds_toArray, List.set_cons_succ, List.set_cons_zero]
            refine w_value (.pointer (some ⟨K, 1, none⟩)) (by kernel_rfl) (fun w hw => x_fldT1 _ _ _ _ _ _ _ K 0 rfl w) ?_
            simp only [Act.put, List.setIfInBounds_toArray, List.set_cons_succ, List.set_cons_zero]
            refine w_value (.string tx) (by kernel_rfl) (fun w hw => x_ldS2 _ _ _ _ _ _ _ K 1 _ rfl w (y1 w hw)) ?_
            simp only [Act.put, List.setIfInBounds_toArray, List.set_cons_succ, List.set_cons_zero]
            refine w_value (.int .i64 tx.size) (by kernel_rfl) (fun w hw => x_lenS _ _ _ _ _ _ _ tx rfl w) ?_
            simp only [Act.put, List.setIfInBounds_toArray, List.set_cons_succ, List.set_cons_zero]
            refine w_value (.int .i64 ((ta + tx.size : Nat) : Int)) (by kernel_rfl) (fun w hw => x_addNN _ _ _ _ _ _ _ _ ta tx.size (by omega) rfl rfl w) ?_
            simp only [Act.put, List.setIfInBounds_toArray, List.set_cons_succ, List.set_cons_zero]
            refine w_value (.string s) (by kernel_rfl) (fun w hw => x_move _ _ _ _ _ _ _ _ rfl w) ?_
            simp only [Act.put, List.setIfInBounds_toArray, List.set_cons_succ, List.set_cons_zero]
            refine w_value (.int .i64 s.size) (by kernel_rfl) (fun w hw => x_lenS _ _ _ _ _ _ _ s rfl w) ?_
            simp only [Act.put, List.setIfInBounds_toArray, List.set_cons_succ, List.set_cons_zero]
            refine w_value (.bool false) (by kernel_rfl) (fun w hw => x_gtrN _ _ _ _ _ _ _ _ (ta + tx.size) s.size hle rfl rfl w) ?_
            simp only [Act.put, List.setIfInBounds_toArray, List.set_cons_succ, List.set_cons_zero]
            refine w_value (.bool false) (by kernel_rfl) (fun w hw => x_move _ _ _ _ _ _ _ _ rfl w) ?_
            simp only [Act.put, List.setIfInBounds_toArray, List.set_cons_succ, List.set_cons_zero]
            refine w_value (.string s) (by kernel_rfl) (fun w hw => x_move _ _ _ _ _ _ _ _ rfl w) ?_
            simp only [Act.put, List.setIfInBounds_toArray, List.set_cons_succ, List.set_cons_zero]
            refine w_value (.pointer (some ⟨K, 3, none⟩)) (by kernel_rfl) (fun w hw => x_fldT3 _ _ _ _ _ _ _ K 0 rfl w) ?_
            simp only [Act.put, List.setIfInBounds_toArray, List.set_cons_succ, List.set_cons_zero]
            refine w_value (.int .i64 ta) (by kernel_rfl) (fun w hw => x_ldPos _ _ _ _ _ _ _ K 3 _ rfl w (y3 w hw)) ?_
            simp only [Act.put, List.setIfInBounds_toArray, List.set_cons_succ, List.set_cons_zero]
            refine w_value (.pointer (some ⟨K, 3, none⟩)) (by kernel_rfl) (fun w hw => x_fldT3 _ _ _ _ _ _ _ K 0 rfl w) ?_
            simp only [Act.put, List.setIfInBounds_toArray, List.set_cons_succ, List.set_cons_zero]
            refine w_value (.int .i64 ta) (by kernel_rfl) (fun w hw => x_ldPos _ _ _ _ _ _ _ K 3 _ rfl w (y3 w hw)) ?_
            simp only [Act.put, List.setIfInBounds_toArray, List.set_cons_succ, List.set_cons_zero]
            refine w_value (.pointer (some ⟨K, 1, none⟩)) (by kernel_rfl) (fun w hw => x_fldT1 _ _ _ _ _ _ _ K 0 rfl w) ?_
            simp only [Act.put, List.setIfInBounds_toArray, List.set_cons_succ, List.set_cons_zero]
            refine w_value (.string tx) (by kernel_rfl) (fun w hw => x_ldS2 _ _ _ _ _ _ _ K 1 _ rfl w (y1 w hw)) ?_
            simp only [Act.put, List.setIfInBounds_toArray, List.set_cons_succ, List.set_cons_zero]
            refine w_value (.int .i64 tx.size) (by kernel_rfl) (fun w hw => x_lenS _ _ _ _ _ _ _ tx rfl w) ?_
            simp only [Act.put, List.setIfInBounds_toArray, List.set_cons_succ, List.set_cons_zero]
            refine w_value (.int .i64 ((ta + tx.size : Nat) : Int)) (by kernel_rfl) (fun w hw => x_addNN _ _ _ _ _ _ _ _ ta tx.size (by omega) rfl rfl w) ?_
            simp only [Act.put, List.setIfInBounds_toArray, List.set_cons_succ, List.set_cons_zero]
            refine w_value (.string tx) (by kernel_rfl) (fun w hw => x_sSubE _ _ _ _ _ _ _ _ _ s ta (ta + tx.size) tx hex rfl rfl rfl (by omega) hle w) ?_
            simp only [Act.put, List.setIfInBounds_toArray, List.set_cons_succ, List.set_cons_zero]
            refine w_value (.pointer (some ⟨K, 1, none⟩)) (by kernel_rfl) (fun w hw => x_fldT1 _ _ _ _ _ _ _ K 0 rfl w) ?_
            simp only [Act.put, List.setIfInBounds_toArray, List.set_cons_succ, List.set_cons_zero]
            refine w_value (.string tx) (by kernel_rfl) (fun w hw => x_ldS2 _ _ _ _ _ _ _ K 1 _ rfl w (y1 w hw)) ?_
            simp only [Act.put, List.setIfInBounds_toArray, List.set_cons_succ, List.set_cons_zero]
            refine w_value (.bool false) (by kernel_rfl) (fun w hw => x_neqSame2 _ _ _ _ _ _ _ _ tx rfl rfl w) ?_
            simp only [Act.put, List.setIfInBounds_toArray, List.set_cons_succ, List.set_cons_zero]
            refine w_value (.bool false) (by kernel_rfl) (fun w hw => x_pick _ _ _ _ _ _ _ _ _ false (.bool true) (.bool false) rfl rfl rfl w) ?_
            simp only [Act.put, List.setIfInBounds_toArray, List.set_cons_succ, List.set_cons_zero]
            refine w_nil ?_
            intro W hCW
            have HBW := hide (HB5.out.trans (hCW.mono HB5.out.size))
            clear hCW y1 y3
            go_wp2
            refine ⟨⟨q + 1, by omega, by go_num, by rw [HNX.out], ?_⟩, by simp [intOf]; omega⟩
            exact HBW.out
        · subst hk
          have f1 : ((q : Int) + 1 == (n : Int)) = false := by simp; omega
          rw [show ((2 : Nat) : Int) = 2 from rfl] at c0 ew k50
          obtain ⟨hle, hex⟩ := HOK.out.word (.inr HKD.out.symm)
          rw [← HTA.out, ← HTX.out] at hle hex
          go_wp2
          · have y1 : ∀ V, Below w5.heap.size w5 V → V.cell? ⟨K, 1, none⟩ = some (.string tx) := fun V hV => (World.cell?_of_block (hV.block _ HK5.out.lt)).trans (HK5.out.cell 1)
            have y3 : ∀ V, Below w5.heap.size w5 V → V.cell? ⟨K, 3, none⟩ = some (.int .i64 ta) := fun V hV => (World.cell?_of_block (hV.block _ HK5.out.lt)).trans (HK5.out.cell 3)
            refine w_lit (C := fun V => Below w5.heap.size w5 V) (by kernel_rfl) (by kernel_rfl) ⟨rfl, rfl, rfl, Nat.le_refl _, fun _ _ => rfl⟩ ?_
            refine w_value (.pointer (some ⟨K, 3, none⟩)) (by kernel_rfl) (fun w hw => x_fldT3 _ _ _ _ _ _ _ K 0 rfl w) ?_
            simp only [Act.put, List.setIfInBounds_toArray, List.set_cons_succ, List.set_cons_zero]
            refine w_value (.int .i64 ta) (by kernel_rfl) (fun w hw => x_ldPos _ _ _ _ _ _ _ K 3 _ rfl w (y3 w hw)) ?_
            simp only [Act.put, List.setIfInBounds_toArray, List.set_cons_succ, List.set_cons_zero]
            refine w_value (.pointer (some ⟨K, 1, none⟩)) (by kernel_rfl) (fun w hw => x_fldT1 _ _ _ _ _ _ _ K 0 rfl w) ?_
            simp only [Act.put, List.setIfInBounds_toArray, List.set_cons_succ, List.set_cons_zero]
            refine w_value (.string tx) (by kernel_rfl) (fun w hw => x_ldS2 _ _ _ _ _ _ _ K 1 _ rfl w (y1 w hw)) ?_
            simp only [Act.put, List.setIfInBounds_toArray, List.set_cons_succ, List.set_cons_zero]
            refine w_value (.int .i64 tx.size) (by kernel_rfl) (fun w hw => x_lenS _ _ _ _ _ _ _ tx rfl w) ?_
            simp only [Act.put, List.setIfInBounds_toArray, List.set_cons_succ, List.set_cons_zero]
            refine w_value (.int .i64 ((ta + tx.size : Nat) : Int)) (by kernel_rfl) (fun w hw => x_addNN _ _ _ _ _ _ _ _ ta tx.size (by omega) rfl rfl w) ?_
            simp only [Act.put, List.setIfInBounds_toArray, List.set_cons_succ, List.set_cons_zero]
            refine w_value (.string s) (by kernel_rfl) (fun w hw => x_move _ _ _ _ _ _ _ _ rfl w) ?_
            simp only [Act.put, List.setIfInBounds_toArray, List.set_cons_succ, List.set_cons_zero]
            refine w_value (.int .i64 s.size) (by kernel_rfl) (fun w hw => x_lenS _ _ _ _ _ _ _ s rfl w) ?_
            simp only [Act.put, List.setIfInBounds_toArray, List.set_cons_succ, List.set_cons_zero]
            refine w_value (.bool false) (by kernel_rfl) (fun w hw => x_gtrN _ _ _ _ _ _ _ _ (ta + tx.size) s.size hle rfl rfl w) ?_
            simp only [Act.put, List.setIfInBounds_toArray, List.set_cons_succ, List.set_cons_zero]
            refine w_value (.bool false) (by kernel_rfl) (fun w hw => x_move _ _ _ _ _ _ _ _ rfl w) ?_
            simp only [Act.put, List.setIfInBounds_toArray, List.set_cons_succ, List.set_cons_zero]
            refine w_value (.string s) (by kernel_rfl) (fun w hw => x_move _ _ _ _ _ _ _ _ rfl w) ?_
            simp only [Act.put, List.setIfInBounds_toArray, List.set_cons_succ, List.set_cons_zero]
            refine w_value (.pointer (some ⟨K, 3, none⟩)) (by kernel_rfl) (fun w hw => x_fldT3 _ _ _ _ _ _ _ K 0 rfl w) ?_
            simp only [Act.put, List.setIfInBounds_toArray, List.set_cons_succ, List.set_cons_zero]
            refine w_value (.int .i64 ta) (by kernel_rfl) (fun w hw => x_ldPos _ _ _ _ _ _ _ K 3 _ rfl w (y3 w hw)) ?_
            simp only [Act.put, List.setIfInBounds_toArray, List.set_cons_succ, List.set_cons_zero]
            refine w_value (.pointer (some ⟨K, 3, none⟩)) (by kernel_rfl) (fun w hw => x_fldT3 _ _ _ _ _ _ _ K 0 rfl w) ?_
            simp only [Act.put, List.setIfInBounds_toArray, List.set_cons_succ, List.set_cons_zero]
            refine w_value (.int .i64 ta) (by kernel_rfl) (fun w hw => x_ldPos _ _ _ _ _ _ _ K 3 _ rfl w (y3 w hw)) ?_
            simp only [Act.put, List.setIfInBounds_toArray, List.set_cons_succ, List.set_cons_zero]
            refine w_value (.pointer (some ⟨K, 1, none⟩)) (by kernel_rfl) (fun w hw => x_fldT1 _ _ _ _ _ _ _ K 0 rfl w) ?_
            simp only [Act.put, List.setIfInBounds_toArray, List.set_cons_succ, List.set_cons_zero]
            refine w_value (.string tx) (by kernel_rfl) (fun w hw => x_ldS2 _ _ _ _ _ _ _ K 1 _ rfl w (y1 w hw)) ?_
            simp only [Act.put, List.setIfInBounds_toArray, List.set_cons_succ, List.set_cons_zero]
            refine w_value (.int .i64 tx.size) (by kernel_rfl) (fun w hw => x_lenS _ _ _ _ _ _ _ tx rfl w) ?_
            simp only [Act.put, List.setIfInBounds_toArray, List.set_cons_succ, List.set_cons_zero]
            refine w_value (.int .i64 ((ta + tx.size : Nat) : Int)) (by kernel_rfl) (fun w hw => x_addNN _ _ _ _ _ _ _ _ ta tx.size (by omega) rfl rfl w) ?_
            simp only [Act.put, List.setIfInBounds_toArray, List.set_cons_succ, List.set_cons_zero]
            refine w_value (.string tx) (by kernel_rfl) (fun w hw => x_sSubE _ _ _ _ _ _ _ _ _ s ta (ta + tx.size) tx hex rfl rfl rfl (by omega) hle w) ?_
            simp only [Act.put, List.setIfInBounds_toArray, List.set_cons_succ, List.set_cons_zero]
            refine w_value (.pointer (some ⟨K, 1, none⟩)) (by kernel_rfl) (fun w hw => x_fldT1 _ _ _ _ _ _ _ K 0 rfl w) ?_
            simp only [Act.put, List.setIfInBounds_toArray, List.set_cons_succ, List.set_cons_zero]
            refine w_value (.string tx) (by kernel_rfl) (fun w hw => x_ldS2 _ _ _ _ _ _ _ K 1 _ rfl w (y1 w hw)) ?_
            simp only [Act.put, List.setIfInBounds_toArray, List.set_cons_succ, List.set_cons_zero]
            refine w_value (.bool false) (by kernel_rfl) (fun w hw => x_neqSame2 _ _ _ _ _ _ _ _ tx rfl rfl w) ?_
            simp only [Act.put, List.setIfInBounds_toArray, List.set_cons_succ, List.set_cons_zero]
            refine w_value (.bool false) (by kernel_rfl) (fun w hw => x_pick _ _ _ _ _ _ _ _ _ false (.bool true) (.bool false) rfl rfl rfl w) ?_
            simp only [Act.put, List.setIfInBounds_toArray, List.set_cons_succ, List.set_cons_zero]
            refine w_nil ?_
            intro W hCW
            have HBW := hide (HB5.out.trans (hCW.mono HB5.out.size))
            clear hCW y1 y3
            go_wp2
            refine ⟨⟨q + 1, by omega, by go_num, by rw [HNX.out], ?_⟩, by simp [intOf]; omega⟩
            exact HBW.out
        · subst hk
          have f1 : ((q : Int) + 1 == (n : Int)) = false := by simp; omega
          rw [show ((3 : Nat) : Int) = 3 from rfl] at c0 ew k50
          have h34 := HOK.out.text HKD.out.symm
          rw [← HTA.out] at h34
          obtain ⟨hx, ec⟩ := bN_at s ta 34 h34
          clear h34
          go_wp2
          refine ⟨⟨q + 1, by omega, by go_num, by rw [HNX.out], ?_⟩, by simp [intOf]; omega⟩
          exact HB5.out
        · subst hk
          have f1 : ((q : Int) + 1 == (n : Int)) = false := by simp; omega
          rw [show ((4 : Nat) : Int) = 4 from rfl] at c0 ew k50
          obtain ⟨h47, r, hr⟩ := HOK.out.re HKD.out.symm
          rw [← HTA.out] at h47
          obtain ⟨hx, ec⟩ := bN_at s ta 47 h47
          have hpo := HPT.out
          rw [hr] at hpo
          obtain ⟨z, hz, -⟩ := hpo
          injection hz with hz
          subst hz
          clear h47 hr
          go_wp2
          refine ⟨⟨q + 1, by omega, by go_num, by rw [HNX.out], ?_⟩, by simp [intOf]; omega⟩
          exact HB5.out
      · have dq : decide ((q : Int) < (n : Int)) = false := by simp; omega
        go_wp2
        go_ret
        exact ⟨rfl, HB4.out.trans (HBR.out.mono HB4.out.size)⟩
theorem lexReads_all (v : Value) (s : ByteArray) (w : World) (hv : v = .string s ∧ s.size ≤ 9223372036854775807) (hT : TabAt w) :
    Calls Tryz.prog 4 #[v] w fun e w' => e = .returned (.bool true) ∧ Below w.heap.size w w' := by
  obtain ⟨rfl, hs⟩ := hv
  exact lexReads_any s w hs hT
end Go.Proofs.YtjlgepahgmkamaaGreatDoor
/- A string that came in. -/
namespace Go.Proofs.YtjlgepahgmkamaaGreatDoor
set_option maxRecDepth 100000
set_option linter.unusedSimpArgs false
set_option linter.unusedVariables false
open Go.RowKit

section
open Go.ChangeShapes Go.WideShapes Go.ChangeAt Go.WideMaps Go.WideElems
theorem open_str {H : Type} {enc : TypeId × Value → H} {w : World} {r : Reach} {b0 base : Nat} {sp : Nat → Bool} {held : Bool} {v : Value} {d : DataW H} {p : List MemPlace}
    (hv : Value.okWide Tryz.prog w r b0 9 v) (h : DataW.Trod enc Tryz.prog w base sp held 9 v d p) : ∃ s : ByteArray, v = .string s ∧ s.size ≤ 9223372036854775807 := by
  obtain ⟨s, rfl⟩ := okWide_string Tryz.underlying9 hv
  obtain ⟨fuel, hf⟩ := h
  refine ⟨s, rfl, ?_⟩
  cases fuel with
  | zero => simp [DataW.trod] at hf
  | succ m =>
    unfold DataW.trod at hf
    rw [Tryz.underlying9] at hf
    simp [Value.cells] at hf
    have := hf.1
    unfold maxLen at this
    omega
end
end Go.Proofs.YtjlgepahgmkamaaGreatDoor
/- LexReads answers true for every text: All tells an error of three, at a place within the text, or tokens that begin one behind the other within it, the last one alone the End, each word and sign standing where it says, a quote or a slash where a text or an expression begins. Conditions: the table of math/bits holds what its initialiser lays (the card ties that to the program's text). -/
namespace Go.Proofs.YtjlgepahgmkamaaGreatDoor
set_option maxRecDepth 100000
open Go.ChangeShapes Go.WideShapes Go.ChangeAt Go.WideMaps Go.WideElems Go.RowKit

set_option maxRecDepth 100000 in
theorem lexReads_lifted (os : Os) (started : os.Started) (H : Type) (enc : TypeId × Value → H) :
    ReturnsInHanded {} Tryz.checked os 4 .any (fun w args => (Rows.lexReadsSpec.pre enc Tryz.prog Tryz.f4 [] false w args ∧ laidMetH Tryz.prog [("math/bits.deBruijn64tab", Rows.laid_math_bits_deBruijn64tab)] w) ∧ sizedMet enc Tryz.prog Tryz.f4 (OpenSpec.ofChange Rows.lexReadsSpec) false w args)
      (Rows.lexReadsSpec.post enc Tryz.prog Tryz.f4 false true false false) := by
  refine returnsInHanded_of_change_and (C := Tryz.checked) (X := fun w _ => laidMetH Tryz.prog [("math/bits.deBruijn64tab", Rows.laid_math_bits_deBruijn64tab)] w) (fun _ _ _ hh h => h.of_heap hh) own started (by kernel_rfl) Tryz.func4
    (ChangeSpec.witness_shaped (enc := enc) (C := Tryz.checked) (os := os) (X := fun w _ => laidMetH Tryz.prog [("math/bits.deBruijn64tab", Rows.laid_math_bits_deBruijn64tab)] w) false (World.doorLaid Tryz.prog 400 os)
      #[.string ⟨#[]⟩] 8 rfl (World.shaped_of_RefB (by kernel_rfl) (by kernel_rfl)) (by kernel_rfl) (by kernel_rfl) (by kernel_rfl) (door_met os _)) ?_
  intro W base args ds gs before hval0 hW _ _ hL _
  have hval : ∀ (j : Nat) t v, Tryz.f4.params[j]? = some t → args[j]? = some v → Value.okWide Tryz.prog W .any base t v := hval0
  have hW' := hW
  obtain ⟨p, q, hA0, hV, rfl, hfz, hnd⟩ := hW
  have hA : DataW.TrodAll enc Tryz.prog W 0 (fun _ => true) true Tryz.f4.params.toList args.toList ds p := hA0
  rw [Tryz.params4] at hA hval
  obtain ⟨v0, d0, rfl, rfl, h0⟩ := trodAll_one hA
  obtain ⟨rfl, rfl⟩ := trodVars_none hV
  have k0 := h0
  have lt0 : ∀ x ∈ p, x.block < W.heap.size := by obtain ⟨m, hm⟩ := k0; exact DataW.trod_lt m _ _ _ hm
  obtain ⟨z0, hz0⟩ := open_str (hval 0 9 v0 rfl rfl) h0
  have hT := tab_of_laid hL
  clear hA0 hval0
  refine (lexReads_all v0 z0 W hz0 hT).mono fun e W' ⟨he, hb⟩ => ?_
  subst he
  exact ⟨_, rfl, _, _, _, [], _, [], hW', trodAll_mk1 (shut_bool Tryz.underlying4 _), trodAll_mk1 (Below.trod laidOut (by kernel_rfl) (of_decide_eq_true (by kernel_rfl)) k0 hb lt0), rfl, hb.frame _, fun h => by cases h⟩

theorem lexReads_said : Rows.LexReadsSaid :=
  OpenClaim.holds_of_wide 4 Tryz.f4 rfl rfl rfl rfl rfl rfl rfl ⟨rfl, rfl, rfl, rfl, rfl⟩ rfl rfl rfl rfl rfl (by kernel_rfl) Tryz.func4 (by kernel_rfl)
    (of_decide_eq_true (by kernel_rfl)) (by unfold Func.isWrapper; first | (rw [if_pos (by decide +kernel)]; kernel_rfl) | (rw [if_neg (by decide +kernel)]; exact ⟨rfl, rfl⟩))
    (fun os started H enc _ => lexReads_lifted os started H enc)

theorem lexReads_card : Rows.LexReadsCardSaid :=
  Claim7.holds_tied_plain_at .later [] [.data] true Rows.lexReadsCard.stood.harness false
    lexReads_said (fun _ h => by cases h) (by kernel_rfl) (fun _ h => by cases h) lexReads_row_tie rfl ⟨rfl, rfl⟩ (by kernel_rfl) rfl
    (fun f fn hf hfn => by
      obtain rfl : f = 4 := Option.some.inj ((show Tryz.prog.funcNamed "periscope/periscopelaw11.LexReads" = some 4 by kernel_rfl).symm.trans hf) |>.symm
      obtain rfl : fn = Tryz.f4 := (Option.some.inj (Tryz.func4.symm.trans hfn)).symm
      exact ⟨by kernel_rfl, fun j t ht => by
        rw [Tryz.params4] at ht
        have hm : t ∈ [9] := by simpa using Array.mem_of_getElem? ht
        have hall : ([9].all fun u => !Tryz.prog.wantsStandIn u) = true := by kernel_rfl
        exact (show Tryz.prog.wantsStandIn t = false by simpa using List.all_eq_true.1 hall t hm)⟩)
    (by kernel_rfl)
#print axioms lexReads_card
end Go.Proofs.YtjlgepahgmkamaaGreatDoor
