/- ReTexts: whatever shape of few parts and whatever text of few letters: what is made has just the texts that it should have by the page, is in its settled form, and its Null and Size are as the page says. Conditions: the table of math/bits holds what its initialiser lays (the card ties that to the program's text). -/
/- Texts of this claim put together: OpenS, LawReTexts, ProofReTexts. -/
import Derived.Test.YtkjmjppmpcnejaaDoorShA
import Derived.Test.YtkjmjppmpcnejaaDoorShB
import Derived.Test.YtkjmjppmpcnejaaDoorJoinTxF
import Derived.Test.YtkjmjppmpcnejaaDoorCards
import Derived.Test.YtkjmjppmpcnejaaDoorTie
/- Shapes that came in. -/
namespace Go.Proofs.YtkjmjppmpcnejaaDoor
set_option maxRecDepth 100000
open Go.ChangeShapes Go.WideShapes Go.ChangeAt Go.WideMaps Go.WideElems Go.RowKit

theorem open_shape {H : Type} {enc : TypeId × Value → H} {w : World} {r : Reach} {b0 base : Nat} {sp : Nat → Bool} {held : Bool} {v : Value} {d : DataW H} {p : List MemPlace}
    (hv : Value.okWide Tryd.prog w r b0 24 v) (h : DataW.Trod enc Tryd.prog w base sp held 24 v d p) : ∃ s cs, v = ShVal cs ∧ ShC w cs s := by
  obtain ⟨cs, rfl, -⟩ := okWide_struct Tryd.underlying24 hv
  obtain ⟨fuel, hf⟩ := h
  obtain ⟨s, hs⟩ := open_shapeF fuel _ _ hf
  exact ⟨s, cs.toList, by simp [ShVal], hs⟩
theorem open_shapes {H : Type} {enc : TypeId × Value → H} {w : World} {r : Reach} {b0 base : Nat} {sp : Nat → Bool} {held : Bool} {v : Value} {d : DataW H} {p : List MemPlace}
    (hv : Value.okWide Tryd.prog w r b0 22 v) (h : DataW.Trod enc Tryd.prog w base sp held 22 v d p) : ∃ ks, ShsRow w v ks := by
  obtain ⟨a, len, cap, rfl⟩ := okWide_slice Tryd.underlying22 hv
  obtain ⟨fuel, hf⟩ := h
  exact open_shapesF (fun n _ cs y hy => open_shapeF n cs y hy) hf
end Go.Proofs.YtkjmjppmpcnejaaDoor
/- ReTexts: whatever is made: just the texts that it should have, in its settled form. -/
namespace Go.Proofs.YtkjmjppmpcnejaaDoor
set_option maxRecDepth 100000
set_option linter.unusedSimpArgs false
set_option linter.unusedVariables false
open Go.RowKit

theorem x_eqBoolB (ρ : Operand → Value) (d : Option Tmp) (x y : Operand) (t : TypeId) (pos : String) (af : Array Edge) (g : Option (Nat × Bool)) (u v : Bool) (h : (u == v) = true) (hx : ρ x = .bool u) (hy : ρ y = .bool v) (w : World) :
    (execOp ρ { dst := d, op := .binOp .eql 4 x y 4, type := t, pos := pos, after := af, guard := g }).run Tryd.prog w = .ok (.value (.bool true)) w := by
  rw [← h]; exact x_eqBool ρ d x y t pos af g u v hx hy w

theorem settledLaw_any (r : RE) : Wf r → r.cnt ≤ 1000000 → SetAt r := by
  refine RE.ind (P := fun r => Wf r → r.cnt ≤ 1000000 → SetAt r) ?_ r
  intro o s ks ih hw hc
  have hs := hw.shp
  rw [RE.cnt_mk] at hc
  simp only [RE.op, RE.set, RE.kids] at hs
  have hk : ∀ k ∈ ks, Wf k := hw.kid
  have hi : ∀ k ∈ ks, SetAt k := fun k hk' => ih k hk' (hk k hk') (by
    obtain ⟨u, v, e⟩ := List.append_of_mem hk'
    have e2 : cntL ks = cntL u + (k.cnt + cntL v) := by rw [e, cntL_append, cntL_cons]
    omega)
  have ho := hs.op
  obtain h | h | h | h | h | h | h | h : o = 0 ∨ o = 1 ∨ o = 2 ∨ o = 3 ∨ o = 4 ∨ o = 5 ∨ o = 6 ∨ o = 7 := by omega
  all_goals subst h
  · obtain rfl := hs.leaf (.inl rfl); exact set0 s
  · obtain rfl := hs.leaf (.inr rfl); exact set1 s
  · obtain ⟨rfl, h⟩ := hs.cls rfl; exact set2 s h
  · obtain ⟨h1, h2⟩ := hs.cat rfl; exact set3 s ks h1 h2 hk (by omega) hi
  · obtain ⟨h1, h2, h3, h4⟩ := hs.or (.inl rfl); exact set4 s ks h1 h2 h3 h4 hk (by omega) hi
  · obtain ⟨k, rfl, h1, h2, h3⟩ := hs.star rfl
    exact set5 s [k] rfl (fun x hx => by rw [List.mem_singleton] at hx; subst hx; exact ⟨h1, h2, h3⟩) hk (by omega) hi
  · obtain ⟨h1, h2, h3, h4⟩ := hs.or (.inr rfl); exact set6 s ks h1 h2 h3 h4 hk (by omega) hi
  · obtain ⟨x, y, rfl, h1, h2, h3, h4⟩ := hs.minus rfl
    refine set7 s [x, y] rfl (fun k hk => ?_) (fun x' y' e => ?_) ?_ hk (by omega) hi
    · simp at hk
      rcases hk with rfl | rfl
      · exact h1
      · exact h2
    · injection e with e1 e2; injection e2 with e2; subst e1 e2; exact h3
    · by_cases hx : x.op = 2
      · have hy : ¬ y.op = 2 := fun hy => h4 ⟨hx, hy⟩
        simp [hx, hy]
      · by_cases hy : y.op = 2 <;> simp [hx, hy]

/-- A slice of ints that came in. -/
def IntRow (w : World) (v : Value) (n : Nat) : Prop := n ≤ 9223372036854775807 ∧ ∃ a cap, v = .slice a n cap ∧ ∀ k, k < n → ∃ b off z, a = some ⟨b, off, none⟩ ∧ b < w.heap.size ∧ w.cell? ⟨b, off + k, none⟩ = some (.int .i64 z)
theorem IntRow.keep {w w' : World} {v : Value} {n : Nat} (h : IntRow w v n) (hb : Below w.heap.size w w') : IntRow w' v n := by
  obtain ⟨h0, a, cap, rfl, h1⟩ := h
  refine ⟨h0, a, cap, rfl, fun k hk => ?_⟩
  obtain ⟨b, off, z, e, hlt, hc⟩ := h1 k hk
  exact ⟨b, off, z, e, Nat.lt_of_lt_of_le hlt hb.size, (World.cell?_of_block (w := w) (hb.block b hlt)).trans hc⟩
section
open Go.ChangeShapes Go.WideShapes Go.ChangeAt Go.WideMaps Go.WideElems
theorem open_introw {H : Type} {enc : TypeId × Value → H} {w : World} {r : Reach} {b0 base : Nat} {sp : Nat → Bool} {held : Bool} {v : Value} {d : DataW H} {p : List MemPlace}
    (hv : Value.okWide Tryd.prog w r b0 25 v) (h : DataW.Trod enc Tryd.prog w base sp held 25 v d p) : ∃ n, IntRow w v n := by
  obtain ⟨a, len, cap, rfl⟩ := okWide_slice Tryd.underlying25 hv
  obtain ⟨fuel, hf⟩ := h
  rcases open_ints Tryd.underlying25 Tryd.underlying3 cellsI hf with ⟨hcs, _⟩ | ⟨x, l, c, zs, hcs, _, hl, hm, hz, _, hcell, hwz⟩
  · simp [Value.cells] at hcs
    obtain ⟨rfl, rfl, rfl⟩ := hcs
    exact ⟨0, by omega, none, 0, rfl, fun k hk => by omega⟩
  · simp [Value.cells] at hcs
    obtain ⟨rfl, rfl, rfl⟩ := hcs
    have hlen : len ≤ zs.length := by rw [hz]; split <;> omega
    unfold maxLen at hm
    refine ⟨len, by omega, some x, cap, rfl, fun k hk => ?_⟩
    obtain ⟨b, off, rfl, hc⟩ := ints_at hcell (show 0 < zs.length by omega)
    exact ⟨b, off, _, rfl, World.block_lt_of_cell? _ _ (hc k (by omega)), hc k (by omega)⟩
end
theorem i64_and3 (n : Int) : bits .and .i64 n 3 = n % 4 := by
  have h3 : (BitVec.ofInt 64 3).toNat = 2 ^ 2 - 1 := by decide
  have key : (BitVec.ofInt 64 n &&& BitVec.ofInt 64 3).toNat = (n % ((2 ^ 64 : Nat) : Int)).toNat % 2 ^ 2 := by
    rw [BitVec.toNat_and, BitVec.toNat_ofInt, h3, Nat.and_two_pow_sub_one_eq_mod]
  show IntKind.i64.wrap ((BitVec.ofInt 64 n &&& BitVec.ofInt 64 3).toNat : Nat) = n % 4
  rw [key, IntKind.wrap_i64]
  omega
theorem one_byte (W : World) (a : Int) : (convert 57 9 (.slice (some ⟨W.heap.size, 0, none⟩) 1 1)).run Tryd.prog (W.alloc (.cells #[.int .u8 a] 5)) = .ok (.string (strOfNums [a])) (W.alloc (.cells #[.int .u8 a] 5)) := by
  refine run_convert_bytes_arg _ 57 5 Tryd.underlying57 Tryd.underlying5 _ 0 1 1 [a] rfl ?_ 9 Tryd.underlying9
  intro i hi
  rw [(Blk.new W _ _).cell]
  match i, hi with
  | 0, _ => rfl

set_option maxHeartbeats 1000000 in
theorem some_any (n : Nat) (v : Value) (w : World) (hn : n ≤ 6) (h : IntRow w v n) : Calls Tryd.prog 9 #[v] w fun e w' => ∃ t : ByteArray, e = .returned (.string t) ∧ t.size = n ∧ Below w.heap.size w w' := by
  have HI := hide h
  obtain ⟨-, a, cap, rfl, -⟩ := h
  obtain ⟨B, hB⟩ : ∃ B, B = w.heap.size := ⟨_, rfl⟩
  have HB := hide hB
  rw [← hB]
  clear hB
  go_enter Tryd.func9, Tryd.ntmps9
  go_wp2
  go_loopw [3, 8] (fun q i wr => ∃ (k : Nat) (t : ByteArray), k ≤ n ∧ i = .int .i64 k ∧ q = .string t ∧ t.size = k ∧ Hid (Below B w wr)) (fun _ i _ => n - (intOf i).toNat)
  case atStart => exact ⟨0, ⟨#[]⟩, by omega, rfl, rfl, rfl, Below.refl _ _⟩
  case round =>
    obtain ⟨k, t, hk, rfl, rfl, ht, HW⟩ := hrel
    have hBW : B ≤ wr.heap.size := by rw [HB.out]; exact (HB.out ▸ HW.out).size
    by_cases hlt : k < n
    · have hkd : decide (k < n) = true := by simp [hlt]
      obtain ⟨-, a', cap', e1, g1⟩ := HI.out.keep (show Below w.heap.size w wr from HB.out ▸ HW.out)
      obtain ⟨rfl, rfl⟩ : a = a' ∧ cap = cap' := by cases e1; exact ⟨rfl, rfl⟩
      obtain ⟨b, off, z, rfl, -, hc⟩ := g1 k hlt
      clear g1 e1
      obtain ⟨m, hm, hz⟩ : ∃ m : Nat, m < 4 ∧ bits .and .i64 z 3 = (m : Int) := ⟨(z % 4).toNat, by omega, by rw [i64_and3]; omega⟩
      have e8 : IntKind.u8.wrap (m : Int) = (m : Int) := by simp [IntKind.wrap, IntKind.signed, IntKind.bits]; omega
      have e9 : IntKind.u8.wrap (97 + (m : Int)) = ((97 + m : Nat) : Int) := by simp [IntKind.wrap, IntKind.signed, IntKind.bits]; omega
      obtain ⟨d, hd⟩ : ∃ d : Nat, d = 97 + m := ⟨_, rfl⟩
      rw [← hd] at e9
      have hcv := one_byte wr (d : Int)
      have hst : (strOfNums [(d : Int)]).size = 1 := by rw [strOfNums_size]; rfl
      generalize strOfNums [(d : Int)] = tt at *
      have HT : Hid ((t ++ tt).size = k + 1) := by show _ = _; rw [ByteArray.size_append, hst, ht]
      have ht6 : t.size ≤ 6 := by omega
      have htt : tt.size ≤ 1 := by omega
      clear ht hst hd
      go_wp2
      refine ⟨⟨k + 1, t ++ tt, by omega, by go_num, rfl, HT.out, HW.out.alloc hBW _⟩, by simp [intOf]; omega⟩
    · obtain rfl : k = n := by omega
      have HT := hide ht
      clear ht
      go_wp2
      go_ret
      exact ⟨t, rfl, HT.out, HW.out⟩

set_option maxHeartbeats 2000000 in
theorem reTexts_any (cs : List Value) (s : SHP) (v : Value) (ln : Nat) (w : World) (hs : ShC w cs s) (hv : IntRow w v ln) (hT : TabAt w) :
    Calls Tryd.prog 3 #[ShVal cs, v] w fun e w' => e = .returned (.bool true) ∧ Below w.heap.size w w' := by
  have HC := hide hs
  have HV := hide hv
  have HT := hide hT
  have HLEN := hide hs.len
  obtain ⟨kv, hcs, hrow, -⟩ := hs.open
  obtain ⟨-, a, cap, rfl, -⟩ := hrow.at
  have HCS := hide hcs
  have hv0 : ShVal cs = .agg #[.int .i64 s.op, .int .u8 s.lo, .int .u8 s.hi, .string s.text, .slice a s.kids.length cap] := by rw [hcs]; rfl
  rw [hv0]
  obtain ⟨hln, la, lcap, rfl, -⟩ := hv
  obtain ⟨B, hB⟩ : ∃ B, B = w.heap.size := ⟨_, rfl⟩
  have HB := hide hB
  have HV0 := hide hv0
  clear hs hT hrow hcs hv0
  go_enter Tryd.func3, Tryd.ntmps3
  go_wp2_with fail
  have h1 : OneS w B s a cap (w.alloc (.cells (inC s a cap) 24)) := ⟨(Below.refl _ _).alloc (Nat.le_of_eq hB) _, Blk.newAt hB _ _⟩
  unfold inC at h1
  refine (head3_any _ (HT.out.agree (Agree.of_all (K := fun _ => True) (hB ▸ h1.below)) trivial)).mono ?_
  rintro e w1 ⟨rfl, hb1⟩
  have H1 := hide (h1.step hb1)
  rw [← hB]
  clear h1 hb1 hB
  have hx := H1.out.x
  have x0 := hx.cell 0; have x1 := hx.cell 1; have x2 := hx.cell 2; have x3 := hx.cell 3; have x4 := hx.cell 4
  simp only [inC, List.getElem?_toArray, List.getElem?_cons_zero, List.getElem?_cons_succ] at x0 x1 x2 x3 x4
  clear hx
  have hfew := few_any s _ w1 (HC.out.keep (HB.out ▸ H1.out.below))
  rw [HV0.out] at hfew
  have HFEW := hide hfew
  clear hfew
  go_wp2_with fail
  refine HFEW.out.mono ?_
  rintro e w2 ⟨few, rfl, hfw, hb2⟩
  have H2 := hide (H1.out.step hb2)
  have HFW := hide hfw
  clear hb2 hfw HFEW x0 x1 x2 x3 x4 H1
  cases few
  · go_wp2
    go_ret
    exact ⟨rfl, HB.out ▸ H2.out.below⟩
  obtain ⟨htx, hnd⟩ := HFW.out rfl
  clear HFW
  by_cases h6 : 6 < ln
  · have hd6 : decide ((6 : Int) < ln) = true := decide_eq_true (by omega)
    have hd6' : decide (6 < ln) = true := decide_eq_true h6
    go_wp2
    go_ret
    exact ⟨rfl, HB.out ▸ H2.out.below⟩
  have hd6 : decide ((6 : Int) < ln) = false := decide_eq_false (by omega)
  have hd6' : decide (6 < ln) = false := decide_eq_false h6
  have hx := H2.out.x
  have x0 := hx.cell 0; have x1 := hx.cell 1; have x2 := hx.cell 2; have x3 := hx.cell 3; have x4 := hx.cell 4
  simp only [inC, List.getElem?_toArray, List.getElem?_cons_zero, List.getElem?_cons_succ] at x0 x1 x2 x3 x4
  clear hx
  have hmk := make_any s _ w2 (HC.out.keep (HB.out ▸ H2.out.below)) htx hnd (HT.out.agree (Agree.of_all (K := fun _ => True) (HB.out ▸ H2.out.below)) trivial)
  rw [HV0.out] at hmk
  have HMK := hide hmk
  clear hmk
  go_wp2_with fail
  refine HMK.out.mono ?_
  rintro e w3 ⟨rb, rfl, hr3, hb3⟩
  have H3 := hide (H2.out.step hb3)
  have HR3 := hide hr3
  clear hb3 hr3 HMK x0 x1 x2 x3 x4 H2
  have hso := some_any ln _ w3 (by omega) (HV.out.keep (HB.out ▸ H3.out.below))
  have HSO := hide hso
  clear hso
  unfold PT
  go_wp2_with fail
  refine HSO.out.mono ?_
  rintro e w4 ⟨t, rfl, ht, hb4⟩
  have H4 := hide (H3.out.step hb4)
  have HR4 := hide (HR3.out.keep hb4)
  have hcnt : s.re.cnt ≤ 660 := by have := s.cnt htx; omega
  obtain ⟨q1, hq1⟩ : ∃ q1, q1 = hB s.lang t := ⟨_, rfl⟩
  obtain ⟨q2, hq2⟩ : ∃ q2, q2 = hB s.lang ⟨#[]⟩ := ⟨_, rfl⟩
  obtain ⟨n, hn⟩ : ∃ n, n = s.re.cnt := ⟨_, rfl⟩
  obtain ⟨C, hC⟩ : ∃ C : World → Prop, C = fun W => OneS w B s a cap W ∧ Below w4.heap.size w4 W := ⟨_, rfl⟩
  have HG : Hid (Grows C) := fun W W' h1 h2 => by rw [hC] at h1 ⊢; exact ⟨h1.1.step h2, h1.2.trans (h2.mono h1.2.size)⟩
  have HTW : Hid (∀ W, C W → TabAt W) := fun W hW => by rw [hC] at hW; exact HT.out.agree (Agree.of_all (K := fun _ => True) (HB.out ▸ hW.1.below)) trivial
  have HRW : Hid (∀ W, C W → ReAt W rb s.re) := fun W hW => by rw [hC] at hW; exact HR4.out.keep hW.2
  have HSW : Hid (∀ W, C W → ShC W cs s) := fun W hW => by rw [hC] at hW; exact HC.out.keep (HB.out ▸ hW.1.below)
  have HBW : Hid (∀ W, C W → Below w.heap.size w W) := fun W hW => by rw [hC] at hW; exact HB.out ▸ hW.1.below
  have HQS : Hid (∀ W, C W → ∀ j u, cs[j]? = some u → W.cell? ⟨B, 0 + j, none⟩ = some u) := fun W hW j u hu => by
    rw [hC] at hW
    rw [Nat.zero_add, hW.1.x.cell j]
    rw [HCS.out] at hu
    simpa [inC] using hu
  have HQ1 : Hid (∀ W, C W → Calls Tryd.prog 10 #[PT rb, .string t] W fun e w' => e = .returned (.bool q1) ∧ Below W.heap.size W w') := fun W hW => by
    rw [hq1, ← hB_eq (shape_lang s (bytesN t) (by_bytes t))]
    exact reHas_any s.re s.wf t (by omega) rb W (HRW.out W hW)
  have HQ2 : Hid (∀ W, C W → Calls Tryd.prog 11 #[ShVal cs, .string t] W fun e w' => e = .returned (.bool q1) ∧ Below W.heap.size W w') := fun W hW => by
    rw [hq1]; exact shIn_any s t (by omega) cs W (HSW.out W hW)
  have HQ3 : Hid (∀ W, C W → Calls Tryd.prog 12 #[PT rb] W fun e w' => e = .returned (.bool q2) ∧ Below W.heap.size W w') := fun W hW => by
    have e : s.re.null = q2 := by
      rw [hq2]
      have h1 := null_lang s.re s.wf
      have h2 := shape_lang s [] (by_bytes ⟨#[]⟩)
      cases hz : s.re.null with
      | true => exact (hB_true (h2.1 (h1.1 hz))).symm
      | false =>
        refine (hB_false fun h => ?_).symm
        rw [h1.2 (h2.2 h)] at hz; cases hz
    rw [← e]
    exact (null_any rb s.re W (HRW.out W hW)).mono fun e w' ⟨h1, h2⟩ => ⟨h1, h2 ▸ Below.refl _ _⟩
  have HQ4 : Hid (∀ W, C W → Calls Tryd.prog 11 #[ShVal cs, .string ⟨#[]⟩] W fun e w' => e = .returned (.bool q2) ∧ Below W.heap.size W w') := fun W hW => by
    rw [hq2]; exact shIn_any s ⟨#[]⟩ (Nat.zero_le _) cs W (HSW.out W hW)
  have HQ5 : Hid (∀ W, C W → Calls Tryd.prog 13 #[PT rb] W fun e w' => e = .returned (.bool true) ∧ Below W.heap.size W w') := fun W hW =>
    settledLaw_any s.re s.wf (by omega) rb W (HRW.out W hW) (HTW.out W hW)
  have HQ6 : Hid (∀ W, C W → Calls Tryd.prog 14 #[PT rb] W fun e w' => e = .returned (.int .i64 n) ∧ Below W.heap.size W w') := fun W hW => by
    rw [hn, ← size_cnt s.re (by omega)]
    exact (size_any rb s.re W (HRW.out W hW)).mono fun e w' ⟨h1, h2⟩ => ⟨h1, h2 ▸ Below.refl _ _⟩
  have HQ7 : Hid (∀ W, C W → Calls Tryd.prog 15 #[PT rb] W fun e w' => e = .returned (.int .i64 n) ∧ Below W.heap.size W w') := fun W hW => by
    rw [hn]; exact sizeLaw_any s.re (by omega) rb W (HRW.out W hW)
  have HC4 : Hid (C { w4 with drawn := w4.drawn + 1 }) := by
    rw [hC]
    exact ⟨H4.out.step ⟨rfl, rfl, rfl, Nat.le_refl _, fun _ _ => rfl⟩, ⟨rfl, rfl, rfl, Nat.le_refl _, fun _ _ => rfl⟩⟩
  clear hb4 HSO H3 HR3 HR4 ht hq1 hq2 hn hC H4 htx hnd hcnt HC HV HT
  go_wp2
  have hG := HG.out
  have hqS := HQS.out
  have hq1 := HQ1.out
  have hq2 := HQ2.out
  have hq3 := HQ3.out
  have hq4 := HQ4.out
  have hq5 := HQ5.out
  have hq6 := HQ6.out
  have hq7 := HQ7.out
  refine w_lit (C := C) (by kernel_rfl) (by kernel_rfl) HC4.out ?_
  refine w_value (PT rb) (by kernel_rfl) (fun w hw => x_move _ _ _ _ _ _ _ _ rfl w) ?_
  simp only [Act.put, List.setIfInBounds_toArray, List.set_cons_succ, List.set_cons_zero]
  refine w_value (.bool true) (by kernel_rfl) (fun w hw => x_neqNil _ _ _ _ _ _ _ rb rfl rfl w) ?_
  simp only [Act.put, List.setIfInBounds_toArray, List.set_cons_succ, List.set_cons_zero]
  refine w_value (.bool true) (by kernel_rfl) (fun w hw => x_move _ _ _ _ _ _ _ _ rfl w) ?_
  simp only [Act.put, List.setIfInBounds_toArray, List.set_cons_succ, List.set_cons_zero]
  refine w_value (PT rb) (by kernel_rfl) (fun w hw => x_move _ _ _ _ _ _ _ _ rfl w) ?_
  simp only [Act.put, List.setIfInBounds_toArray, List.set_cons_succ, List.set_cons_zero]
  refine w_value (.string t) (by kernel_rfl) (fun w hw => x_move _ _ _ _ _ _ _ _ rfl w) ?_
  simp only [Act.put, List.setIfInBounds_toArray, List.set_cons_succ, List.set_cons_zero]
  refine w_call hG 10 #[PT rb, .string t] (.bool q1) (by kernel_rfl) (fun w => x_call2 _ _ _ _ _ _ _ _ _ _ _ _ _ rfl rfl rfl (enters_of Tryd.func10 (by kernel_rfl) rfl) w) (fun w hw => hq1 w hw) ?_
  simp only [Act.put, List.setIfInBounds_toArray, List.set_cons_succ, List.set_cons_zero]
  refine w_value (ShVal cs) (by kernel_rfl) (fun w hw => x_loadSh _ _ _ _ _ _ _ B 0 cs rfl w HLEN.out (hqS w hw)) ?_
  simp only [Act.put, List.setIfInBounds_toArray, List.set_cons_succ, List.set_cons_zero]
  refine w_value (.string t) (by kernel_rfl) (fun w hw => x_move _ _ _ _ _ _ _ _ rfl w) ?_
  simp only [Act.put, List.setIfInBounds_toArray, List.set_cons_succ, List.set_cons_zero]
  refine w_call hG 11 #[ShVal cs, .string t] (.bool q1) (by kernel_rfl) (fun w => x_call2 _ _ _ _ _ _ _ _ _ _ _ _ _ rfl rfl rfl (enters_of Tryd.func11 (by kernel_rfl) rfl) w) (fun w hw => hq2 w hw) ?_
  simp only [Act.put, List.setIfInBounds_toArray, List.set_cons_succ, List.set_cons_zero]
  refine w_value (.bool true) (by kernel_rfl) (fun w hw => x_eqBoolB _ _ _ _ _ _ _ _ q1 q1 (by simp) rfl rfl w) ?_
  simp only [Act.put, List.setIfInBounds_toArray, List.set_cons_succ, List.set_cons_zero]
  refine w_value (.bool true) (by kernel_rfl) (fun w hw => x_pick _ _ _ _ _ _ _ _ _ true (.bool true) (.bool false) rfl rfl rfl w) ?_
  simp only [Act.put, List.setIfInBounds_toArray, List.set_cons_succ, List.set_cons_zero]
  refine w_value (.bool true) (by kernel_rfl) (fun w hw => x_move _ _ _ _ _ _ _ _ rfl w) ?_
  simp only [Act.put, List.setIfInBounds_toArray, List.set_cons_succ, List.set_cons_zero]
  refine w_value (PT rb) (by kernel_rfl) (fun w hw => x_move _ _ _ _ _ _ _ _ rfl w) ?_
  simp only [Act.put, List.setIfInBounds_toArray, List.set_cons_succ, List.set_cons_zero]
  refine w_call hG 12 #[PT rb] (.bool q2) (by kernel_rfl) (fun w => x_call1 _ _ _ _ _ _ _ _ _ _ rfl rfl (enters_of Tryd.func12 (by kernel_rfl) rfl) w) (fun w hw => hq3 w hw) ?_
  simp only [Act.put, List.setIfInBounds_toArray, List.set_cons_succ, List.set_cons_zero]
  refine w_value (ShVal cs) (by kernel_rfl) (fun w hw => x_loadSh _ _ _ _ _ _ _ B 0 cs rfl w HLEN.out (hqS w hw)) ?_
  simp only [Act.put, List.setIfInBounds_toArray, List.set_cons_succ, List.set_cons_zero]
  refine w_call hG 11 #[ShVal cs, .string ⟨#[]⟩] (.bool q2) (by kernel_rfl) (fun w => x_call2 _ _ _ _ _ _ _ _ _ _ _ _ _ rfl rfl rfl (enters_of Tryd.func11 (by kernel_rfl) rfl) w) (fun w hw => hq4 w hw) ?_
  simp only [Act.put, List.setIfInBounds_toArray, List.set_cons_succ, List.set_cons_zero]
  refine w_value (.bool true) (by kernel_rfl) (fun w hw => x_eqBoolB _ _ _ _ _ _ _ _ q2 q2 (by simp) rfl rfl w) ?_
  simp only [Act.put, List.setIfInBounds_toArray, List.set_cons_succ, List.set_cons_zero]
  refine w_value (.bool true) (by kernel_rfl) (fun w hw => x_pick _ _ _ _ _ _ _ _ _ true (.bool true) (.bool false) rfl rfl rfl w) ?_
  simp only [Act.put, List.setIfInBounds_toArray, List.set_cons_succ, List.set_cons_zero]
  refine w_value (.bool true) (by kernel_rfl) (fun w hw => x_move _ _ _ _ _ _ _ _ rfl w) ?_
  simp only [Act.put, List.setIfInBounds_toArray, List.set_cons_succ, List.set_cons_zero]
  refine w_value (PT rb) (by kernel_rfl) (fun w hw => x_move _ _ _ _ _ _ _ _ rfl w) ?_
  simp only [Act.put, List.setIfInBounds_toArray, List.set_cons_succ, List.set_cons_zero]
  refine w_call hG 13 #[PT rb] (.bool true) (by kernel_rfl) (fun w => x_call1 _ _ _ _ _ _ _ _ _ _ rfl rfl (enters_of Tryd.func13 (by kernel_rfl) rfl) w) (fun w hw => hq5 w hw) ?_
  simp only [Act.put, List.setIfInBounds_toArray, List.set_cons_succ, List.set_cons_zero]
  refine w_value (.bool true) (by kernel_rfl) (fun w hw => x_pick _ _ _ _ _ _ _ _ _ true (.bool true) (.bool false) rfl rfl rfl w) ?_
  simp only [Act.put, List.setIfInBounds_toArray, List.set_cons_succ, List.set_cons_zero]
  refine w_value (.bool true) (by kernel_rfl) (fun w hw => x_move _ _ _ _ _ _ _ _ rfl w) ?_
  simp only [Act.put, List.setIfInBounds_toArray, List.set_cons_succ, List.set_cons_zero]
  refine w_value (PT rb) (by kernel_rfl) (fun w hw => x_move _ _ _ _ _ _ _ _ rfl w) ?_
  simp only [Act.put, List.setIfInBounds_toArray, List.set_cons_succ, List.set_cons_zero]
  refine w_call hG 14 #[PT rb] (.int .i64 n) (by kernel_rfl) (fun w => x_call1 _ _ _ _ _ _ _ _ _ _ rfl rfl (enters_of Tryd.func14 (by kernel_rfl) rfl) w) (fun w hw => hq6 w hw) ?_
  simp only [Act.put, List.setIfInBounds_toArray, List.set_cons_succ, List.set_cons_zero]
  refine w_value (PT rb) (by kernel_rfl) (fun w hw => x_move _ _ _ _ _ _ _ _ rfl w) ?_
  simp only [Act.put, List.setIfInBounds_toArray, List.set_cons_succ, List.set_cons_zero]
  refine w_call hG 15 #[PT rb] (.int .i64 n) (by kernel_rfl) (fun w => x_call1 _ _ _ _ _ _ _ _ _ _ rfl rfl (enters_of Tryd.func15 (by kernel_rfl) rfl) w) (fun w hw => hq7 w hw) ?_
  simp only [Act.put, List.setIfInBounds_toArray, List.set_cons_succ, List.set_cons_zero]
  refine w_value (.bool true) (by kernel_rfl) (fun w hw => x_eqIntB _ _ _ _ _ _ _ _ n n true (by simp) rfl rfl w) ?_
  simp only [Act.put, List.setIfInBounds_toArray, List.set_cons_succ, List.set_cons_zero]
  refine w_value (.bool true) (by kernel_rfl) (fun w hw => x_pick _ _ _ _ _ _ _ _ _ true (.bool true) (.bool false) rfl rfl rfl w) ?_
  simp only [Act.put, List.setIfInBounds_toArray, List.set_cons_succ, List.set_cons_zero]
  refine w_value (.bool true) (by kernel_rfl) (fun w hw => x_assign _ _ _ _ _ _ _ _ rfl w) ?_
  simp only [Act.put, List.setIfInBounds_toArray, List.set_cons_succ, List.set_cons_zero]
  refine w_nil ?_
  intro W hW
  have HBX := hide (HBW.out W hW)
  clear hW hG hqS hq1 hq2 hq3 hq4 hq5 hq6 hq7
  go_wp2
  go_ret
  exact ⟨rfl, HBX.out⟩
theorem reTexts_all (v v1 : Value) (s : SHP) (n : Nat) (w : World) (hv : ∃ cs, v = ShVal cs ∧ ShC w cs s) (hv1 : IntRow w v1 n) (hT : TabAt w) :
    Calls Tryd.prog 3 #[v, v1] w fun e w' => e = .returned (.bool true) ∧ Below w.heap.size w w' := by
  obtain ⟨cs, rfl, hs⟩ := hv
  exact reTexts_any cs s v1 n w hs hv1 hT
end Go.Proofs.YtkjmjppmpcnejaaDoor
/- ReTexts: whatever shape of few parts and whatever text of few letters: what is made has just the texts that it should have by the page, is in its settled form, and its Null and Size are as the page says. Conditions: the table of math/bits holds what its initialiser lays (the card ties that to the program's text). -/
namespace Go.Proofs.YtkjmjppmpcnejaaDoor
set_option maxRecDepth 100000
open Go.ChangeShapes Go.WideShapes Go.ChangeAt Go.WideMaps Go.WideElems Go.RowKit

set_option maxRecDepth 100000 in
theorem reTexts_lifted (os : Os) (started : os.Started) (H : Type) (enc : TypeId × Value → H) :
    ReturnsInHanded {} Tryd.checked os 3 .any (fun w args => (Rows.reTextsSpec.pre enc Tryd.prog Tryd.f3 [] false w args ∧ laidMetH Tryd.prog [("math/bits.deBruijn64tab", Rows.laid_math_bits_deBruijn64tab)] w) ∧ sizedMet enc Tryd.prog Tryd.f3 (OpenSpec.ofChange Rows.reTextsSpec) false w args)
      (Rows.reTextsSpec.post enc Tryd.prog Tryd.f3 false true false false) := by
  refine returnsInHanded_of_change_and (C := Tryd.checked) (X := fun w _ => laidMetH Tryd.prog [("math/bits.deBruijn64tab", Rows.laid_math_bits_deBruijn64tab)] w) (fun _ _ _ hh h => h.of_heap hh) own started (by kernel_rfl) Tryd.func3
    (ChangeSpec.witness_shaped (enc := enc) (C := Tryd.checked) (os := os) (X := fun w _ => laidMetH Tryd.prog [("math/bits.deBruijn64tab", Rows.laid_math_bits_deBruijn64tab)] w) false (World.doorLaid Tryd.prog 400 os)
      #[.agg #[.int .i64 0, .int .u8 0, .int .u8 0, .string ⟨#[]⟩, .slice none 0 0], .slice none 0 0] 8 rfl (World.shaped_of_RefB (by kernel_rfl) (by kernel_rfl)) (by kernel_rfl) (by kernel_rfl) (by kernel_rfl) (door_met os _)) ?_
  intro W base args ds gs before hval0 hW _ _ hL _
  have hval : ∀ (j : Nat) t v, Tryd.f3.params[j]? = some t → args[j]? = some v → Value.okWide Tryd.prog W .any base t v := hval0
  have hW' := hW
  obtain ⟨p, q, hA0, hV, rfl, hfz, hnd⟩ := hW
  have hA : DataW.TrodAll enc Tryd.prog W 0 (fun _ => true) true Tryd.f3.params.toList args.toList ds p := hA0
  rw [Tryd.params3] at hA hval
  obtain ⟨v0, v1, d0, d1, p0, p1, rfl, rfl, rfl, h0, h1⟩ := trodAll_two hA
  obtain ⟨rfl, rfl⟩ := trodVars_none hV
  have k0 := h0
  have lt0 : ∀ x ∈ p0, x.block < W.heap.size := by obtain ⟨m, hm⟩ := k0; exact DataW.trod_lt m _ _ _ hm
  obtain ⟨z0, hz0⟩ := open_shape (hval 0 24 v0 rfl rfl) h0
  have k1 := h1
  have lt1 : ∀ x ∈ p1, x.block < W.heap.size := by obtain ⟨m, hm⟩ := k1; exact DataW.trod_lt m _ _ _ hm
  obtain ⟨z1, hz1⟩ := open_introw (hval 1 25 v1 rfl rfl) h1
  have hT := tab_of_laid hL
  clear hA0 hval0
  refine (reTexts_all v0 v1 z0 z1 W hz0 hz1 hT).mono fun e W' ⟨he, hb⟩ => ?_
  subst he
  exact ⟨_, rfl, _, _, _, [], _, [], hW', trodAll_mk1 (shut_bool Tryd.underlying4 _), trodAll_mk2 (Below.trod laidOut (by kernel_rfl) (of_decide_eq_true (by kernel_rfl)) k0 hb lt0) (Below.trod laidOut (by kernel_rfl) (of_decide_eq_true (by kernel_rfl)) k1 hb lt1), rfl, hb.frame _, fun h => by cases h⟩

theorem reTexts_said : Rows.ReTextsSaid :=
  OpenClaim.holds_of_wide 3 Tryd.f3 rfl rfl rfl rfl rfl rfl rfl ⟨rfl, rfl, rfl, rfl, rfl⟩ rfl rfl rfl rfl rfl (by kernel_rfl) Tryd.func3 (by kernel_rfl)
    (of_decide_eq_true (by kernel_rfl)) (by unfold Func.isWrapper; first | (rw [if_pos (by decide +kernel)]; kernel_rfl) | (rw [if_neg (by decide +kernel)]; exact ⟨rfl, rfl⟩))
    (fun os started H enc _ => reTexts_lifted os started H enc)

theorem reTexts_card : Rows.ReTextsCardSaid :=
  Claim7.holds_tied_plain_at .later [] [.data] true Rows.reTextsCard.stood.harness false
    reTexts_said (fun _ h => by cases h) (by kernel_rfl) (fun _ h => by cases h) reTexts_row_tie rfl ⟨rfl, rfl⟩ (by kernel_rfl) rfl
    (fun f fn hf hfn => by
      obtain rfl : f = 3 := Option.some.inj ((show Tryd.prog.funcNamed "periscope/periscopelaw03.ReTexts" = some 3 by kernel_rfl).symm.trans hf) |>.symm
      obtain rfl : fn = Tryd.f3 := (Option.some.inj (Tryd.func3.symm.trans hfn)).symm
      exact ⟨by kernel_rfl, fun j t ht => by
        rw [Tryd.params3] at ht
        have hm : t ∈ [24, 25] := by simpa using Array.mem_of_getElem? ht
        have hall : ([24, 25].all fun u => !Tryd.prog.wantsStandIn u) = true := by kernel_rfl
        exact (show Tryd.prog.wantsStandIn t = false by simpa using List.all_eq_true.1 hall t hm)⟩)
    (by kernel_rfl)
#print axioms reTexts_card
end Go.Proofs.YtkjmjppmpcnejaaDoor
