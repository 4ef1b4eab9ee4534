/- Texts of this claim put together: TwE, TwF. -/
import Derived.Test.YthhfpjehamhcbaaGreatDoorJoinTwD
import Derived.Test.YthhfpjehamhcbaaGreatDoorJoinMathWf
/- appendKids, appendRe; Of and Byte: an expression, a byte as text. -/
namespace Go.Proofs.YthhfpjehamhcbaaGreatDoor
set_option maxRecDepth 100000
set_option linter.unusedSimpArgs false
set_option linter.unusedVariables false
open Go.RowKit Go.Shelf

def sepB (o : Nat) : List Nat := if o = 4 then [124] else if o = 6 then [38] else if o = 7 then [45] else []
def kidT (o i k : Nat) (t : List Nat) : List Nat := (if 0 < i then sepB o else []) ++ (if holdN k < needN o i then [40] ++ t ++ [41] else t)
def kidsT (o : Nat) : Nat → List (Nat × List Nat) → List Nat
  | _, [] => []
  | i, x :: r => kidT o i x.1 x.2 ++ kidsT o (i + 1) r
def opT (o : Nat) (s : BitVec 256) (ks : List (Nat × List Nat)) : List Nat :=
  if o = 1 then [40, 41] else if o = 2 then classW s else if o = 3 ∨ o = 4 ∨ o = 6 ∨ o = 7 then kidsT o 0 ks else if o = 5 then kidsT o 0 ks ++ [42] else [91, 93]
/-- An expression as it is written. -/
def RE.txt : RE → List Nat
  | .mk o s ks => opT o s (ks.map fun k => (k.op, k.txt))
def kidL (ks : List RE) : List (Nat × List Nat) := ks.map fun k => (k.op, k.txt)
theorem RE.txt_mk (o : Nat) (s : BitVec 256) (ks : List RE) : (RE.mk o s ks).txt = opT o s (kidL ks) := by rw [RE.txt]; rfl
theorem kidsT_append (o : Nat) (a b : List (Nat × List Nat)) (i : Nat) : kidsT o i (a ++ b) = kidsT o i a ++ kidsT o (i + a.length) b := by
  induction a generalizing i with
  | nil => simp [kidsT]
  | cons x a ih =>
    rw [List.cons_append]
    simp only [kidsT]
    rw [ih, List.append_assoc, List.length_cons, show i + 1 + a.length = i + (a.length + 1) from by omega]
theorem kidsT_take (o : Nat) (ks : List RE) (k : Nat) (h : k < ks.length) : kidsT o 0 (kidL (ks.take (k + 1))) = kidsT o 0 (kidL (ks.take k)) ++ kidT o k (ks[k]).op (ks[k]).txt := by
  unfold kidL
  rw [List.take_succ_eq_append_getElem h, List.map_append, kidsT_append]
  congr 1
  simp [kidsT, List.length_take, Nat.min_eq_left (Nat.le_of_lt h)]
theorem kidsT_le (o : Nat) (ks : List RE) (k : Nat) : (kidsT o 0 (kidL (ks.take k))).length ≤ (kidsT o 0 (kidL ks)).length := by
  have : kidL ks = kidL (ks.take k) ++ kidL (ks.drop k) := by unfold kidL; rw [← List.map_append, List.take_append_drop]
  rw [this, kidsT_append, List.length_append]; omega

theorem run_appendE (w : World) (ty : TypeId) (base : Nat) (v : Value) (n : Nat) (xs : List Value) (hown : OwnU w base v n xs) : (Builtin.append_ #[57, 9] ty #[v, .string ⟨#[]⟩]).run Tryz.prog w = .ok v w := by
  obtain ⟨i, hi, hz0, hz1, hz2⟩ := info_parts infoU8
  have hf := Lib.run_firstCells_string (P := Tryz.prog) w i.size ⟨#[]⟩
  have e : (⟨#[]⟩ : ByteArray).size = 0 := rfl
  rw [e] at hf
  rcases hown.2 with ⟨rfl, rfl⟩ | ⟨g, cap, cur, t, rfl, hbg, hg, hnc, hcm, hcs, htake⟩
  · simp [Builtin.append_, run_underlying Tryz.underlying57, run_underlying Tryz.underlying9, sizeOf, typeInfo, hi, Builtin.lenOf, e, hf]
  · simp [Builtin.append_, run_underlying Tryz.underlying57, run_underlying Tryz.underlying9, sizeOf, typeInfo, hi, Builtin.lenOf, e, hf, hnc, Lib.strCells, storeCells]
theorem AW.appT {w W : World} {base n : Nat} {v V : Value} {xs : List Value} {l : List Nat} (h : AW w base v n xs l V W) (ty : TypeId) (s : ByteArray) (m : List Nat) (hm : bytesN s = m) (hl : n + l.length + m.length ≤ 140737488355328) :
    ∃ V' W', (Builtin.append_ #[57, 9] ty #[V, .string s]).run Tryz.prog W = .ok V' W' ∧ AW w base v n xs (l ++ m) V' W' := by
  by_cases h0 : m = []
  · subst h0
    have hs : s = ⟨#[]⟩ := by
      cases s with
      | mk d =>
        have : d.toList = [] := by unfold bytesN at hm; simpa using hm
        have : d = #[] := by simpa using this
        rw [this]
    rw [hs, List.append_nil]
    exact ⟨V, W, run_appendE W ty base V _ _ h.own, h⟩
  · exact h.appS ty s m hm (by cases m with | nil => exact absurd rfl h0 | cons => simp) hl
theorem x_lssB2 (ρ : Operand → Value) (d : Option Tmp) (x y : Operand) (t : TypeId) (pos : String) (af : Array Edge) (g : Option (Nat × Bool)) (u v : Nat) (c : Bool) (h : decide (u < v) = c) (hx : ρ x = .int .i64 u) (hy : ρ y = .int .i64 v) (w : World) :
    (execOp ρ { dst := d, op := .binOp .lss 3 x y 3, type := t, pos := pos, after := af, guard := g }).run Tryz.prog w = .ok (.value (.bool c)) w := by
  rw [← h]; simp [go_sem, hx, hy]
/-- What was written since (w, v), in whatever order the calls drew. -/
structure AV (w : World) (base : Nat) (v : Value) (n : Nat) (xs : List Value) (l : List Nat) (V : Value) (W : World) : Prop where
  own : OwnU W base V (n + l.length) (xs ++ byteV l)
  grown : w.grownBy W v.ownBlock
  rel : V.ownBlock = v.ownBlock ∨ ∃ g, V.ownBlock = some g ∧ w.heap.size ≤ g
  base : base ≤ W.heap.size
theorem AW.toAV {w W : World} {base n : Nat} {v V : Value} {xs : List Value} {l : List Nat} (h : AW w base v n xs l V W) : AV w base v n xs l V W := ⟨h.own, h.gb.grown, h.gb.own, h.base⟩
theorem AV.start {w : World} {base n : Nat} {v : Value} {xs : List Value} (h : OwnU w base v n xs) (hb : base ≤ w.heap.size) : AV w base v n xs [] v w := (AW.start h hb).toAV
theorem AV.slice {w W : World} {base n : Nat} {v V : Value} {xs : List Value} {l : List Nat} (h : AV w base v n xs l V W) : ∃ a c, V = .slice a (n + l.length) c := h.own.slice
theorem AV.more {w W W' : World} {base n : Nat} {v V V' : Value} {xs : List Value} {l m : List Nat} (h : AV w base v n xs l V W) (k : AV W base V (n + l.length) (xs ++ byteV l) m V' W') : AV w base v n xs (l ++ m) V' W' := by
  refine ⟨?_, ⟨k.grown.os.trans h.grown.os, k.grown.tape.trans h.grown.tape, k.grown.output.trans h.grown.output, Nat.le_trans h.grown.size k.grown.size, fun i hi hn => ?_⟩, ?_, k.base⟩
  · have := k.own
    rw [byteV_append, List.length_append, ← List.append_assoc, ← Nat.add_assoc]
    exact this
  · have hs := h.grown.size
    rw [k.grown.block i (by omega) ?_, h.grown.block i hi hn]
    intro e
    rcases h.rel with h1 | ⟨g, h1, h2⟩
    · exact hn (e.trans h1)
    · rw [h1] at e; injection e; omega
  · have hs := h.grown.size
    rcases k.rel with h1 | ⟨g, h1, h2⟩
    · rcases h.rel with h3 | ⟨g, h3, h4⟩
      · exact .inl (h1.trans h3)
      · exact .inr ⟨g, h1.trans h3, h4⟩
    · exact .inr ⟨g, h1, by omega⟩
theorem AV.step {w W W' : World} {base n : Nat} {v V : Value} {xs : List Value} {l : List Nat} (h : AV w base v n xs l V W) (hb : Below W.heap.size W W') : AV w base v n xs l V W' := by
  have := h.more (m := []) ⟨by rw [List.length_nil, Nat.add_zero, show byteV [] = [] from rfl, List.append_nil]; exact h.own.keep fun g hg => hb.block g (h.own.own_lt hg).2, ⟨hb.os, hb.tape, hb.output, hb.size, fun k hk _ => hb.block k hk⟩, .inl rfl, Nat.le_trans h.base hb.size⟩
  rw [List.append_nil] at this; exact this
theorem AV.here {w W : World} {base n : Nat} {v V : Value} {xs : List Value} {l : List Nat} (h : AV w base v n xs l V W) : AW W base V (n + l.length) (xs ++ byteV l) [] V W := AW.start h.own h.base
/-- One byte that lies behind the world. -/
theorem AV.app1 {w W : World} {base n : Nat} {v V : Value} {xs : List Value} {l : List Nat} (h : AV w base v n xs l V W) (c : Nat) (hl : n + l.length + 1 ≤ 140737488355328) :
    ∃ V' W', (Builtin.append_ #[57, 57] 57 #[V, .slice (some ⟨W.heap.size, 0, none⟩) 1 1]).run Tryz.prog (W.alloc (.cells #[.int .u8 c] 5)) = .ok V' W' ∧ AV w base v n xs (l ++ [c]) V' W' := by
  have hb := (Below.refl W.heap.size W).alloc (Nat.le_refl _) (.cells #[.int .u8 c] 5)
  have h2 := h.step hb
  obtain ⟨V', W', hr, hA⟩ := h2.here.app 57 W.heap.size #[] [c] (Blk.newAt rfl _ _) (by simp) (by simp; omega)
  exact ⟨V', W', hr, h2.more hA.toAV⟩
theorem AV.appT {w W : World} {base n : Nat} {v V : Value} {xs : List Value} {l : List Nat} (h : AV w base v n xs l V W) (s : ByteArray) (m : List Nat) (hm : bytesN s = m) (hl : n + l.length + m.length ≤ 140737488355328) :
    ∃ V' W', (Builtin.append_ #[57, 9] 57 #[V, .string s]).run Tryz.prog W = .ok V' W' ∧ AV w base v n xs (l ++ m) V' W' := by
  obtain ⟨V', W', hr, hA⟩ := h.here.appT 57 s m hm (by simp; omega)
  exact ⟨V', W', hr, h.more hA.toAV⟩
theorem AV.below {w0 w W : World} {n : Nat} {v V : Value} {xs : List Value} {l : List Nat} (h : AV w w0.heap.size v n xs l V W) (hb : Below w0.heap.size w0 w) (ho : OwnU w w0.heap.size v n xs) : Below w0.heap.size w0 W := OwnU.below_grown hb h.grown ho (Nat.le_refl _)

/-- Ops are eight. -/
inductive RE.kidsOk : RE → Prop where
  | mk (o : Nat) (s : BitVec 256) (ks : List RE) (ho : o ≤ 7) (hk : ∀ k ∈ ks, k.kidsOk) : RE.kidsOk (.mk o s ks)
theorem RE.kidsOk.op {o : Nat} {s : BitVec 256} {ks : List RE} (h : (RE.mk o s ks).kidsOk) : o ≤ 7 := by cases h; assumption
theorem RE.kidsOk.kid {o : Nat} {s : BitVec 256} {ks : List RE} (h : (RE.mk o s ks).kidsOk) : ∀ k ∈ ks, k.kidsOk := by cases h; assumption
theorem Wf.kidsOk {r : RE} (h : Wf r) : r.kidsOk := by
  induction h with
  | mk o s ks hk h ih => exact .mk o s ks h.op ih
/-- What is read of an expression in any later world. -/
theorem see0 {w : World} {b o : Nat} {s : BitVec 256} {ks : List RE} (h : ReAt w b (.mk o s ks)) : ∃ a c, ResRow w (.slice a ks.length c) ks ∧ Hid (∀ W, Below w.heap.size w W → W.cell? ⟨b, 0, none⟩ = some (.int .i64 o) ∧ W.cell? ⟨b, 5, none⟩ = some (.slice a ks.length c)) := by
  obtain ⟨v, k1, row⟩ := h.row
  simp only [RE.op, RE.set, RE.kids] at k1 row
  obtain ⟨n1, a, c, rfl, -⟩ := row.at
  exact ⟨a, c, row, fun W hW => ⟨(h.keep hW).cell0, by rw [(k1.below hW k1.lt).cell]; rfl⟩⟩
theorem row_at {w W : World} {g f c k p : Nat} {ks : List RE} (h : ResRow w (.slice (some ⟨g, f, none⟩) ks.length c) ks) (hb : Below w.heap.size w W) (hk : k < ks.length) (hc : W.cell? ⟨g, f + k, none⟩ = some (PT p)) : ReAt w p ks[k] := by
  obtain ⟨-, a', c', e, q⟩ := h.at
  obtain ⟨g', f', p', e2, hlt, hc', hr⟩ := q k hk
  cases e
  cases e2
  have := (World.cell?_of_block (a := ⟨g, f + k, none⟩) (hb.block g hlt)).trans hc'
  rw [hc] at this
  have : p = p' := by simpa [PT] using this
  subst this
  exact hr

/-- What writing an expression does. -/
abbrev WrAt (r : RE) : Prop := ∀ (b : Nat) (v : Value) (n : Nat) (xs : List Value) (w0 w : World), ReAt w0 b r → Below w0.heap.size w0 w → OwnU w w0.heap.size v n xs → n + r.txt.length ≤ 800000000000 → TabAt w0 →
  Calls Tryz.prog 44 #[v, PT b] w fun e w' => ∃ V, e = .returned V ∧ AV w w0.heap.size v n xs r.txt V w'

set_option maxHeartbeats 4000000 in
theorem appendKids_any (o : Nat) (s : BitVec 256) (ks : List RE) (t : ByteArray) (ht : bytesN t = sepB o) (ih : ∀ k ∈ ks, WrAt k) (b : Nat) (v : Value) (n : Nat) (xs : List Value) (w0 w : World) (hR : ReAt w0 b (.mk o s ks)) (hW : Below w0.heap.size w0 w) (hO : OwnU w w0.heap.size v n xs)
    (hl : n + (kidsT o 0 (kidL ks)).length ≤ 800000000000) (hT : TabAt w0) :
    Calls Tryz.prog 74 #[v, PT b, .string t] w fun e w' => ∃ V, e = .returned V ∧ AV w w0.heap.size v n xs (kidsT o 0 (kidL ks)) V w' := by
  obtain ⟨a0, cp0, rfl⟩ := hO.slice
  obtain ⟨a, c, row, HX⟩ := see0 hR
  have x5 := (HX.out w hW).2
  have HROW := hide row
  have HIH := hide ih
  have HT := hide hT
  have HW := hide hW
  have HO := hide hO
  have HTT := hide ht
  obtain ⟨hn, -⟩ := row.at
  clear row hR ih hT hW hO ht
  unfold PT
  go_enter Tryz.func74, Tryz.ntmps74
  go_wp2
  go_loopw [0, 14] (fun q i wr => ∃ k : Nat, k ≤ ks.length ∧ i = .int .i64 k ∧ Hid (AV w w0.heap.size (.slice a0 n cp0) n xs (kidsT o 0 (kidL (ks.take k))) q wr)) (fun _ i _ => ks.length - (intOf i).toNat)
  case atStart => exact ⟨0, by omega, rfl, AV.start HO.out HW.out.size⟩
  case round =>
    clear x5
    obtain ⟨k, hk1, rfl, HA⟩ := hrel
    have hBr : Below w0.heap.size w0 wr := HA.out.below HW.out HO.out
    have HBR := hide hBr
    obtain ⟨aq, cq, hq⟩ := HA.out.slice
    obtain ⟨M, hM⟩ : ∃ M, M = n + (kidsT o 0 (kidL (ks.take k))).length := ⟨_, rfl⟩
    rw [← hM] at hq
    subst hq
    obtain ⟨-, a', cap', e1, g1⟩ := (HROW.out.below hBr).at
    obtain ⟨rfl, rfl⟩ : a = a' ∧ c = cap' := by cases e1; exact ⟨rfl, rfl⟩
    clear e1 hBr
    by_cases hlt : k < ks.length
    · have hkd : decide (k < ks.length) = true := by simp [hlt]
      obtain ⟨g, f, p, rfl, -, hc0, -⟩ := g1 k hlt
      have hr0 := row_at HROW.out HBR.out hlt hc0
      have HTK := hide (kidsT_take o ks k hlt)
      have HLE := hide (kidsT_le o ks (k + 1))
      have HIK := hide (HIH.out _ (List.getElem_mem hlt))
      generalize ks[k] = kk at *
      have HR0 := hide hr0
      obtain ⟨ko, hko⟩ : ∃ ko, ko = kk.op := ⟨_, rfl⟩
      obtain ⟨hk, hhk⟩ : ∃ hk, hk = holdN ko := ⟨_, rfl⟩
      obtain ⟨nd, hnd⟩ : ∃ nd, nd = needN o k := ⟨_, rfl⟩
      obtain ⟨T, hT⟩ : ∃ T, T = kidsT o 0 (kidL (ks.take k)) := ⟨_, rfl⟩
      rw [← hT] at HA HTK hM
      obtain ⟨sp, hsp⟩ : ∃ sp, sp = if 0 < k then sepB o else [] := ⟨_, rfl⟩
      obtain ⟨U, hU⟩ : ∃ U, U = if hk < nd then [40] ++ kk.txt ++ [41] else kk.txt := ⟨_, rfl⟩
      have HTK : Hid (kidsT o 0 (kidL (ks.take (k + 1))) = T ++ (sp ++ U)) := by
        show _ = _
        rw [HTK.out, hsp, hU, hhk, hnd, hko]; rfl
      have hTL : n + T.length + (sp.length + U.length) ≤ 800000000000 := by
        have h1 := HLE.out
        rw [HTK.out, List.length_append, List.length_append] at h1
        omega
      have HKO := hide hko
      have HHK := hide hhk
      have HND := hide hnd
      have HSP := hide hsp
      have HU := hide hU
      have HM := hide hM
      unfold PT at hc0
      clear g1 hr0 hT hko hhk hnd HLE hsp hU hM
      have hko5 : hk ≤ 5 := by rw [HHK.out]; exact holdN_le ko
      have hnd6 : nd ≤ 6 := by rw [HND.out]; unfold needN; have := holdN_le o; split <;> omega
      by_cases hk0 : 0 < k
      · have hd0 : decide ((0 : Int) < k) = true := by simp; omega
        have hd1 : decide (0 < k) = true := by simp [hk0]
        obtain ⟨V1, W1, hr1, hA1⟩ := HA.out.appT t sp (by rw [HTT.out, HSP.out, if_pos hk0]) (by omega)
        obtain ⟨a1, c1, hv1⟩ := hA1.slice
        obtain ⟨M1, hM1⟩ : ∃ M1, M1 = n + (T ++ sp).length := ⟨_, rfl⟩
        rw [← hM1] at hv1
        subst hv1
        have HA1 := hide hA1
        have HM1 := hide hM1
        clear hA1 hk0 hM1
        go_wp2_with (refine wpList_appendS_run rfl _ _ _ _ rfl _ _ _ rfl rfl hr1 ?_)
        clear hr1
        have hB1 : Below w0.heap.size w0 W1 := HA1.out.below HW.out HO.out
        have HB1 := hide hB1
        clear hB1
        obtain ⟨C, hC⟩ : ∃ C : World → Prop, C = fun W => Below W1.heap.size W1 W := ⟨_, rfl⟩
        have HG : Hid (Grows C) := by rw [hC]; exact fun W W' h1 h2 => h1.trans (h2.mono h1.size)
        have HCD : Hid (C { W1 with drawn := W1.drawn + 1 }) := by rw [hC]; exact ⟨rfl, rfl, rfl, Nat.le_refl _, fun _ _ => rfl⟩
        have HCB : Hid (∀ W, C W → Below W1.heap.size W1 W) := by rw [hC]; exact fun W h => h
        have HC0 : Hid (∀ W, C W → Below w0.heap.size w0 W) := fun W hW => HB1.out.trans ((HCB.out W hW).mono HB1.out.size)
        clear hC
        have hG := HG.out
        have hco : ∀ W, C W → W.cell? ⟨b, 0, none⟩ = some (.int .i64 o) := fun W hW => (HX.out W (HC0.out W hW)).1
        have hqo : ∀ W, C W → Calls Tryz.prog 72 #[PT p] W fun e w' => e = .returned (.int .i64 ko) ∧ Below W.heap.size W w' := fun W hW => by
          rw [HKO.out]; exact (opOf_any p kk W (HR0.out.keep (HC0.out W hW))).mono fun e w' ⟨h1, h2⟩ => ⟨h1, h2 ▸ Below.refl _ _⟩
        have hqh : ∀ W, C W → Calls Tryz.prog 100 #[.int .i64 ko] W fun e w' => e = .returned (.int .i64 hk) ∧ Below W.heap.size W w' := fun W hW => by
          rw [HHK.out]; exact (hold_any ko W).mono fun e w' ⟨h1, h2⟩ => ⟨h1, h2 ▸ Below.refl _ _⟩
        have hqn : ∀ W, C W → Calls Tryz.prog 101 #[.int .i64 o, .int .i64 k] W fun e w' => e = .returned (.int .i64 nd) ∧ Below W.heap.size W w' := fun W hW => by
          rw [HND.out]; exact (need_any o k W).mono fun e w' ⟨h1, h2⟩ => ⟨h1, h2 ▸ Below.refl _ _⟩
        by_cases hhn : hk < nd
        · have hlt : decide (hk < nd) = true := by simp [hhn]
          refine w_lit (C := C) (by kernel_rfl) (by kernel_rfl) HCD.out ?_
          refine w_value (PT p) (by kernel_rfl) (fun w hw => x_move _ _ _ _ _ _ _ _ rfl w) ?_
          simp only [Act.put, List.setIfInBounds_toArray, List.set_cons_succ, List.set_cons_zero]
          refine w_call hG 72 #[PT p] (.int .i64 ko) (by kernel_rfl) (fun w => x_call1 _ _ _ _ _ _ _ _ _ _ rfl rfl (enters_of Tryz.func72 (by kernel_rfl) rfl) w) (fun w hw => hqo w hw) ?_
          simp only [Act.put, List.setIfInBounds_toArray, List.set_cons_succ, List.set_cons_zero]
          refine w_call hG 100 #[.int .i64 ko] (.int .i64 hk) (by kernel_rfl) (fun w => x_call1 _ _ _ _ _ _ _ _ _ _ rfl rfl (enters_of Tryz.func100 (by kernel_rfl) rfl) w) (fun w hw => hqh w hw) ?_
          simp only [Act.put, List.setIfInBounds_toArray, List.set_cons_succ, List.set_cons_zero]
          refine w_value (PT b) (by kernel_rfl) (fun w hw => x_move _ _ _ _ _ _ _ _ rfl w) ?_
          simp only [Act.put, List.setIfInBounds_toArray, List.set_cons_succ, List.set_cons_zero]
          refine w_value (PT b) (by kernel_rfl) (fun w hw => x_nilCheck _ _ _ _ _ _ _ _ rfl w) ?_
          simp only [Act.put, List.setIfInBounds_toArray, List.set_cons_succ, List.set_cons_zero]
          refine w_value (PT b) (by kernel_rfl) (fun w hw => x_field0 _ _ _ _ _ _ _ _ rfl w) ?_
          simp only [Act.put, List.setIfInBounds_toArray, List.set_cons_succ, List.set_cons_zero]
          refine w_value (.int .i64 o) (by kernel_rfl) (fun w hw => x_loadOp _ _ _ _ _ _ _ _ o rfl w (hco w hw)) ?_
          simp only [Act.put, List.setIfInBounds_toArray, List.set_cons_succ, List.set_cons_zero]
          refine w_value (.int .i64 k) (by kernel_rfl) (fun w hw => x_move _ _ _ _ _ _ _ _ rfl w) ?_
          simp only [Act.put, List.setIfInBounds_toArray, List.set_cons_succ, List.set_cons_zero]
          refine w_call hG 101 #[.int .i64 o, .int .i64 k] (.int .i64 nd) (by kernel_rfl) (fun w => x_call2 _ _ _ _ _ _ _ _ _ _ _ _ _ rfl rfl rfl (enters_of Tryz.func101 (by kernel_rfl) rfl) w) (fun w hw => hqn w hw) ?_
          simp only [Act.put, List.setIfInBounds_toArray, List.set_cons_succ, List.set_cons_zero]
          refine w_value (.bool true) (by kernel_rfl) (fun w hw => x_lssB2 _ _ _ _ _ _ _ _ hk nd true hlt rfl rfl w) ?_
          simp only [Act.put, List.setIfInBounds_toArray, List.set_cons_succ, List.set_cons_zero]
          refine w_nil ?_
          intro W hW
          have HA2 := hide (HA1.out.step (HCB.out W hW))
          have HU2 : Hid (U = [40] ++ kk.txt ++ [41]) := by show _ = _; rw [HU.out, if_pos hhn]
          have hul : U.length = kk.txt.length + 2 := by rw [HU2.out]; simp
          clear hW hG hco hqo hqh hqn hhn
          obtain ⟨V3, W3, hr3, hA3⟩ := HA2.out.app1 40 (by simp; omega)
          obtain ⟨a3, c3, hv3⟩ := hA3.slice
          obtain ⟨M3, hM3⟩ : ∃ M3, M3 = n + (T ++ sp ++ [40]).length := ⟨_, rfl⟩
          rw [← hM3] at hv3
          subst hv3
          have hrec := HIK.out p (.slice a3 M3 c3) _ _ w0 W3 HR0.out (hA3.below HW.out HO.out) hA3.own (by simp; omega) HT.out
          have HREC := hide hrec
          have HA3 := hide hA3
          clear hrec hA3 hM3
          unfold PT at HREC ⊢
          go_wp2_with (refine wpList_append_run rfl _ _ _ rfl _ _ _ rfl rfl hr3 ?_)
          refine HREC.out.mono ?_
          rintro e w4 ⟨V4, rfl, hA4⟩
          have hA5 := HA3.out.more hA4
          obtain ⟨V6, W6, hr6, hA6⟩ := hA5.app1 41 (by simp; omega)
          obtain ⟨a4, c4, hv4⟩ := hA5.slice
          obtain ⟨M4, hM4⟩ : ∃ M4, M4 = n + (T ++ sp ++ [40] ++ kk.txt).length := ⟨_, rfl⟩
          rw [← hM4] at hv4
          subst hv4
          have HA6 := hide hA6
          clear hA4 hA5 hA6 HREC hr3 hM4
          go_wp2_with (refine wpList_append_run rfl _ _ _ rfl _ _ _ rfl rfl hr6 ?_)
          refine ⟨⟨k + 1, by omega, by go_num, ?_⟩, by simp [intOf]; omega⟩
          show AV _ _ _ _ _ _ _ _
          rw [HTK.out, HU2.out]
          have h6 := HA6.out
          simp only [List.append_assoc] at h6 ⊢
          exact h6
        · have hlt : decide (hk < nd) = false := by simp; omega
          refine w_lit (C := C) (by kernel_rfl) (by kernel_rfl) HCD.out ?_
          refine w_value (PT p) (by kernel_rfl) (fun w hw => x_move _ _ _ _ _ _ _ _ rfl w) ?_
          simp only [Act.put, List.setIfInBounds_toArray, List.set_cons_succ, List.set_cons_zero]
          refine w_call hG 72 #[PT p] (.int .i64 ko) (by kernel_rfl) (fun w => x_call1 _ _ _ _ _ _ _ _ _ _ rfl rfl (enters_of Tryz.func72 (by kernel_rfl) rfl) w) (fun w hw => hqo w hw) ?_
          simp only [Act.put, List.setIfInBounds_toArray, List.set_cons_succ, List.set_cons_zero]
          refine w_call hG 100 #[.int .i64 ko] (.int .i64 hk) (by kernel_rfl) (fun w => x_call1 _ _ _ _ _ _ _ _ _ _ rfl rfl (enters_of Tryz.func100 (by kernel_rfl) rfl) w) (fun w hw => hqh w hw) ?_
          simp only [Act.put, List.setIfInBounds_toArray, List.set_cons_succ, List.set_cons_zero]
          refine w_value (PT b) (by kernel_rfl) (fun w hw => x_move _ _ _ _ _ _ _ _ rfl w) ?_
          simp only [Act.put, List.setIfInBounds_toArray, List.set_cons_succ, List.set_cons_zero]
          refine w_value (PT b) (by kernel_rfl) (fun w hw => x_nilCheck _ _ _ _ _ _ _ _ rfl w) ?_
          simp only [Act.put, List.setIfInBounds_toArray, List.set_cons_succ, List.set_cons_zero]
          refine w_value (PT b) (by kernel_rfl) (fun w hw => x_field0 _ _ _ _ _ _ _ _ rfl w) ?_
          simp only [Act.put, List.setIfInBounds_toArray, List.set_cons_succ, List.set_cons_zero]
          refine w_value (.int .i64 o) (by kernel_rfl) (fun w hw => x_loadOp _ _ _ _ _ _ _ _ o rfl w (hco w hw)) ?_
          simp only [Act.put, List.setIfInBounds_toArray, List.set_cons_succ, List.set_cons_zero]
          refine w_value (.int .i64 k) (by kernel_rfl) (fun w hw => x_move _ _ _ _ _ _ _ _ rfl w) ?_
          simp only [Act.put, List.setIfInBounds_toArray, List.set_cons_succ, List.set_cons_zero]
          refine w_call hG 101 #[.int .i64 o, .int .i64 k] (.int .i64 nd) (by kernel_rfl) (fun w => x_call2 _ _ _ _ _ _ _ _ _ _ _ _ _ rfl rfl rfl (enters_of Tryz.func101 (by kernel_rfl) rfl) w) (fun w hw => hqn w hw) ?_
          simp only [Act.put, List.setIfInBounds_toArray, List.set_cons_succ, List.set_cons_zero]
          refine w_value (.bool false) (by kernel_rfl) (fun w hw => x_lssB2 _ _ _ _ _ _ _ _ hk nd false hlt rfl rfl w) ?_
          simp only [Act.put, List.setIfInBounds_toArray, List.set_cons_succ, List.set_cons_zero]
          refine w_nil ?_
          intro W hW
          have HA2 := hide (HA1.out.step (HCB.out W hW))
          have HU2 : Hid (U = kk.txt) := by show _ = _; rw [HU.out, if_neg hhn]
          have hul : U.length = kk.txt.length := by rw [HU2.out]
          clear hW hG hco hqo hqh hqn hhn
          have hrec := HIK.out p (.slice a1 M1 c1) _ _ w0 W HR0.out (HA2.out.below HW.out HO.out) HA2.out.own (by simp; omega) HT.out
          have HREC := hide hrec
          clear hrec
          unfold PT at HREC ⊢
          go_wp2_with fail
          refine HREC.out.mono ?_
          rintro e w4 ⟨V4, rfl, hA4⟩
          have HA5 := hide (HA2.out.more hA4)
          obtain ⟨a4, c4, hv4⟩ := hA4.slice
          obtain ⟨M5, hM5⟩ : ∃ M5, M5 = n + (T ++ sp).length + kk.txt.length := ⟨_, rfl⟩
          rw [← hM5] at hv4
          subst hv4
          clear hA4 HREC hM5
          go_wp2
          refine ⟨⟨k + 1, by omega, by go_num, ?_⟩, by simp [intOf]; omega⟩
          show AV _ _ _ _ _ _ _ _
          rw [HTK.out, HU2.out, ← List.append_assoc]
          exact HA5.out
      · have hd0 : decide ((0 : Int) < k) = false := by simp; omega
        have hd1 : decide (0 < k) = false := by simp; omega
        have HA1 : Hid (AV w w0.heap.size (.slice a0 n cp0) n xs (T ++ sp) (.slice aq M cq) wr) := by
          have : sp = [] := by rw [HSP.out, if_neg hk0]
          rw [this, List.append_nil]; exact HA.out
        clear hk0
        go_wp2
        have hB1 : Below w0.heap.size w0 wr := HA1.out.below HW.out HO.out
        have HB1 := hide hB1
        clear hB1
        obtain ⟨C, hC⟩ : ∃ C : World → Prop, C = fun W => Below wr.heap.size wr W := ⟨_, rfl⟩
        have HG : Hid (Grows C) := by rw [hC]; exact fun W W' h1 h2 => h1.trans (h2.mono h1.size)
        have HCD : Hid (C { wr with drawn := wr.drawn + 1 }) := by rw [hC]; exact ⟨rfl, rfl, rfl, Nat.le_refl _, fun _ _ => rfl⟩
        have HCB : Hid (∀ W, C W → Below wr.heap.size wr W) := by rw [hC]; exact fun W h => h
        have HC0 : Hid (∀ W, C W → Below w0.heap.size w0 W) := fun W hW => HB1.out.trans ((HCB.out W hW).mono HB1.out.size)
        clear hC
        have hG := HG.out
        have hco : ∀ W, C W → W.cell? ⟨b, 0, none⟩ = some (.int .i64 o) := fun W hW => (HX.out W (HC0.out W hW)).1
        have hqo : ∀ W, C W → Calls Tryz.prog 72 #[PT p] W fun e w' => e = .returned (.int .i64 ko) ∧ Below W.heap.size W w' := fun W hW => by
          rw [HKO.out]; exact (opOf_any p kk W (HR0.out.keep (HC0.out W hW))).mono fun e w' ⟨h1, h2⟩ => ⟨h1, h2 ▸ Below.refl _ _⟩
        have hqh : ∀ W, C W → Calls Tryz.prog 100 #[.int .i64 ko] W fun e w' => e = .returned (.int .i64 hk) ∧ Below W.heap.size W w' := fun W hW => by
          rw [HHK.out]; exact (hold_any ko W).mono fun e w' ⟨h1, h2⟩ => ⟨h1, h2 ▸ Below.refl _ _⟩
        have hqn : ∀ W, C W → Calls Tryz.prog 101 #[.int .i64 o, .int .i64 k] W fun e w' => e = .returned (.int .i64 nd) ∧ Below W.heap.size W w' := fun W hW => by
          rw [HND.out]; exact (need_any o k W).mono fun e w' ⟨h1, h2⟩ => ⟨h1, h2 ▸ Below.refl _ _⟩
        by_cases hhn : hk < nd
        · have hlt : decide (hk < nd) = true := by simp [hhn]
          refine w_lit (C := C) (by kernel_rfl) (by kernel_rfl) HCD.out ?_
          refine w_value (PT p) (by kernel_rfl) (fun w hw => x_move _ _ _ _ _ _ _ _ rfl w) ?_
          simp only [Act.put, List.setIfInBounds_toArray, List.set_cons_succ, List.set_cons_zero]
          refine w_call hG 72 #[PT p] (.int .i64 ko) (by kernel_rfl) (fun w => x_call1 _ _ _ _ _ _ _ _ _ _ rfl rfl (enters_of Tryz.func72 (by kernel_rfl) rfl) w) (fun w hw => hqo w hw) ?_
          simp only [Act.put, List.setIfInBounds_toArray, List.set_cons_succ, List.set_cons_zero]
          refine w_call hG 100 #[.int .i64 ko] (.int .i64 hk) (by kernel_rfl) (fun w => x_call1 _ _ _ _ _ _ _ _ _ _ rfl rfl (enters_of Tryz.func100 (by kernel_rfl) rfl) w) (fun w hw => hqh w hw) ?_
          simp only [Act.put, List.setIfInBounds_toArray, List.set_cons_succ, List.set_cons_zero]
          refine w_value (PT b) (by kernel_rfl) (fun w hw => x_move _ _ _ _ _ _ _ _ rfl w) ?_
          simp only [Act.put, List.setIfInBounds_toArray, List.set_cons_succ, List.set_cons_zero]
          refine w_value (PT b) (by kernel_rfl) (fun w hw => x_nilCheck _ _ _ _ _ _ _ _ rfl w) ?_
          simp only [Act.put, List.setIfInBounds_toArray, List.set_cons_succ, List.set_cons_zero]
          refine w_value (PT b) (by kernel_rfl) (fun w hw => x_field0 _ _ _ _ _ _ _ _ rfl w) ?_
          simp only [Act.put, List.setIfInBounds_toArray, List.set_cons_succ, List.set_cons_zero]
          refine w_value (.int .i64 o) (by kernel_rfl) (fun w hw => x_loadOp _ _ _ _ _ _ _ _ o rfl w (hco w hw)) ?_
          simp only [Act.put, List.setIfInBounds_toArray, List.set_cons_succ, List.set_cons_zero]
          refine w_value (.int .i64 k) (by kernel_rfl) (fun w hw => x_move _ _ _ _ _ _ _ _ rfl w) ?_
          simp only [Act.put, List.setIfInBounds_toArray, List.set_cons_succ, List.set_cons_zero]
          refine w_call hG 101 #[.int .i64 o, .int .i64 k] (.int .i64 nd) (by kernel_rfl) (fun w => x_call2 _ _ _ _ _ _ _ _ _ _ _ _ _ rfl rfl rfl (enters_of Tryz.func101 (by kernel_rfl) rfl) w) (fun w hw => hqn w hw) ?_
          simp only [Act.put, List.setIfInBounds_toArray, List.set_cons_succ, List.set_cons_zero]
          refine w_value (.bool true) (by kernel_rfl) (fun w hw => x_lssB2 _ _ _ _ _ _ _ _ hk nd true hlt rfl rfl w) ?_
          simp only [Act.put, List.setIfInBounds_toArray, List.set_cons_succ, List.set_cons_zero]
          refine w_nil ?_
          intro W hW
          have HA2 := hide (HA1.out.step (HCB.out W hW))
          have HU2 : Hid (U = [40] ++ kk.txt ++ [41]) := by show _ = _; rw [HU.out, if_pos hhn]
          have hul : U.length = kk.txt.length + 2 := by rw [HU2.out]; simp
          clear hW hG hco hqo hqh hqn hhn
          obtain ⟨V3, W3, hr3, hA3⟩ := HA2.out.app1 40 (by simp; omega)
          obtain ⟨a3, c3, hv3⟩ := hA3.slice
          obtain ⟨M3, hM3⟩ : ∃ M3, M3 = n + (T ++ sp ++ [40]).length := ⟨_, rfl⟩
          rw [← hM3] at hv3
          subst hv3
          have hrec := HIK.out p (.slice a3 M3 c3) _ _ w0 W3 HR0.out (hA3.below HW.out HO.out) hA3.own (by simp; omega) HT.out
          have HREC := hide hrec
          have HA3 := hide hA3
          clear hrec hA3 hM3
          unfold PT at HREC ⊢
          go_wp2_with (refine wpList_append_run rfl _ _ _ rfl _ _ _ rfl rfl hr3 ?_)
          refine HREC.out.mono ?_
          rintro e w4 ⟨V4, rfl, hA4⟩
          have hA5 := HA3.out.more hA4
          obtain ⟨V6, W6, hr6, hA6⟩ := hA5.app1 41 (by simp; omega)
          obtain ⟨a4, c4, hv4⟩ := hA5.slice
          obtain ⟨M4, hM4⟩ : ∃ M4, M4 = n + (T ++ sp ++ [40] ++ kk.txt).length := ⟨_, rfl⟩
          rw [← hM4] at hv4
          subst hv4
          have HA6 := hide hA6
          clear hA4 hA5 hA6 HREC hr3 hM4
          go_wp2_with (refine wpList_append_run rfl _ _ _ rfl _ _ _ rfl rfl hr6 ?_)
          refine ⟨⟨k + 1, by omega, by go_num, ?_⟩, by simp [intOf]; omega⟩
          show AV _ _ _ _ _ _ _ _
          rw [HTK.out, HU2.out]
          have h6 := HA6.out
          simp only [List.append_assoc] at h6 ⊢
          exact h6
        · have hlt : decide (hk < nd) = false := by simp; omega
          refine w_lit (C := C) (by kernel_rfl) (by kernel_rfl) HCD.out ?_
          refine w_value (PT p) (by kernel_rfl) (fun w hw => x_move _ _ _ _ _ _ _ _ rfl w) ?_
          simp only [Act.put, List.setIfInBounds_toArray, List.set_cons_succ, List.set_cons_zero]
          refine w_call hG 72 #[PT p] (.int .i64 ko) (by kernel_rfl) (fun w => x_call1 _ _ _ _ _ _ _ _ _ _ rfl rfl (enters_of Tryz.func72 (by kernel_rfl) rfl) w) (fun w hw => hqo w hw) ?_
          simp only [Act.put, List.setIfInBounds_toArray, List.set_cons_succ, List.set_cons_zero]
          refine w_call hG 100 #[.int .i64 ko] (.int .i64 hk) (by kernel_rfl) (fun w => x_call1 _ _ _ _ _ _ _ _ _ _ rfl rfl (enters_of Tryz.func100 (by kernel_rfl) rfl) w) (fun w hw => hqh w hw) ?_
          simp only [Act.put, List.setIfInBounds_toArray, List.set_cons_succ, List.set_cons_zero]
          refine w_value (PT b) (by kernel_rfl) (fun w hw => x_move _ _ _ _ _ _ _ _ rfl w) ?_
          simp only [Act.put, List.setIfInBounds_toArray, List.set_cons_succ, List.set_cons_zero]
          refine w_value (PT b) (by kernel_rfl) (fun w hw => x_nilCheck _ _ _ _ _ _ _ _ rfl w) ?_
          simp only [Act.put, List.setIfInBounds_toArray, List.set_cons_succ, List.set_cons_zero]
          refine w_value (PT b) (by kernel_rfl) (fun w hw => x_field0 _ _ _ _ _ _ _ _ rfl w) ?_
          simp only [Act.put, List.setIfInBounds_toArray, List.set_cons_succ, List.set_cons_zero]
          refine w_value (.int .i64 o) (by kernel_rfl) (fun w hw => x_loadOp _ _ _ _ _ _ _ _ o rfl w (hco w hw)) ?_
          simp only [Act.put, List.setIfInBounds_toArray, List.set_cons_succ, List.set_cons_zero]
          refine w_value (.int .i64 k) (by kernel_rfl) (fun w hw => x_move _ _ _ _ _ _ _ _ rfl w) ?_
          simp only [Act.put, List.setIfInBounds_toArray, List.set_cons_succ, List.set_cons_zero]
          refine w_call hG 101 #[.int .i64 o, .int .i64 k] (.int .i64 nd) (by kernel_rfl) (fun w => x_call2 _ _ _ _ _ _ _ _ _ _ _ _ _ rfl rfl rfl (enters_of Tryz.func101 (by kernel_rfl) rfl) w) (fun w hw => hqn w hw) ?_
          simp only [Act.put, List.setIfInBounds_toArray, List.set_cons_succ, List.set_cons_zero]
          refine w_value (.bool false) (by kernel_rfl) (fun w hw => x_lssB2 _ _ _ _ _ _ _ _ hk nd false hlt rfl rfl w) ?_
          simp only [Act.put, List.setIfInBounds_toArray, List.set_cons_succ, List.set_cons_zero]
          refine w_nil ?_
          intro W hW
          have HA2 := hide (HA1.out.step (HCB.out W hW))
          have HU2 : Hid (U = kk.txt) := by show _ = _; rw [HU.out, if_neg hhn]
          have hul : U.length = kk.txt.length := by rw [HU2.out]
          clear hW hG hco hqo hqh hqn hhn
          have hrec := HIK.out p (.slice aq M cq) _ _ w0 W HR0.out (HA2.out.below HW.out HO.out) HA2.out.own (by simp; omega) HT.out
          have HREC := hide hrec
          clear hrec
          unfold PT at HREC ⊢
          go_wp2_with fail
          refine HREC.out.mono ?_
          rintro e w4 ⟨V4, rfl, hA4⟩
          have HA5 := hide (HA2.out.more hA4)
          obtain ⟨a4, c4, hv4⟩ := hA4.slice
          obtain ⟨M5, hM5⟩ : ∃ M5, M5 = n + (T ++ sp).length + kk.txt.length := ⟨_, rfl⟩
          rw [← hM5] at hv4
          subst hv4
          clear hA4 HREC hM5
          go_wp2
          refine ⟨⟨k + 1, by omega, by go_num, ?_⟩, by simp [intOf]; omega⟩
          show AV _ _ _ _ _ _ _ _
          rw [HTK.out, HU2.out, ← List.append_assoc]
          exact HA5.out
    · obtain rfl : k = ks.length := by omega
      rw [List.take_length] at HA
      clear g1
      go_wp2
      go_ret
      exact ⟨_, rfl, HA.out⟩
end Go.Proofs.YthhfpjehamhcbaaGreatDoor
/- appendRe: an expression as text. -/
namespace Go.Proofs.YthhfpjehamhcbaaGreatDoor
set_option maxRecDepth 100000
set_option linter.unusedSimpArgs false
set_option linter.unusedVariables false
open Go.RowKit Go.Shelf

theorem opT_0 (s : BitVec 256) (ks : List (Nat × List Nat)) : opT 0 s ks = [91, 93] := by
  unfold opT; rw [if_neg (by decide), if_neg (by decide), if_neg (by decide), if_neg (by decide)]
theorem opT_1 (s : BitVec 256) (ks : List (Nat × List Nat)) : opT 1 s ks = [40, 41] := by
  unfold opT; rw [if_pos rfl]
theorem opT_2 (s : BitVec 256) (ks : List (Nat × List Nat)) : opT 2 s ks = classW s := by
  unfold opT; rw [if_neg (by decide), if_pos rfl]
theorem opT_3 (s : BitVec 256) (ks : List (Nat × List Nat)) : opT 3 s ks = kidsT 3 0 ks := by
  unfold opT; rw [if_neg (by decide), if_neg (by decide), if_pos (by decide)]
theorem opT_4 (s : BitVec 256) (ks : List (Nat × List Nat)) : opT 4 s ks = kidsT 4 0 ks := by
  unfold opT; rw [if_neg (by decide), if_neg (by decide), if_pos (by decide)]
theorem opT_5 (s : BitVec 256) (ks : List (Nat × List Nat)) : opT 5 s ks = kidsT 5 0 ks ++ [42] := by
  unfold opT; rw [if_neg (by decide), if_neg (by decide), if_neg (by decide), if_pos rfl]
theorem opT_6 (s : BitVec 256) (ks : List (Nat × List Nat)) : opT 6 s ks = kidsT 6 0 ks := by
  unfold opT; rw [if_neg (by decide), if_neg (by decide), if_pos (by decide)]
theorem opT_7 (s : BitVec 256) (ks : List (Nat × List Nat)) : opT 7 s ks = kidsT 7 0 ks := by
  unfold opT; rw [if_neg (by decide), if_neg (by decide), if_pos (by decide)]

theorem ReAt.setC {w : World} {b o : Nat} {s : BitVec 256} {ks : List RE} (h : ReAt w b (.mk o s ks)) (W : World) (hW : Below w.heap.size w W) : W.cell? ⟨b, 1, none⟩ = some (.int .u64 (wd s 0)) ∧ W.cell? ⟨b, 2, none⟩ = some (.int .u64 (wd s 1)) ∧ W.cell? ⟨b, 3, none⟩ = some (.int .u64 (wd s 2)) ∧ W.cell? ⟨b, 4, none⟩ = some (.int .u64 (wd s 3)) := by
  have hc := (h.keep hW).cellS
  exact ⟨hc 0 (by omega), hc 1 (by omega), hc 2 (by omega), hc 3 (by omega)⟩
set_option maxHeartbeats 4000000 in
theorem appendRe_any (r : RE) : r.kidsOk → WrAt r := by
  refine RE.ind (P := fun r => r.kidsOk → WrAt r) ?_ r
  intro o s ks ih hok b v n xs w0 w hR hW hO hl hT
  have hkk : ∀ k ∈ ks, WrAt k := fun k hk => ih k hk (hok.kid k hk)
  obtain ⟨a0, cp0, rfl⟩ := hO.slice
  have hop := opOf_any b _ w (hR.keep hW)
  have hG : 0 < w0.heap.size := World.block_lt_of_cell? _ _ (hT 0 (by omega))
  have HOP := hide hop
  simp only [RE.op] at HOP
  have ho7 := hok.op
  rw [RE.txt_mk] at hl ⊢
  obtain ⟨L, hL⟩ : ∃ L, L = opT o s (kidL ks) := ⟨_, rfl⟩
  rw [← hL] at hl ⊢
  have HLL := hide hL
  have hst := AV.start hO hW.size
  have HST := hide hst
  have hcl := hR.setC w hW
  have HCL := hide hcl
  have HKI : Hid (∀ (t : ByteArray), bytesN t = sepB o → n + (kidsT o 0 (kidL ks)).length ≤ 800000000000 → Calls Tryz.prog 74 #[.slice a0 n cp0, PT b, .string t] w fun e w' => ∃ V, e = .returned V ∧ AV w w0.heap.size (.slice a0 n cp0) n xs (kidsT o 0 (kidL ks)) V w') := fun t ht hl' => appendKids_any o s ks t ht hkk b _ n xs w0 w hR hW hO hl' hT
  have HTW := hide (hT.agree (Agree.of_all (K := fun _ => True) hW) trivial)
  have HO := hide hO
  have HWS := hide hW.size
  clear hL hop ih hkk hR hst hcl hT hO hW hok
  unfold PT at HOP HKI ⊢
  go_enter Tryz.func44, Tryz.ntmps44
  go_wp2_with fail
  refine HOP.out.mono ?_
  rintro e w1 ⟨rfl, rfl⟩
  clear HOP
  obtain h | h | h | h | h | h | h | h : o = 0 ∨ o = 1 ∨ o = 2 ∨ o = 3 ∨ o = 4 ∨ o = 5 ∨ o = 6 ∨ o = 7 := by omega
  all_goals subst h
  · have HE : Hid (L = [91, 93]) := by show _ = _; rw [HLL.out, opT_0]
    obtain ⟨V, W, hr, hA⟩ := HST.out.appT ⟨#[91, 93]⟩ [91, 93] (by decide +kernel) (by simp; omega)
    obtain ⟨a1, c1, rfl⟩ := hA.slice
    have HA := hide hA
    clear hA
    go_wp2_with (refine wpList_appendS_run rfl _ _ _ _ rfl _ _ _ rfl rfl hr ?_)
    go_ret
    exact ⟨_, rfl, by rw [HE.out]; exact HA.out⟩
  · have HE : Hid (L = [40, 41]) := by show _ = _; rw [HLL.out, opT_1]
    obtain ⟨V, W, hr, hA⟩ := HST.out.appT ⟨#[40, 41]⟩ [40, 41] (by decide +kernel) (by simp; omega)
    obtain ⟨a1, c1, rfl⟩ := hA.slice
    have HA := hide hA
    clear hA
    go_wp2_with (refine wpList_appendS_run rfl _ _ _ _ rfl _ _ _ rfl rfl hr ?_)
    go_ret
    exact ⟨_, rfl, by rw [HE.out]; exact HA.out⟩
  · have HE : Hid (L = classW s) := by show _ = _; rw [HLL.out, opT_2]
    have hac := appendClass_any s (.slice a0 n cp0) n w0.heap.size xs w1 HO.out (by omega) hG HWS.out HTW.out
    have HAC := hide hac
    obtain ⟨c1, c2, c3, c4⟩ := HCL.out
    clear hac
    unfold SV at HAC
    go_wp2_with fail
    refine HAC.out.mono ?_
    rintro e w2 ⟨V, rfl, hA⟩
    have HA := hide hA.toAV
    obtain ⟨a2, d2, rfl⟩ := hA.slice
    clear hA HAC c1 c2 c3 c4
    go_wp2
    go_ret
    exact ⟨_, rfl, by rw [HE.out]; exact HA.out⟩
  · have HE : Hid (L = kidsT 3 0 (kidL ks)) := by show _ = _; rw [HLL.out, opT_3]
    have hKL : n + (kidsT 3 0 (kidL ks)).length ≤ 800000000000 := by rw [HE.out] at hl; exact hl
    have HAK := hide (HKI.out ⟨#[]⟩ (by decide +kernel) (by omega))
    go_wp2_with fail
    refine HAK.out.mono ?_
    rintro e w2 ⟨V, rfl, hA⟩
    obtain ⟨a2, d2, hv2⟩ := hA.slice
    obtain ⟨M2, hM2⟩ : ∃ M2, M2 = n + (kidsT 3 0 (kidL ks)).length := ⟨_, rfl⟩
    rw [← hM2] at hv2
    subst hv2
    have HA := hide hA
    clear hA HAK
    clear hM2
    go_wp2
    go_ret
    exact ⟨_, rfl, by rw [HE.out]; exact HA.out⟩
  · have HE : Hid (L = kidsT 4 0 (kidL ks)) := by show _ = _; rw [HLL.out, opT_4]
    have hKL : n + (kidsT 4 0 (kidL ks)).length ≤ 800000000000 := by rw [HE.out] at hl; exact hl
    have HAK := hide (HKI.out ⟨#[124]⟩ (by decide +kernel) (by omega))
    go_wp2_with fail
    refine HAK.out.mono ?_
    rintro e w2 ⟨V, rfl, hA⟩
    obtain ⟨a2, d2, hv2⟩ := hA.slice
    obtain ⟨M2, hM2⟩ : ∃ M2, M2 = n + (kidsT 4 0 (kidL ks)).length := ⟨_, rfl⟩
    rw [← hM2] at hv2
    subst hv2
    have HA := hide hA
    clear hA HAK
    clear hM2
    go_wp2
    go_ret
    exact ⟨_, rfl, by rw [HE.out]; exact HA.out⟩
  · have HE : Hid (L = kidsT 5 0 (kidL ks) ++ [42]) := by show _ = _; rw [HLL.out, opT_5]
    have hKL : n + (kidsT 5 0 (kidL ks)).length + 1 ≤ 800000000000 := by rw [HE.out] at hl; simp at hl; omega
    have HAK := hide (HKI.out ⟨#[]⟩ (by decide +kernel) (by omega))
    go_wp2_with fail
    refine HAK.out.mono ?_
    rintro e w2 ⟨V, rfl, hA⟩
    obtain ⟨a2, d2, hv2⟩ := hA.slice
    obtain ⟨M2, hM2⟩ : ∃ M2, M2 = n + (kidsT 5 0 (kidL ks)).length := ⟨_, rfl⟩
    rw [← hM2] at hv2
    subst hv2
    have HA := hide hA
    clear hA HAK
    obtain ⟨V3, W3, hr3, hA3⟩ := HA.out.app1 42 (by omega)
    obtain ⟨a3, d3, hv3⟩ := hA3.slice
    obtain ⟨M3, hM3⟩ : ∃ M3, M3 = n + (kidsT 5 0 (kidL ks) ++ [42]).length := ⟨_, rfl⟩
    rw [← hM3] at hv3
    subst hv3
    have HA3 := hide hA3
    clear hA3 hM2 hM3
    go_wp2_with (refine wpList_append_run rfl _ _ _ rfl _ _ _ rfl rfl hr3 ?_)
    go_ret
    exact ⟨_, rfl, by rw [HE.out]; exact HA3.out⟩
  · have HE : Hid (L = kidsT 6 0 (kidL ks)) := by show _ = _; rw [HLL.out, opT_6]
    have hKL : n + (kidsT 6 0 (kidL ks)).length ≤ 800000000000 := by rw [HE.out] at hl; exact hl
    have HAK := hide (HKI.out ⟨#[38]⟩ (by decide +kernel) (by omega))
    go_wp2_with fail
    refine HAK.out.mono ?_
    rintro e w2 ⟨V, rfl, hA⟩
    obtain ⟨a2, d2, hv2⟩ := hA.slice
    obtain ⟨M2, hM2⟩ : ∃ M2, M2 = n + (kidsT 6 0 (kidL ks)).length := ⟨_, rfl⟩
    rw [← hM2] at hv2
    subst hv2
    have HA := hide hA
    clear hA HAK
    clear hM2
    go_wp2
    go_ret
    exact ⟨_, rfl, by rw [HE.out]; exact HA.out⟩
  · have HE : Hid (L = kidsT 7 0 (kidL ks)) := by show _ = _; rw [HLL.out, opT_7]
    have hKL : n + (kidsT 7 0 (kidL ks)).length ≤ 800000000000 := by rw [HE.out] at hl; exact hl
    have HAK := hide (HKI.out ⟨#[45]⟩ (by decide +kernel) (by omega))
    go_wp2_with fail
    refine HAK.out.mono ?_
    rintro e w2 ⟨V, rfl, hA⟩
    obtain ⟨a2, d2, hv2⟩ := hA.slice
    obtain ⟨M2, hM2⟩ : ∃ M2, M2 = n + (kidsT 7 0 (kidL ks)).length := ⟨_, rfl⟩
    rw [← hM2] at hv2
    subst hv2
    have HA := hide hA
    clear hA HAK
    clear hM2
    go_wp2
    go_ret
    exact ⟨_, rfl, by rw [HE.out]; exact HA.out⟩
end Go.Proofs.YthhfpjehamhcbaaGreatDoor
