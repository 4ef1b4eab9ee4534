/- Texts of this claim put together: TmF. -/
import Derived.Test.YtblpekljiilkjaaGreatDoorJoinTmE
import Derived.Maps.AppendAt
/- String of a term; Of and Clone; the document's example. -/
namespace Go.Proofs.YtblpekljiilkjaaGreatDoor
set_option maxRecDepth 100000
set_option linter.unusedSimpArgs false
set_option linter.unusedVariables false
open Go.RowKit Go.Shelf

theorem inT_ne (l m : Nat) (t : List Nat) (h : t ≠ []) : inT l m t ≠ [] := by
  unfold inT
  split
  · simp
  · exact h
theorem tkT_ne (o : Nat) (sep : List Nat) (i : Nat) (l : List (Nat × List Nat)) (hl : l ≠ []) (h : ∀ x ∈ l, x.2 ≠ []) : tkT o sep i l ≠ [] := by
  cases l with
  | nil => exact absurd rfl hl
  | cons x r =>
    intro e
    rw [tkT] at e
    exact inT_ne _ _ x.2 (h x (by simp)) (List.append_eq_nil_iff.1 (List.append_eq_nil_iff.1 e).1).2
theorem wordT_ne : ∀ o < 18, leafO o = true → wordT o ≠ [] := by decide +kernel
theorem tm_ne (t : TM) : WfT t → t.txt ≠ [] := by
  refine TM.ind (P := fun t => WfT t → t.txt ≠ []) ?_ t
  intro o nm tx bk r ks ih hw
  have ho := hw.op
  have hn := hw.len
  have hx : ∀ x ∈ tkL ks, x.2 ≠ [] := by
    intro x hx
    obtain ⟨k, hk', rfl⟩ := List.mem_map.1 hx
    exact ih k hk' (hw.kid k hk')
  rw [TM.txt_mk]
  cases hlf : leafO o with
  | true =>
    rw [tmT_leaf _ _ _ _ _ _ hlf]
    intro e
    exact wordT_ne o (by omega) hlf (List.append_eq_nil_iff.1 e).1
  | false =>
    cases hro : rowO o with
    | true =>
      rw [tmT_row _ _ _ _ _ _ hlf hro]
      refine tkT_ne _ _ _ _ ?_ hx
      intro e
      have : ks.length = 0 := by have := congrArg List.length e; simpa [tkL] using this
      rw [hn] at this
      unfold kidsO at this
      unfold rowO at hro
      simp at hro
      rw [if_pos (by omega)] at this
      cases this
    | false =>
      by_cases h9 : o = 9
      · subst h9; rw [tmT_9]; simp
      · rw [tmT_word _ _ _ _ _ _ hlf hro h9]; simp

set_option maxHeartbeats 1000000 in
theorem string_any (t : TM) (b : Nat) (w : World) (hw : WfT t) (h : TmAt w b t) (hl : t.txt.length ≤ 800000000000) (hT : TabAt w) (hD : WordsAt w) :
    Calls Tryz.prog 15 #[PT b] w fun e w' => e = .returned (.string (strB t.txt)) ∧ Below w.heap.size w w' := by
  have ho0 : OwnU w w.heap.size (.slice none 0 0) 0 [] := ⟨rfl, .inl ⟨rfl, rfl⟩⟩
  have hk := appendTo_any t hw b (.slice none 0 0) 0 [] w w h (Below.refl _ _) ho0 (by omega) hT hD
  have HK := hide hk
  have HNE := hide (tm_ne t hw)
  have HO0 := hide ho0
  clear hk hw h hT ho0 hD
  unfold PT at HK ⊢
  go_enter Tryz.func15, Tryz.ntmps15
  go_wp2_with fail
  refine HK.out.mono ?_
  rintro e w1 ⟨v, rfl, hA⟩
  have hb : Below w.heap.size w w1 := hA.below (Below.refl _ _) HO0.out
  have ho := hA.own
  rw [List.nil_append, Nat.zero_add] at ho
  have hcv := str_of ho HNE.out
  have HB := hide hb
  clear hb HK hA HO0
  obtain ⟨a, c, rfl⟩ := ho.slice
  clear ho HNE
  go_wp2
  go_ret
  exact ⟨rfl, HB.out⟩

theorem infoTm : (Tryz.prog.info? 26).map (fun i => (i.zero, i.size, i.bytes)) = some (some (.pointer none), 1, 8) := by kernel_rfl
set_option maxHeartbeats 1000000 in
theorem cloneT_any (g p q : Nat) (w : World) (hB : Blk w g #[PT p, PT q] 26) :
    Calls Tryz.prog 57 #[.slice (some ⟨g, 0, none⟩) 2 2] w fun e w' => ∃ g' c', e = .returned (.slice (some ⟨g', 0, none⟩) 2 c') ∧ w.heap.size ≤ g' ∧ g' < w'.heap.size ∧ 2 ≤ c' ∧ w'.cell? ⟨g', 0, none⟩ = some (PT p) ∧ w'.cell? ⟨g', 1, none⟩ = some (PT q) ∧ Below w.heap.size w w' := by
  obtain ⟨i, hi, hz0, hz1, hz2⟩ := info_parts infoTm
  have hb1 := (Below.refl w.heap.size w).alloc (Nat.le_refl _) (.cells #[] 26)
  have hown : (w.alloc (.cells #[] 26)).ownsRow w.heap.size 26 1 (.slice (some ⟨w.heap.size, 0, none⟩) 0 0) 0 [] := ⟨rfl, .inr ⟨w.heap.size, 0, #[], rfl, Nat.le_refl _, Blk.newAt rfl _ _, by omega, by unfold maxLen; omega, rfl, rfl⟩⟩
  have hB1 := hB.below hb1 hB.lt
  obtain ⟨v', W', hr, ho, hg, -⟩ := run_append_own_at (P := Tryz.prog) (w.alloc (.cells #[] 26)) w.heap.size 36 36 26 i _ 1 8 Tryz.underlying36 hi hz0 hz1 hz2 rfl (by omega) _ 0 [] hown ⟨g, 0, none⟩ 2 2 [PT p, PT q] rfl
    (fun j u hj => by
      rw [Go.WideShapes.add_plain, Nat.zero_add, hB1.cell]
      match j with
      | 0 => simpa using hj
      | 1 => simpa using hj
      | j + 2 => simp at hj) (fun u hu => by
        simp at hu
        rcases hu with rfl | rfl <;> rfl) (by unfold maxLen; omega) (by omega) (by simp)
  have hbl := below_grown hb1 hg hown (Nat.le_refl _)
  rcases ho.2 with ⟨-, h0⟩ | ⟨g', cap, cur, rfl, hbg, hgg, h1, h2, h3, h4⟩
  · cases h0
  have hblk : Blk W' g' cur 26 := hgg
  have k0 : W'.cell? ⟨g', 0, none⟩ = some (PT p) := by
    rw [hblk.cell]
    have e : (cur.toList.take ((0 + 2) * 1))[0]? = some (PT p) := by rw [h4]; rfl
    rw [List.getElem?_take, if_pos (by omega)] at e
    simpa using e
  have k1 : W'.cell? ⟨g', 1, none⟩ = some (PT q) := by
    rw [hblk.cell]
    have e : (cur.toList.take ((0 + 2) * 1))[1]? = some (PT q) := by rw [h4]; rfl
    rw [List.getElem?_take, if_pos (by omega)] at e
    simpa using e
  have HF := hide (show w.heap.size ≤ g' ∧ g' < W'.heap.size ∧ 2 ≤ cap ∧ W'.cell? ⟨g', 0, none⟩ = some (PT p) ∧ W'.cell? ⟨g', 1, none⟩ = some (PT q) ∧ Below w.heap.size w W' from ⟨hbg, hblk.lt, by omega, k0, k1, hbl⟩)
  rw [Nat.zero_add] at hr
  have hne := Go.Lib.run_eql_slice_nil (P := Tryz.prog) w 36 26 (some ⟨g, 0, none⟩) 2 2 0 0 Tryz.underlying36
  clear hbl k0 k1 hblk h1 h2 h3 h4 hgg hbg hg ho hB hB1 hown hb1
  go_enter Tryz.func57, Tryz.ntmps57
  go_wp2_with (refine wpList_append_run rfl _ _ _ rfl _ _ _ rfl rfl hr ?_)
  go_ret
  exact ⟨_, _, rfl, HF.out⟩
theorem cloneT_nil (w : World) :
    Calls Tryz.prog 57 #[.slice none 0 0] w fun e w' => e = .returned (.slice none 0 0) ∧ Below w.heap.size w w' := by
  have HB := hide (Below.refl w.heap.size w)
  have hne := Go.Lib.run_eql_slice_nil (P := Tryz.prog) w 36 26 none 0 0 0 0 Tryz.underlying36
  go_enter Tryz.func57, Tryz.ntmps57
  go_wp2
  go_ret
  exact ⟨rfl, HB.out⟩
set_option maxHeartbeats 1000000 in
theorem ofT_nil (o : Nat) (w : World) :
    Calls Tryz.prog 36 #[.int .i64 o, .slice none 0 0] w fun e w' => ∃ b, e = .returned (PT b) ∧ w.heap.size ≤ b ∧ Blk w' b (tmC o 0 ⟨#[]⟩ ⟨#[]⟩ ⟨#[]⟩ (.pointer none) (.slice none 0 0)) 38 ∧ Below w.heap.size w w' := by
  have HK := hide (cloneT_nil w)
  go_enter Tryz.func36, Tryz.ntmps36
  go_wp2_with fail
  refine HK.out.mono ?_
  rintro e w1 ⟨rfl, hb1⟩
  have HB := hide hb1
  clear hb1 HK
  go_wp2
  go_ret
  exact ⟨_, rfl, HB.out.size, Blk.newAt rfl _ _, HB.out.alloc HB.out.size _⟩
set_option maxHeartbeats 1000000 in
theorem ofT_two (o g p q : Nat) (x y : TM) (w : World) (hB : Blk w g #[PT p, PT q] 26) (hx : TmAt w p x) (hy : TmAt w q y) :
    Calls Tryz.prog 36 #[.int .i64 o, .slice (some ⟨g, 0, none⟩) 2 2] w fun e w' => ∃ b, e = .returned (PT b) ∧ TmAt w' b (.mk o ⟨#[]⟩ ⟨#[]⟩ ⟨#[]⟩ none [x, y]) ∧ Below w.heap.size w w' := by
  have HK := hide (cloneT_any g p q w hB)
  have HX := hide hx
  have HY := hide hy
  clear hx hy hB
  go_enter Tryz.func36, Tryz.ntmps36
  go_wp2_with fail
  refine HK.out.mono ?_
  rintro e w1 ⟨g', c', rfl, h1, h2, h3, h4, h5, hb⟩
  have HB := hide hb
  have HR : Hid (TmRow w1 (.slice (some ⟨g', 0, none⟩) 2 c') [x, y]) := by
    refine ⟨fun i => if i = 0 then p else q, ⟨⟨by simp, .of h3 (FL.none _) fun _ _ _ => fun h => h⟩, some ⟨g', 0, none⟩, c', rfl, fun k hk => ⟨g', 0, rfl, h2, ?_⟩⟩, fun i k hk => ?_⟩
    · simp at hk
      obtain rfl | rfl : k = 0 ∨ k = 1 := by omega
      · exact h4
      · exact h5
    · match i with
      | 0 => simp at hk; subst hk; exact HX.out.keep hb
      | 1 => simp at hk; subst hk; exact HY.out.keep hb
      | i + 2 => simp at hk
  clear h4 h5 hb HK
  go_wp2
  go_ret
  refine ⟨_, rfl, ?_, HB.out.alloc HB.out.size _⟩
  exact TmAt.ofRow (at' := 0) (rp := .pointer none) (Blk.newAt rfl _ _) rfl (HR.out.below ((Below.refl _ _).alloc (Nat.le_refl _) _))

/-- The document's example. -/
def rA : RE := .mk 2 (setOf [97]) []
def hdA : TM := .mk 2 ⟨#[]⟩ ⟨#[]⟩ ⟨#[]⟩ (some rA) []
def hdB : TM := .mk 6 ⟨#[]⟩ ⟨#[98]⟩ ⟨#[]⟩ none []
def hdT : TM := .mk 8 ⟨#[]⟩ ⟨#[]⟩ ⟨#[]⟩ none [hdA, hdB]
theorem wordA : rWord [97] = rA := by
  have h : setOf [97] ≠ 0#256 := by decide +kernel
  have e : rOne (setOf [97]) = rA := by unfold rOne; rw [if_neg h]; rfl
  show rThen [rOne (setOf [97])] = rA
  rw [e]
  rfl
theorem rA_txt : rA.txt = [97] := by
  unfold rA
  rw [RE.txt_mk, opT_2]
  decide +kernel
theorem rA_wf : Wf rA := by rw [← wordA]; exact wf_word [97]
theorem hdT_txt : hdT.txt = [99, 111, 112, 121, 32, 47, 97, 47, 32, 46, 32, 105, 110, 115, 32, 34, 98, 34] := by
  unfold hdT hdA hdB
  rw [TM.txt_mk, tmT_row _ _ _ _ _ _ (by decide) (by decide)]
  simp only [tkL, List.map_cons, List.map_nil, TM.txt_mk, tmT_leaf 2 _ _ _ _ _ (by decide), tmT_leaf 6 _ _ _ _ _ (by decide), TM.op, tkT]
  simp only [restT, argT, reT, rA_txt]
  decide +kernel
theorem hdT_wf : WfT hdT := by
  refine .mk _ _ _ _ _ _ (by omega) (by decide) (by decide) (by decide) (fun q h => by cases h) (by decide) ?_
  intro k hk
  simp at hk
  rcases hk with rfl | rfl
  · refine .mk _ _ _ _ _ _ (by omega) (by decide) (by decide) (by decide) (fun q h => ?_) (by decide) (fun k hk => by cases hk)
    cases h
    exact ⟨rA_wf, by rw [rA_txt]; decide⟩
  · exact .mk _ _ _ _ _ _ (by omega) (by decide) (by decide) (by decide) (fun q h => by cases h) (by decide) (fun k hk => by cases hk)
theorem Blk.apart {w : World} {a b : Nat} {c d : Array Value} {t u : TypeId} (h : Blk w a c t) (k : Blk w b d u) (hn : t ≠ u) : a ≠ b := fun e => by
  subst e
  have := h.of_cells.symm.trans k.of_cells
  injection this with this
  injection this with _ h2
  exact hn h2
theorem rA_move {w w' : World} {p : Nat} (h : ReAt w p rA) (hb : w'.heap[p]? = w.heap[p]?) : ReAt w' p rA := h.leafAt rfl hb (FL.none _)
theorem rA_blk {w : World} {p : Nat} (h : ReAt w p rA) : ∃ c, Blk w p c 97 := by
  obtain ⟨v, bs, hb, -⟩ := h.open
  exact ⟨_, hb⟩

set_option maxHeartbeats 4000000 in
theorem head10_any (w : World) (hT : TabAt w) (hD : WordsAt w) :
    Calls Tryz.prog 12 #[] w fun e w' => e = .returned (.bool true) ∧ Below w.heap.size w w' := by
  have HT := hide hT
  have HDW := hide hD
  clear hT hD
  go_enter Tryz.func12, Tryz.ntmps12
  go_wp2_with fail
  refine (ofT_nil 2 w).mono ?_
  rintro e w1 ⟨b1, rfl, hb1, hB1, hbl1⟩
  have HL1 := hide hbl1
  have HB1 := hide hB1
  have HN1 := hide hb1
  clear hb1 hB1 hbl1
  unfold PT
  go_wp2_with fail
  refine (word_any ⟨#[97]⟩ w1 (by decide) (FL.none _)).mono ?_
  rintro e w2 ⟨p, rfl, hr, hbl2⟩
  rw [show bytesN ⟨#[97]⟩ = [97] from by decide +kernel, wordA] at hr
  have hB12 := HB1.out.below hbl2 HB1.out.lt
  obtain ⟨cr, hcr⟩ := rA_blk hr
  have hp1 : b1 ≠ p := hB12.apart hcr (by decide)
  have cS := hB12.cell 3
  have fS := hB12.frozen 3
  simp only [tmC] at cS
  have HL2 := hide (HL1.out.trans (hbl2.mono HL1.out.size))
  have HB2 := hide hB12
  have HR2 := hide hr
  have HP1 := hide hp1
  clear hr hbl2 hB12 hcr hp1 HB1
  unfold PT
  go_wp2_with fail
  obtain ⟨w3, hw3⟩ : ∃ w3, w3 = w2.setCell ⟨b1, 3, none⟩ (.pointer (some ⟨p, 0, none⟩)) := ⟨_, rfl⟩
  try rw [← hw3]
  have hB3 : Blk w3 b1 (tmC 2 0 ⟨#[]⟩ ⟨#[]⟩ ⟨#[]⟩ (PT p) (.slice none 0 0)) 38 := by rw [hw3]; exact HB2.out.set 3 _
  have hR3 : ReAt w3 p rA := rA_move HR2.out (by rw [hw3]; exact Below.heap_setCell _ _ _ _ (Ne.symm HP1.out))
  have hL3 : Below w.heap.size w w3 := by rw [hw3]; exact HL2.out.setCell HN1.out _
  have HB3 := hide hB3
  have HR3 := hide hR3
  have HL3 := hide hL3
  clear hB3 hR3 hL3 cS fS HL2 HB2 HR2 hw3
  refine (ofT_nil 6 w3).mono ?_
  rintro e w4 ⟨b2, rfl, hb2, hB2, hbl4⟩
  have hA4 : TmAt w4 b1 hdA := TmAt.keep (TmAt.ofRow (at' := 0) HB3.out ⟨p, rfl, HR3.out⟩ (tmRow_nil w3)) hbl4
  have cS := hB2.cell 4
  have fS := hB2.frozen 4
  simp only [tmC] at cS
  have HL4 := hide (HL3.out.trans (hbl4.mono HL3.out.size))
  have HB4 := hide hB2
  have HN2 := hide hb2
  have HB34 := hide hbl4
  clear hb2 hB2 hA4 hbl4
  unfold PT
  go_wp2_with fail
  obtain ⟨w5, hw5⟩ : ∃ w5, w5 = w4.setCell ⟨b2, 4, none⟩ (.string ⟨#[98]⟩) := ⟨_, rfl⟩
  have hsz : w4.heap.size = w5.heap.size := by rw [hw5]; simp [World.setCell]
  have h12 : b1 ≠ b2 := fun e => by have h1 := HB3.out.lt; have h2 := HN2.out; omega
  have hp2 : p ≠ b2 := fun e => by have h1 := HR3.out.lt; have h2 := HN2.out; omega
  have hB4 := HB3.out.below HB34.out HB3.out.lt
  have hA5 : TmAt w5 b1 hdA := by
    refine TmAt.ofRow (at' := 0) (rp := PT p) (v := .slice none 0 0) ?_ ⟨p, rfl, ?_⟩ (tmRow_nil w5)
    · rw [hw5]; exact hB4.setOther _ _ h12
    · rw [hw5]; exact rA_move (HR3.out.keep HB34.out) (Below.heap_setCell _ _ _ _ hp2)
  have hB5 : TmAt w5 b2 hdB := TmAt.ofRow (at' := 0) (rp := .pointer none) (v := .slice none 0 0) (by rw [hw5]; exact HB4.out.set 4 _) rfl (tmRow_nil w5)
  have hL5 : Below w.heap.size w w5 := by rw [hw5]; exact HL4.out.setCell (show w.heap.size ≤ b2 by have h1 := HL3.out.size; have h2 := HN2.out; omega) _
  rw [← hw5, hsz]
  have HA5 := hide hA5
  have HB5 := hide hB5
  have HL5 := hide hL5
  clear hA5 hB5 hL5 hsz hw5 cS fS hB4 h12 hp2 HB3 HR3 HB4 HL4 HB34 HN2
  have hbl := (Below.refl w5.heap.size w5).alloc (Nat.le_refl _) (.cells #[.pointer (some ⟨b1, 0, none⟩), .pointer (some ⟨b2, 0, none⟩)] 26)
  refine (ofT_two 8 w5.heap.size b1 b2 hdA hdB _ (Blk.newAt rfl _ _) (HA5.out.keep hbl) (HB5.out.keep hbl)).mono ?_
  rintro e w7 ⟨b3, rfl, hT3, hb7⟩
  have hL7 := (HL5.out.alloc HL5.out.size (.cells #[.pointer (some ⟨b1, 0, none⟩), .pointer (some ⟨b2, 0, none⟩)] 26)).trans (hb7.mono (by have := HL5.out.size; simp; omega))
  have HST := hide (string_any hdT b3 w7 hdT_wf hT3 (by rw [hdT_txt]; decide) (HT.out.onS hL7) (HDW.out.on hL7))
  have hst : strB hdT.txt = ⟨#[99, 111, 112, 121, 32, 47, 97, 47, 32, 46, 32, 105, 110, 115, 32, 34, 98, 34]⟩ := by rw [hdT_txt]; decide +kernel
  rw [hst] at HST
  have HL7 := hide hL7
  clear hT3 hb7 hL7 hst hbl HA5 HB5
  unfold PT at HST ⊢
  go_wp2_with fail
  refine HST.out.mono ?_
  rintro e w8 ⟨rfl, hb8⟩
  have HL8 := hide (HL7.out.trans (hb8.mono HL7.out.size))
  clear hb8 HST
  go_wp2
  go_ret
  exact ⟨rfl, HL8.out⟩
end Go.Proofs.YtblpekljiilkjaaGreatDoor
