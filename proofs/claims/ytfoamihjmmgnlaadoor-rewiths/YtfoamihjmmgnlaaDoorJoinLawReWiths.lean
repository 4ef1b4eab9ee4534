/- Texts of this claim put together: MathSame, LawReWiths. -/
import Derived.Test.YtfoamihjmmgnlaaDoorJoinShD
import Derived.Test.YtfoamihjmmgnlaaDoorJoinShF
/- An expression in the settled form, with its own kids, is itself. -/
namespace Go.Proofs.YtfoamihjmmgnlaaDoor
set_option maxRecDepth 100000
set_option linter.unusedSimpArgs false
set_option linter.unusedVariables false
open Go.RowKit

theorem flatL_same {o : Nat} {l : List RE} (h : ∀ k ∈ l, k.op ≠ o) : flatL o l = l := by
  induction l with
  | nil => rfl
  | cons x l ih =>
    have hx := h x (by simp)
    have hl := ih fun k hk => h k (by simp [hk])
    unfold flatL at *
    rw [List.flatMap_cons, if_neg hx, hl]; rfl
theorem catL_same {l : List RE} (h : ∀ k ∈ l, k.op ≠ 1 ∧ k.op ≠ 3) : catL l = l := by
  induction l with
  | nil => rfl
  | cons x l ih =>
    have hx := h x (by simp)
    have hl := ih fun k hk => h k (by simp [hk])
    unfold catL at *
    rw [List.flatMap_cons, hl]
    unfold catK
    rw [if_neg hx.1, if_neg hx.2]; rfl
theorem rOne_set (c : BitVec 256) (h : c ≠ 0#256) : rOne c = .mk 2 c [] := by unfold rOne; rw [if_neg h]
theorem wf_class {r : RE} (hw : Wf r) (h : r.op = 2) : r = rOne r.set ∧ r.set ≠ 0#256 := by
  obtain ⟨h1, h2⟩ := hw.shp.cls h
  refine ⟨?_, h2⟩
  rw [rOne_set _ h2, ← h, ← h1]; exact r.eta
/-- At most one Class: what is gathered of them. -/
theorem orSet_one {l : List RE} : (∀ k ∈ l, k.op ≠ 2) → ∀ s, l.foldl (fun s r => if r.op = 2 then s ||| r.set else s) s = s := by
  induction l with
  | nil => intro _ s; rfl
  | cons x l ih =>
    intro h s
    rw [List.foldl_cons, if_neg (h x (by simp))]
    exact ih (fun k hk => h k (by simp [hk])) s
theorem andSet_one {l : List RE} : (∀ k ∈ l, k.op ≠ 2) → ∀ s, l.foldl (fun s r => if r.op = 2 then s &&& r.set else s) s = s := by
  induction l with
  | nil => intro _ s; rfl
  | cons x l ih =>
    intro h s
    rw [List.foldl_cons, if_neg (h x (by simp))]
    exact ih (fun k hk => h k (by simp [hk])) s
/-- A list with one Class at most, apart. -/
theorem one_class {l : List RE} (hc : (l.filter fun k => k.op == 2).length ≤ 1) : (∀ k ∈ l, k.op ≠ 2) ∨ ∃ a x b, l = a ++ x :: b ∧ x.op = 2 ∧ (∀ k ∈ a, k.op ≠ 2) ∧ ∀ k ∈ b, k.op ≠ 2 := by
  induction l with
  | nil => left; simp
  | cons x l ih =>
    by_cases hx : x.op = 2
    · right
      refine ⟨[], x, l, rfl, hx, by simp, fun k hk e => ?_⟩
      rw [List.filter_cons, if_pos (by simp [hx])] at hc
      have : k ∈ l.filter (fun k => k.op == 2) := List.mem_filter.2 ⟨hk, by simp [e]⟩
      have := List.length_pos_of_mem this
      rw [List.length_cons] at hc
      omega
    · rw [List.filter_cons, if_neg (by simp [hx])] at hc
      rcases ih hc with h | ⟨a, y, b, rfl, h1, h2, h3⟩
      · left
        intro k hk
        rcases List.mem_cons.1 hk with rfl | hk
        · exact hx
        · exact h k hk
      · right
        refine ⟨x :: a, y, b, rfl, h1, fun k hk => ?_, h3⟩
        rcases List.mem_cons.1 hk with rfl | hk
        · exact hx
        · exact h2 k hk
theorem mem_orKeep {l : List RE} (h0 : ∀ k ∈ l, k.op ≠ 0) (r : RE) : r ∈ orKeep l ↔ r ∈ l ∧ r.op ≠ 2 := by
  unfold orKeep
  rw [List.mem_filter]
  constructor
  · rintro ⟨h1, h2⟩; simp at h2; exact ⟨h1, h2.2⟩
  · rintro ⟨h1, h2⟩; exact ⟨h1, by simp [h0 r h1, h2]⟩
theorem any_same {r : RE} (hw : Wf r) (h4 : r.op = 4) : rAny r.kids = r := by
  obtain ⟨h2, hk, hup, hc⟩ := hw.shp.or (.inl h4)
  have hset := hw.shp.set (by omega)
  have hkw := hw.kid
  have hf : flatL 4 r.kids = r.kids := flatL_same fun k hk' => by have := (hk k hk').2; rwa [h4] at this
  have h0 : ∀ k ∈ r.kids, k.op ≠ 0 := fun k hk' => (hk k hk').1
  have key : ∀ ks, (∀ x, x ∈ ks ↔ x ∈ r.kids) → (∀ x ∈ ks, WfK x) → ordL ks = r.kids := fun ks h1 h3 => (ordL_eq h3 hup fun x => (h1 x).symm).symm
  have hne : r.kids ≠ [] := fun e => by rw [e] at h2; simp at h2
  have fin : ∀ ks, (∀ x, x ∈ ks ↔ x ∈ r.kids) → (∀ x ∈ ks, WfK x) → (if ks = [] then rNothing else rJoin 4 (ordL ks)) = r := fun ks h1 h3 => by
    rw [if_neg (fun e => hne (List.eq_nil_iff_forall_not_mem.2 fun x hx => by have := (h1 x).2 hx; rw [e] at this; simp at this)), key ks h1 h3, rJoin_more _ _ (by omega)]
    rw [← hset, ← h4]; exact r.eta.symm
  unfold rAny
  simp only [hf]
  rcases one_class hc with hn | ⟨a, x, b, e, hx, ha, hb⟩
  · have hs : orSet r.kids = 0#256 := orSet_one hn _
    rw [if_pos hs, List.append_nil]
    refine fin _ (fun y => ?_) (fun y hy => (hkw y ((mem_orKeep h0 y).1 hy).1).k)
    rw [mem_orKeep h0]
    exact ⟨fun h => h.1, fun h => ⟨h, hn y h⟩⟩
  · have hxm : x ∈ r.kids := by rw [e]; simp
    obtain ⟨hx1, hx2⟩ := wf_class (hkw x hxm) hx
    have hs : orSet r.kids = x.set := by
      unfold orSet
      rw [e, List.foldl_append, orSet_one ha, List.foldl_cons, if_pos hx, orSet_one hb]; simp
    rw [hs, if_neg hx2, ← hx1]
    have hm : ∀ y, y ∈ orKeep r.kids ++ [x] ↔ y ∈ r.kids := fun y => by
      rw [List.mem_append, mem_orKeep h0]
      constructor
      · rintro (h | h)
        · exact h.1
        · simp at h; subst h; exact hxm
      · intro h
        by_cases hy : y.op = 2
        · right
          rw [e] at h
          rcases List.mem_append.1 h with h | h
          · exact absurd hy (ha y h)
          · rcases List.mem_cons.1 h with rfl | h
            · simp
            · exact absurd hy (hb y h)
        · exact .inl ⟨h, hy⟩
    exact fin _ hm (fun y hy => (hkw y ((hm y).1 hy)).k)
theorem both_same {r : RE} (hw : Wf r) (h6 : r.op = 6) : rBoth r.kids = r := by
  obtain ⟨h2, hk, hup, hc⟩ := hw.shp.or (.inr h6)
  have hset := hw.shp.set (by omega)
  have hkw := hw.kid
  have hf : flatL 6 r.kids = r.kids := flatL_same fun k hk' => by have := (hk k hk').2; rwa [h6] at this
  have h0 : ∀ k ∈ r.kids, k.op ≠ 0 := fun k hk' => (hk k hk').1
  have hany : r.kids.any (fun r => r.op == 0) = false := List.any_eq_false.2 fun k hk' => by simp [h0 k hk']
  have key : ∀ ks, (∀ x, x ∈ ks ↔ x ∈ r.kids) → (∀ x ∈ ks, WfK x) → ordL ks = r.kids := fun ks h1 h3 => (ordL_eq h3 hup fun x => (h1 x).symm).symm
  have hne : r.kids ≠ [] := fun e => by rw [e] at h2; simp at h2
  have fin : ∀ ks, (∀ x, x ∈ ks ↔ x ∈ r.kids) → (∀ x ∈ ks, WfK x) → (if ks = [] then rMany (rOne allB) else rJoin 6 (ordL ks)) = r := fun ks h1 h3 => by
    rw [if_neg (fun e => hne (List.eq_nil_iff_forall_not_mem.2 fun x hx => by have := (h1 x).2 hx; rw [e] at this; simp at this)), key ks h1 h3, rJoin_more _ _ (by omega)]
    rw [← hset, ← h6]; exact r.eta.symm
  unfold rBoth
  simp only [hf]
  rw [if_neg (by rw [hany]; simp)]
  rcases one_class hc with hn | ⟨a, x, b, e, hx, ha, hb⟩
  · have hs : andSet r.kids = allB := andSet_one hn _
    have hm : met r.kids = false := List.any_eq_false.2 fun k hk' => by simp [hn k hk']
    rw [hs, if_neg (by decide +kernel), hm]
    simp only [Bool.false_eq_true, if_false, List.append_nil]
    refine fin _ (fun y => ?_) (fun y hy => (hkw y ((mem_orKeep h0 y).1 hy).1).k)
    rw [mem_orKeep h0]
    exact ⟨fun h => h.1, fun h => ⟨h, hn y h⟩⟩
  · have hxm : x ∈ r.kids := by rw [e]; simp
    obtain ⟨hx1, hx2⟩ := wf_class (hkw x hxm) hx
    have hs : andSet r.kids = x.set := by
      unfold andSet
      rw [e, List.foldl_append, andSet_one ha, List.foldl_cons, if_pos hx, andSet_one hb]
      have : allB = BitVec.allOnes 256 := by decide +kernel
      rw [this, BitVec.allOnes_and]
    have hm' : met r.kids = true := List.any_eq_true.2 ⟨x, hxm, by simp [hx]⟩
    rw [hs, if_neg hx2, hm', if_pos rfl, ← hx1]
    have hm : ∀ y, y ∈ orKeep r.kids ++ [x] ↔ y ∈ r.kids := fun y => by
      rw [List.mem_append, mem_orKeep h0]
      constructor
      · rintro (h | h)
        · exact h.1
        · simp at h; subst h; exact hxm
      · intro h
        by_cases hy : y.op = 2
        · right
          rw [e] at h
          rcases List.mem_append.1 h with h | h
          · exact absurd hy (ha y h)
          · rcases List.mem_cons.1 h with rfl | h
            · simp
            · exact absurd hy (hb y h)
        · exact .inl ⟨h, hy⟩
    exact fin _ hm (fun y hy => (hkw y ((hm y).1 hy)).k)
theorem with_same {r : RE} (hw : Wf r) : rWith r r.kids = r := by
  have hs := hw.shp
  unfold rWith
  split
  · rename_i h3
    obtain ⟨h2, hk⟩ := hs.cat h3
    unfold rThen
    rw [if_neg (by
      rw [List.any_eq_true]
      rintro ⟨k, hk', e⟩
      exact (hk k hk').1 (by simpa using e)), catL_same (fun k hk' => (hk k hk').2), if_neg (fun e => by rw [e] at h2; simp at h2), rJoin_more _ _ (by omega)]
    rw [← hs.set (by omega), ← h3]; exact r.eta.symm
  · split
    · exact any_same hw (by assumption)
    · split
      · exact both_same hw (by assumption)
      · split
        · rename_i h5
          obtain ⟨k, hk, h1, h2, h3⟩ := hs.star h5.1
          rw [hk]
          show rMany k = r
          unfold rMany
          rw [if_neg (by omega), if_neg h3, ← hk, ← hs.set (by omega), ← h5.1]; exact r.eta.symm
        · split
          · rename_i h7
            obtain ⟨a, b, hk, h1, h2, h3, h4⟩ := hs.minus h7.1
            have ha := (hw.kid a (by rw [hk]; simp)).k
            have hb := (hw.kid b (by rw [hk]; simp)).k
            rw [hk]
            show rBut a b = r
            unfold rBut
            rw [if_neg (by omega), if_neg h4, if_neg (fun e => h3 (key_inj ha hb (lexN_zero _ _ e))), ← hk, ← hs.set (by omega), ← h7.1]; exact r.eta.symm
          · rfl
theorem wf_with {r : RE} (hw : Wf r) {l : List RE} (hl : ∀ x ∈ l, Wf x) : Wf (rWith r l) := by
  have hg : ∀ i, Wf (l.getD i rNothing) := fun i => by
    by_cases hi : i < l.length
    · rw [show l.getD i rNothing = l[i] from by simp [List.getD_eq_getElem?_getD, hi]]; exact hl _ (List.getElem_mem hi)
    · rw [show l.getD i rNothing = rNothing from by simp [List.getD_eq_getElem?_getD, hi]]; exact wf_nothing
  unfold rWith
  split
  · exact wf_then hl
  · split
    · exact wf_any hl
    · split
      · exact wf_both hl
      · split
        · exact wf_many (hg 0)
        · split
          · exact wf_but (hg 0) (hg 1)
          · exact hw
end Go.Proofs.YtfoamihjmmgnlaaDoor
/- ReWiths: an expression with other kids has what its op makes of them; with its own it is itself. -/
namespace Go.Proofs.YtfoamihjmmgnlaaDoor
set_option maxRecDepth 100000
set_option linter.unusedSimpArgs false
set_option linter.unusedVariables false
open Go.RowKit

theorem cnt_bounds {l : List RE} (h : cntL l ≤ 100000) : l.length ≤ 1099511627776 ∧ (catL l).length ≤ 1099511627776 ∧ (flatL 4 l).length ≤ 1099511627776 ∧ (flatL 6 l).length ≤ 1099511627776 := by
  have a0 := cntL_len l
  have a1 := cntL_len (catL l); have a2 := cntL_catL l
  have b1 := cntL_len (flatL 4 l); have b2 := cntL_flatL 4 l
  have c1 := cntL_len (flatL 6 l); have c2 := cntL_flatL 6 l
  omega
theorem cntL_shapes (l : List SHP) (h : ∀ x ∈ l, Tx x ∧ x.nodes ≤ 30) : cntL (l.map SHP.re) ≤ 660 * l.length := by
  induction l with
  | nil => simp [cntL]
  | cons x l ih =>
    have e1 := x.cnt (h x (by simp)).1
    have e3 := (h x (by simp)).2
    have e2 := ih fun k hk => h k (by simp [hk])
    rw [List.map_cons, cntL_cons, List.length_cons]
    omega

set_option maxHeartbeats 4000000 in
theorem reWiths_any (cs : List Value) (s : SHP) (v : Value) (l : List SHP) (w : World) (hs : ShC w cs s) (hl : ShsRow w v l) (hT : TabAt w) :
    Calls Tryd.prog 13 #[ShVal cs, v] w fun e w' => e = .returned (.bool true) ∧ Below w.heap.size w w' := by
  have HC := hide hs
  have HL := hide hl
  have HT := hide hT
  obtain ⟨kv, rfl, hrow, -⟩ := hs.open
  obtain ⟨-, a, cap, rfl, -⟩ := hrow.at
  obtain ⟨hln, la, lcap, rfl, -⟩ := hl.at
  clear hs hl hT hrow
  obtain ⟨B, hB⟩ : ∃ B, B = w.heap.size := ⟨_, rfl⟩
  unfold ShVal
  go_enter Tryd.func13, Tryd.ntmps13
  go_wp2_with fail
  have hb0 : Below B w (w.alloc (.cells #[.int .i64 s.op, .int .u8 s.lo, .int .u8 s.hi, .string s.text, .slice a s.kids.length cap] 56)) := (Below.refl _ _).alloc (Nat.le_of_eq hB) _
  have hbx : Blk (w.alloc (.cells #[.int .i64 s.op, .int .u8 s.lo, .int .u8 s.hi, .string s.text, .slice a s.kids.length cap] 56)) B #[.int .i64 s.op, .int .u8 s.lo, .int .u8 s.hi, .string s.text, .slice a s.kids.length cap] 56 := Blk.newAt hB _ _
  refine (head3_any _ (HT.out.agree (Agree.of_all (K := fun _ => True) (hB ▸ hb0)) trivial)).mono ?_
  rintro e w1 ⟨rfl, hb1⟩
  have hbx1 := hbx.below hb1 hbx.lt
  have HX1 := hide hbx1
  have HB1 := hide (hb0.trans (hb1.mono (by simp; omega)))
  have HB := hide hB
  rw [← hB]
  clear hb0 hbx hb1 hB
  have xB := hbx1
  have x0 := xB.cell 0; have x1 := xB.cell 1; have x2 := xB.cell 2; have x3 := xB.cell 3; have x4 := xB.cell 4
  simp only [List.getElem?_toArray, List.getElem?_cons_zero, List.getElem?_cons_succ] at x0 x1 x2 x3 x4
  clear xB
  clear hbx1
  have hfew := few_any s _ w1 (HC.out.keep (HB.out ▸ HB1.out))
  have HFEW := hide hfew
  clear hfew
  unfold ShVal at HFEW
  go_wp2_with fail
  refine HFEW.out.mono ?_
  rintro e w2 ⟨few, rfl, hfw, hb2⟩
  have hsB1 : B ≤ w1.heap.size := by have := HX1.out.lt; omega
  have HB2 := hide (HB1.out.trans (hb2.mono hsB1))
  have hbx2 := HX1.out.below hb2 HX1.out.lt
  have HX2 := hide hbx2
  have HFW := hide hfw
  clear hb2 hfw HFEW x0 x1 x2 x3 x4 HX1 HB1
  cases few
  · clear hbx2
    go_wp2
    go_ret
    exact ⟨rfl, HB.out ▸ HB2.out⟩
  obtain ⟨htx, hnd⟩ := HFW.out rfl
  clear HFW
  by_cases h4 : 4 < l.length
  · have hd4 : decide ((4 : Int) < l.length) = true := decide_eq_true (by omega)
    have hd4' : decide (4 < l.length) = true := decide_eq_true h4
    clear hbx2
    go_wp2
    go_ret
    exact ⟨rfl, HB.out ▸ HB2.out⟩
  have hd4 : decide ((4 : Int) < l.length) = false := decide_eq_false (by omega)
  have hd4' : decide (4 < l.length) = false := decide_eq_false h4
  have xB := hbx2
  have x0 := xB.cell 0; have x1 := xB.cell 1; have x2 := xB.cell 2; have x3 := xB.cell 3; have x4 := xB.cell 4
  simp only [List.getElem?_toArray, List.getElem?_cons_zero, List.getElem?_cons_succ] at x0 x1 x2 x3 x4
  clear xB
  clear hbx2
  have hsB2 : B ≤ w2.heap.size := by have := HX2.out.lt; omega
  have hmk := make_any s _ w2 (HC.out.keep (HB.out ▸ HB2.out)) htx hnd (HT.out.agree (Agree.of_all (K := fun _ => True) (HB.out ▸ HB2.out)) trivial)
  have HMK := hide hmk
  clear hmk
  unfold ShVal at HMK
  go_wp2_with fail
  refine HMK.out.mono ?_
  rintro e w3 ⟨rb, rfl, hr3, hb3⟩
  have HB3 := hide (HB2.out.trans (hb3.mono hsB2))
  have HX3 := hide (HX2.out.below hb3 HX2.out.lt)
  have HR3 := hide hr3
  have hsB3 : B ≤ w3.heap.size := by have := HX3.out.lt; omega
  obtain ⟨kv, kblk, krow⟩ := hr3.row
  have c5 : w3.cell? ⟨rb, 5, none⟩ = some kv := by rw [kblk.cell]; rfl
  have hwf := s.wf
  have hcnt : s.re.cnt ≤ 660 := by have := s.cnt htx; omega
  obtain ⟨q1, q2, q3, q4⟩ := cnt_bounds (l := s.re.kids) (by have := s.re.cnt_kids; omega)
  have hwi := with_any rb s.re s.re.kids kv w3 hr3 krow hwf.kid q1 q2 q3 q4 (HT.out.agree (Agree.of_all (K := fun _ => True) (HB.out ▸ HB3.out)) trivial)
  rw [with_same hwf] at hwi
  obtain ⟨-, ka, kc, rfl, -⟩ := krow.at
  have HWI := hide hwi
  have HWF := hide hwf
  clear hb3 hr3 hwi kblk krow x0 x1 x2 x3 x4 HX2 HB2 HMK hwf q1 q2 q3 q4 hsB2 hsB1
  generalize hre : s.re = r at *
  unfold PT
  go_wp2_with fail
  refine HWI.out.mono ?_
  rintro e w4 ⟨wb, rfl, hr4, hb4⟩
  have HB4 := hide (HB3.out.trans (hb4.mono hsB3))
  have HX4 := hide (HX3.out.below hb4 HX3.out.lt)
  have HR4 := hide (HR3.out.keep hb4)
  have hsm := same_re r r wb rb w4 HWF.out.k HWF.out.k hr4 HR4.out (HT.out.agree (Agree.of_all (K := fun _ => True) (HB.out ▸ HB4.out)) trivial)
  rw [lexN_self] at hsm
  have HSM := hide hsm
  have hsB4 : B ≤ w4.heap.size := by have := HX4.out.lt; omega
  clear hr4 hb4 hsm HWI c5 HB3 HX3 HR3 hsB3
  unfold PT
  go_wp2_with fail
  refine HSM.out.mono ?_
  rintro e w5 ⟨rfl, hm5⟩
  have hb5 := hm5.below
  have HB5 := hide (HB4.out.trans (hb5.mono hsB4))
  have hX5 := HX4.out.below hb5 HX4.out.lt
  have HR5 := hide (HR4.out.keep hb5)
  have hM0 : MkW w B #[.int .i64 s.op, .int .u8 s.lo, .int .u8 s.hi, .string s.text, .slice a s.kids.length cap] (.slice (some ⟨w5.heap.size, 0, none⟩) 0 0) [] (w5.alloc (.cells #[] 58)) :=
    ⟨OwnZ.start (Blk.newAt rfl _ _) (by have := hX5.lt; omega), fun p hp => by simp at hp, hX5.alloc _, HB5.out.alloc (by have := hX5.lt; omega) _⟩
  have hR0 := HR5.out.keep ((Below.refl w5.heap.size w5).alloc (Nat.le_refl _) (.cells #[] 58))
  rw [show ((0 : Int) == 0) = true from rfl]
  clear hb5 hm5 hX5 HSM HR4 HX4 HB4 hsB4
  go_wp2
  go_loopw [6, 34] (fun out c wr => ∃ (k : Nat) (ps : List (Nat × RE)), k ≤ l.length ∧ c = .int .i64 k ∧ Hid (ps.length = k) ∧ Hid (ps.map Prod.snd = (l.take k).map SHP.re) ∧ Hid (∀ x ∈ l.take k, Tx x ∧ x.nodes ≤ 30) ∧ Hid (MkW w B #[.int .i64 s.op, .int .u8 s.lo, .int .u8 s.hi, .string s.text, .slice a s.kids.length cap] out ps wr) ∧ Hid (ReAt wr rb r)) (fun _ c _ => l.length - (intOf c).toNat)
  case atStart => exact ⟨0, [], by omega, rfl, rfl, rfl, (fun x hx => by simp at hx), hM0, hR0⟩
  case round =>
    clear hM0 hR0 HR5 HB5
    obtain ⟨k, ps, hk, rfl, HLn, HS, HF, HM, HRr⟩ := hrel
    obtain ⟨-, la', lcap', e1, g1⟩ := (HL.out.keep (show Below w.heap.size w wr from HB.out ▸ HM.out.below)).at
    obtain ⟨rfl, rfl⟩ : la = la' ∧ lcap = lcap' := by cases e1; exact ⟨rfl, rfl⟩
    clear e1
    have hTW : TabAt wr := HT.out.agree (Agree.of_all (K := fun _ => True) (HB.out ▸ HM.out.below)) trivial
    by_cases hlt : k < l.length
    · have hkd : decide (k < l.length) = true := by simp [hlt]
      obtain ⟨b, off, kv, rfl, -, ⟨c0, c1, c2, c3, c4⟩, hC⟩ := g1 k hlt
      have hb1 := (Below.refl wr.heap.size wr).alloc (Nat.le_refl _) (.cells #[.int .i64 l[k].op, .int .u8 l[k].lo, .int .u8 l[k].hi, .string l[k].text, kv] 56)
      have HTK := hide (show l.take (k + 1) = l.take k ++ [l[k]] from List.take_succ_eq_append_getElem hlt)
      have hblk := Blk.newAt (w := wr) rfl #[.int .i64 l[k].op, .int .u8 l[k].lo, .int .u8 l[k].hi, .string l[k].text, kv] 56
      have hC1 := hC.keep hb1
      have hfew := few_any _ _ _ hC1
      obtain ⟨-, kf, kcap, hkv, -⟩ : True ∧ ∃ a c, kv = .slice a (l[k]).kids.length c ∧ True := by
        obtain ⟨v', e', hr', -⟩ := hC.open
        obtain ⟨-, a', c', e'', -⟩ := hr'.at
        have : kv = v' := by simpa using e'
        exact ⟨trivial, a', c', this.trans e'', trivial⟩
      have HFEW := hide hfew
      have HM1 := hide (HM.out.step hb1)
      have HR1 := hide (HRr.out.keep hb1)
      have hT1 := hTW.agree (Agree.of_all (K := fun _ => True) hb1) trivial
      have HT1 := hide hT1
      have HC1 := hide hC1
      have HBK := hide hblk
      have hps1000 : ps.length ≤ 1000000 := by rw [HLn.out]; omega
      subst hkv
      generalize hks : l[k] = sk at *
      clear hfew hC hC1 g1 hT1 hTW hblk
      unfold ShVal at HFEW
      go_wp2_with fail
      refine HFEW.out.mono ?_
      rintro e w2 ⟨few, rfl, hfw, hb2⟩
      have HFW := hide hfw
      have HM2 := hide (HM1.out.step hb2)
      have HR2 := hide (HR1.out.keep hb2)
      have HC2 := hide (HC1.out.keep hb2)
      have HT2 := hide (HT1.out.agree (Agree.of_all (K := fun _ => True) hb2) trivial)
      have hblk2 := HBK.out.below hb2 HBK.out.lt
      clear hfw hb2 HFEW HM1 HR1 HC1 HT1 HBK c0 c1 c2 c3 c4 hb1
      cases few
      · clear hblk2
        go_wp2
        go_ret
        exact ⟨rfl, HB.out ▸ HM2.out.below⟩
      obtain ⟨htx2, hnd2⟩ := HFW.out rfl
      clear HFW
      have yB := hblk2
      have y0 := yB.cell 0; have y1 := yB.cell 1; have y2 := yB.cell 2; have y3 := yB.cell 3; have y4 := yB.cell 4
      simp only [List.getElem?_toArray, List.getElem?_cons_zero, List.getElem?_cons_succ] at y0 y1 y2 y3 y4
      clear yB
      clear hblk2
      have hmk := make_any sk _ w2 HC2.out htx2 hnd2 HT2.out
      have HMK := hide hmk
      clear hmk
      unfold ShVal at HMK
      go_wp2_with fail
      refine HMK.out.mono ?_
      rintro e w3 ⟨kb, rfl, hkr, hb3⟩
      have HM3 := hide (HM2.out.step hb3)
      have HR3 := hide (HR2.out.keep hb3)
      have hb4 := (Below.refl w3.heap.size w3).alloc (Nat.le_refl _) (.cells #[PT kb] 58)
      obtain ⟨v5, W5, hr5, hO5, hB5, hk5⟩ := run_appendZ (HM3.out.step hb4).own 69 w3.heap.size kb sk.re (Blk.newAt rfl _ _) hps1000 (by have := (HM3.out.step hb4).box.lt; omega)
      have hM4 := HM3.out.step hb4
      have hM5 : MkW w B #[.int .i64 s.op, .int .u8 s.lo, .int .u8 s.hi, .string s.text, .slice a s.kids.length cap] v5 (ps ++ [(kb, sk.re)]) W5 := by
        refine ⟨hO5, fun p hp => ?_, hM4.box.below hB5 (by omega), hM4.below.trans (hB5.mono (by omega))⟩
        rcases List.mem_append.1 hp with hp | hp
        · exact hk5 _ _ (hM4.elem p hp)
        · simp at hp; subst hp; exact hk5 _ _ (hkr.keep hb4)
      have HR5 := hide (hk5 _ _ (HR3.out.keep hb4))
      obtain ⟨g3, cp3, rfl⟩ := hO5.slice
      obtain ⟨g2, cp2, hu⟩ := HM.out.own.slice
      subst hu
      have HM5 := hide hM5
      unfold PT at hr5 ⊢
      clear hkr hb3 hb4 hM4 hM5 hO5 hB5 hk5 HMK HM2 HR2 HM3 HR3 HC2 HT2 y0 y1 y2 y3 y4
      go_wp2_with (refine wpList_append_run rfl _ _ _ rfl _ _ _ rfl rfl hr5 ?_)
      refine ⟨⟨k + 1, ps ++ [(kb, sk.re)], by omega, by go_num, ?_, ?_, ?_, ?_, HR5⟩, by simp [intOf]; omega⟩
      · show (ps ++ [_]).length = k + 1
        rw [List.length_append, HLn.out]; rfl
      · show (ps ++ [_]).map Prod.snd = _
        rw [HTK.out, List.map_append, List.map_append, HS.out]; rfl
      · show ∀ x ∈ l.take (k + 1), _
        rw [HTK.out]
        intro x hx
        rcases List.mem_append.1 hx with hx | hx
        · exact HF.out x hx
        · simp at hx; subst hx; exact ⟨htx2, hnd2⟩
      · have h3 := HM5.out
        rw [show (ps ++ [(kb, sk.re)]).length = ps.length + 1 from by simp] at h3
        exact h3
    · obtain rfl : k = l.length := by omega
      rw [List.take_length] at HS HF
      clear g1
      have hlp := HLn.out
      have hrow := (HM.out.own.row (by omega)).res HM.out.elem
      rw [HS.out] at hrow
      have HROW := hide hrow
      have hwfl : ∀ x ∈ l.map SHP.re, Wf x := fun r hr => by
        obtain ⟨x, -, rfl⟩ := List.mem_map.1 hr
        exact x.wf
      have hcl := cntL_shapes l HF.out
      obtain ⟨q1, q2, q3, q4⟩ := cnt_bounds (l := l.map SHP.re) (by omega)
      have hsB : B ≤ wr.heap.size := by have := HM.out.box.lt; omega
      obtain ⟨g2, cp2, hu⟩ := HM.out.own.slice
      rw [hlp] at hu
      subst hu
      have HB5 := hide HM.out.below
      have HWL := hide hwfl
      have HQ := hide (show (l.map SHP.re).length ≤ 1099511627776 ∧ (catL (l.map SHP.re)).length ≤ 1099511627776 ∧ (flatL 4 (l.map SHP.re)).length ≤ 1099511627776 ∧ (flatL 6 (l.map SHP.re)).length ≤ 1099511627776 from ⟨q1, q2, q3, q4⟩)
      have HTW := hide hTW
      have c0 := HRr.out.cell0
      obtain ⟨L, hL⟩ : ∃ L, L = l.map SHP.re := ⟨_, rfl⟩
      have hLl : L.length = l.length := by rw [hL]; simp
      rw [← hL] at HROW HWL HQ
      clear hrow hlp HLn HS HF hwfl hcl q1 q2 q3 q4 hTW HM hL
      by_cases e3 : r.op = 3
      · have f3 : ((r.op : Int) == 3) = true := by simp [e3]
        have HX := hide (show rWith r L = rThen L from by unfold rWith; rw [if_pos e3])
        clear e3
        have hcl := then_any L _ wr HROW.out HWL.out HQ.out.1 HQ.out.2.1
        have HCL := hide hcl
        clear hcl
        go_wp2_with fail
        refine HCL.out.mono ?_
        clear HCL
        rintro e w7 ⟨wb, rfl, hw7, hb7⟩
        have HWANT : Hid (ReAt w7 wb (rWith r L)) := by show ReAt _ _ _; rw [HX.out]; exact hw7
        have HRW := hide (HRr.out.keep hb7)
        have HLW := hide (HROW.out.below hb7)
        have HTT := hide (HTW.out.agree (Agree.of_all (K := fun _ => True) hb7) trivial)
        have HBW := hide (HB5.out.trans (hb7.mono hsB))
        have d0 := HRW.out.cell0
        clear hw7 hb7 HX c0 HRr HROW HTW HB5
        have hwi := with_any rb r L _ w7 HRW.out HLW.out HWL.out HQ.out.1 HQ.out.2.1 HQ.out.2.2.1 HQ.out.2.2.2 HTT.out
        have HWI := hide hwi
        clear hwi
        unfold PT at HWI ⊢
        go_wp2_with fail
        refine HWI.out.mono ?_
        rintro e w8 ⟨xb, rfl, hx8, hb8⟩
        have hsm := same_re (rWith r L) (rWith r L) xb wb w8 (wf_with HWF.out HWL.out).k (wf_with HWF.out HWL.out).k hx8 (HWANT.out.keep hb8) (HTT.out.agree (Agree.of_all (K := fun _ => True) hb8) trivial)
        rw [lexN_self] at hsm
        have HSM := hide hsm
        have HB8 := hide (HBW.out.trans (hb8.mono (by rw [HB.out]; exact HBW.out.size)))
        clear hsm hx8 hb8 HWI
        go_wp2_with fail
        refine HSM.out.mono ?_
        rintro e w9 ⟨rfl, hm9⟩
        have HB9 := hide (HB8.out.trans (hm9.below.mono (by rw [HB.out]; exact HB8.out.size)))
        clear hm9 HSM
        go_wp2
        go_ret
        exact ⟨rfl, HB.out ▸ HB9.out⟩
      · have f3 : ((r.op : Int) == 3) = false := beq_eq_false_iff_ne.2 (by omega)
        by_cases e4 : r.op = 4
        · have f4 : ((r.op : Int) == 4) = true := by simp [e4]
          have HX := hide (show rWith r L = rAny L from by unfold rWith; rw [if_neg e3, if_pos e4])
          clear e3 e4
          have hcl := any_re L _ wr HROW.out HWL.out HQ.out.1 HQ.out.2.2.1 HTW.out
          have HCL := hide hcl
          clear hcl
          go_wp2_with fail
          refine HCL.out.mono ?_
          clear HCL
          rintro e w7 ⟨wb, rfl, hw7, hb7⟩
          have HWANT : Hid (ReAt w7 wb (rWith r L)) := by show ReAt _ _ _; rw [HX.out]; exact hw7
          have HRW := hide (HRr.out.keep hb7)
          have HLW := hide (HROW.out.below hb7)
          have HTT := hide (HTW.out.agree (Agree.of_all (K := fun _ => True) hb7) trivial)
          have HBW := hide (HB5.out.trans (hb7.mono hsB))
          have d0 := HRW.out.cell0
          clear hw7 hb7 HX c0 HRr HROW HTW HB5
          have hwi := with_any rb r L _ w7 HRW.out HLW.out HWL.out HQ.out.1 HQ.out.2.1 HQ.out.2.2.1 HQ.out.2.2.2 HTT.out
          have HWI := hide hwi
          clear hwi
          unfold PT at HWI ⊢
          go_wp2_with fail
          refine HWI.out.mono ?_
          rintro e w8 ⟨xb, rfl, hx8, hb8⟩
          have hsm := same_re (rWith r L) (rWith r L) xb wb w8 (wf_with HWF.out HWL.out).k (wf_with HWF.out HWL.out).k hx8 (HWANT.out.keep hb8) (HTT.out.agree (Agree.of_all (K := fun _ => True) hb8) trivial)
          rw [lexN_self] at hsm
          have HSM := hide hsm
          have HB8 := hide (HBW.out.trans (hb8.mono (by rw [HB.out]; exact HBW.out.size)))
          clear hsm hx8 hb8 HWI
          go_wp2_with fail
          refine HSM.out.mono ?_
          rintro e w9 ⟨rfl, hm9⟩
          have HB9 := hide (HB8.out.trans (hm9.below.mono (by rw [HB.out]; exact HB8.out.size)))
          clear hm9 HSM
          go_wp2
          go_ret
          exact ⟨rfl, HB.out ▸ HB9.out⟩
        · have f4 : ((r.op : Int) == 4) = false := beq_eq_false_iff_ne.2 (by omega)
          by_cases e6 : r.op = 6
          · have f6 : ((r.op : Int) == 6) = true := by simp [e6]
            have HX := hide (show rWith r L = rBoth L from by unfold rWith; rw [if_neg e3, if_neg e4, if_pos e6])
            clear e3 e4 e6
            have hcl := both_re L _ wr HROW.out HWL.out HQ.out.1 HQ.out.2.2.2 HTW.out
            have HCL := hide hcl
            clear hcl
            go_wp2_with fail
            refine HCL.out.mono ?_
            clear HCL
            rintro e w7 ⟨wb, rfl, hw7, hb7⟩
            have HWANT : Hid (ReAt w7 wb (rWith r L)) := by show ReAt _ _ _; rw [HX.out]; exact hw7
            have HRW := hide (HRr.out.keep hb7)
            have HLW := hide (HROW.out.below hb7)
            have HTT := hide (HTW.out.agree (Agree.of_all (K := fun _ => True) hb7) trivial)
            have HBW := hide (HB5.out.trans (hb7.mono hsB))
            have d0 := HRW.out.cell0
            clear hw7 hb7 HX c0 HRr HROW HTW HB5
            have hwi := with_any rb r L _ w7 HRW.out HLW.out HWL.out HQ.out.1 HQ.out.2.1 HQ.out.2.2.1 HQ.out.2.2.2 HTT.out
            have HWI := hide hwi
            clear hwi
            unfold PT at HWI ⊢
            go_wp2_with fail
            refine HWI.out.mono ?_
            rintro e w8 ⟨xb, rfl, hx8, hb8⟩
            have hsm := same_re (rWith r L) (rWith r L) xb wb w8 (wf_with HWF.out HWL.out).k (wf_with HWF.out HWL.out).k hx8 (HWANT.out.keep hb8) (HTT.out.agree (Agree.of_all (K := fun _ => True) hb8) trivial)
            rw [lexN_self] at hsm
            have HSM := hide hsm
            have HB8 := hide (HBW.out.trans (hb8.mono (by rw [HB.out]; exact HBW.out.size)))
            clear hsm hx8 hb8 HWI
            go_wp2_with fail
            refine HSM.out.mono ?_
            rintro e w9 ⟨rfl, hm9⟩
            have HB9 := hide (HB8.out.trans (hm9.below.mono (by rw [HB.out]; exact HB8.out.size)))
            clear hm9 HSM
            go_wp2
            go_ret
            exact ⟨rfl, HB.out ▸ HB9.out⟩
          · have f6 : ((r.op : Int) == 6) = false := beq_eq_false_iff_ne.2 (by omega)
            by_cases e5 : r.op = 5 ∧ l.length = 1
            · have f5 : ((r.op : Int) == 5) = true := by simp [e5.1]
              have f5' : ((l.length : Int) == 1) = true := by simp [e5.2]
              have hl1 := e5.2
              have HX := hide (show rWith r L = rMany (L.getD 0 rNothing) from by unfold rWith; rw [if_neg e3, if_neg e4, if_neg e6, if_pos ⟨e5.1, by omega⟩])
              obtain ⟨-, aq, cq, eq, gq⟩ := HROW.out.at
              obtain ⟨qb, qo, p0, qe, -, d0', r0⟩ := gq 0 (by omega)
              have hqq : qb = g2 ∧ qo = 0 := by injection eq with e1 e2 e3; rw [← e1] at qe; injection qe with qe; injection qe with q1 q2; exact ⟨q1.symm, q2.symm⟩
              obtain ⟨rfl, rfl⟩ := hqq
              have hg0 : L.getD 0 rNothing = L[0]'(by omega) := by rw [List.getD_eq_getElem?_getD, List.getElem?_eq_getElem (by omega)]; rfl
              have H0 : Hid (ReAt wr p0 (L.getD 0 rNothing)) := by show ReAt _ _ _; rw [hg0]; exact r0
              unfold PT at d0'
              rw [Nat.add_zero] at d0'
              have hl0 : 0 < l.length := by omega
              have HL1 := hide hl1
              clear e3 e4 e6 e5 eq gq qe r0 hg0 hl1
              go_wp2_with fail
              refine (many_any p0 _ _ H0.out).mono ?_
              clear H0 d0'
              rintro e w7 ⟨wb, rfl, hw7, hb7⟩
              have HWANT : Hid (ReAt w7 wb (rWith r L)) := by show ReAt _ _ _; rw [HX.out]; exact hw7
              have HRW := hide (HRr.out.keep hb7)
              have HLW := hide (HROW.out.below hb7)
              have HTT := hide (HTW.out.agree (Agree.of_all (K := fun _ => True) hb7) trivial)
              have HBW := hide (HB5.out.trans (hb7.mono hsB))
              have d0 := HRW.out.cell0
              clear hw7 hb7 HX c0 HRr HROW HTW HB5
              have hwi := with_any rb r L _ w7 HRW.out HLW.out HWL.out HQ.out.1 HQ.out.2.1 HQ.out.2.2.1 HQ.out.2.2.2 HTT.out
              have HWI := hide hwi
              clear hwi
              unfold PT at HWI ⊢
              go_wp2_with fail
              refine HWI.out.mono ?_
              rintro e w8 ⟨xb, rfl, hx8, hb8⟩
              have hsm := same_re (rWith r L) (rWith r L) xb wb w8 (wf_with HWF.out HWL.out).k (wf_with HWF.out HWL.out).k hx8 (HWANT.out.keep hb8) (HTT.out.agree (Agree.of_all (K := fun _ => True) hb8) trivial)
              rw [lexN_self] at hsm
              have HSM := hide hsm
              have HB8 := hide (HBW.out.trans (hb8.mono (by rw [HB.out]; exact HBW.out.size)))
              clear hsm hx8 hb8 HWI
              go_wp2_with fail
              refine HSM.out.mono ?_
              rintro e w9 ⟨rfl, hm9⟩
              have HB9 := hide (HB8.out.trans (hm9.below.mono (by rw [HB.out]; exact HB8.out.size)))
              clear hm9 HSM
              go_wp2
              go_ret
              exact ⟨rfl, HB.out ▸ HB9.out⟩
            · by_cases e7 : r.op = 7 ∧ l.length = 2
              · have f5 : ((r.op : Int) == 5) = false := beq_eq_false_iff_ne.2 (by omega)
                have f7 : ((r.op : Int) == 7) = true := by simp [e7.1]
                have f7' : ((l.length : Int) == 2) = true := by simp [e7.2]
                have hl2 := e7.2
                have HX := hide (show rWith r L = rBut (L.getD 0 rNothing) (L.getD 1 rNothing) from by unfold rWith; rw [if_neg e3, if_neg e4, if_neg e6, if_neg (by omega), if_pos ⟨e7.1, by omega⟩])
                obtain ⟨-, aq, cq, eq, gq⟩ := HROW.out.at
                obtain ⟨qb, qo, p0, qe, -, d0', r0⟩ := gq 0 (by omega)
                have hqq : qb = g2 ∧ qo = 0 := by injection eq with e1 e2 e3; rw [← e1] at qe; injection qe with qe; injection qe with q1 q2; exact ⟨q1.symm, q2.symm⟩
                obtain ⟨rfl, rfl⟩ := hqq
                obtain ⟨qb2, qo2, p1, qe2, -, d1', r1⟩ := gq 1 (by omega)
                have hqq2 : qb2 = qb ∧ qo2 = 0 := by rw [qe] at qe2; injection qe2 with qe; injection qe with q1 q2; exact ⟨q1.symm, q2.symm⟩
                obtain ⟨rfl, rfl⟩ := hqq2
                have hg0 : L.getD 0 rNothing = L[0]'(by omega) := by rw [List.getD_eq_getElem?_getD, List.getElem?_eq_getElem (by omega)]; rfl
                have hg1 : L.getD 1 rNothing = L[1]'(by omega) := by rw [List.getD_eq_getElem?_getD, List.getElem?_eq_getElem (by omega)]; rfl
                have H0 : Hid (ReAt wr p0 (L.getD 0 rNothing)) := by show ReAt _ _ _; rw [hg0]; exact r0
                have H1 : Hid (ReAt wr p1 (L.getD 1 rNothing)) := by show ReAt _ _ _; rw [hg1]; exact r1
                have HCA : Hid (∀ W, Below wr.heap.size wr W → W.cell? ⟨qb2, 0 + 0, none⟩ = some (PT p0) ∧ W.cell? ⟨qb2, 0 + 1, none⟩ = some (PT p1)) := fun W hb =>
                  ⟨(World.cell?_of_block (w := wr) (hb.block _ (World.block_lt_of_cell? _ _ d0'))).trans d0', (World.cell?_of_block (w := wr) (hb.block _ (World.block_lt_of_cell? _ _ d1'))).trans d1'⟩
                have hw0 := (wf_getD HWL.out 0).k
                have hw1 := (wf_getD HWL.out 1).k
                clear e3 e4 e6 e5 e7 eq gq qe qe2 r0 r1 hg0 hg1 d0' d1'
                have HL2 := hide hl2
                clear hl2
                go_wp2
                obtain ⟨S, hSd⟩ : ∃ S : World → Prop, S = fun W => Below wr.heap.size wr W := ⟨_, rfl⟩
                have hSb : ∀ W, S W → Below wr.heap.size wr W := fun W h => by rw [hSd] at h; exact h
                have hbS : ∀ W, Below wr.heap.size wr W → S W := fun W h => by rw [hSd]; exact h
                have hS : S { wr with drawn := wr.drawn + 1 } := hbS _ ⟨rfl, rfl, rfl, Nat.le_refl _, fun _ _ => rfl⟩
                clear hSd
                have hlt0 : 0 < l.length := by rw [HL2.out]; omega
                have hlt1 : 1 < l.length := by rw [HL2.out]; omega
                refine wp_region_noPanic (wp_region_held (S := S) (by kernel_rfl) ?_)
                show wpAnyH _ _ _ _ _ 8 #[false, false, false, false, false, false, false, false] _ _
                generalize ({ wr with drawn := wr.drawn + 1 } : World) = W at hS ⊢
                refine h_take 0 (.slice (some ⟨qb2, 0, none⟩) l.length cp2) rfl (by kernel_rfl) (by kernel_rfl) (by kernel_rfl) rfl (fun w hw => x_move _ _ _ _ _ _ _ _ rfl w) hS ?_
                simp only [Act.put, List.setIfInBounds_toArray, List.set_cons_succ, List.set_cons_zero]
                refine h_take 1 (.pointer (some ⟨qb2, 0 + 0, none⟩)) rfl (by kernel_rfl) (by kernel_rfl) (by kernel_rfl) rfl (fun w hw => x_idxP _ _ _ _ _ _ _ _ qb2 0 l.length cp2 0 rfl rfl hlt0 w) hS ?_
                simp only [Act.put, List.setIfInBounds_toArray, List.set_cons_succ, List.set_cons_zero]
                refine h_take 2 (PT p0) rfl (by kernel_rfl) (by kernel_rfl) (by kernel_rfl) rfl (fun w hw => x_loadP _ _ _ _ _ _ _ _ _ _ rfl w (HCA.out w (hSb w hw)).1) hS ?_
                simp only [Act.put, List.setIfInBounds_toArray, List.set_cons_succ, List.set_cons_zero]
                refine h_take 3 (.slice (some ⟨qb2, 0, none⟩) l.length cp2) rfl (by kernel_rfl) (by kernel_rfl) (by kernel_rfl) rfl (fun w hw => x_move _ _ _ _ _ _ _ _ rfl w) hS ?_
                simp only [Act.put, List.setIfInBounds_toArray, List.set_cons_succ, List.set_cons_zero]
                refine h_take 4 (.pointer (some ⟨qb2, 0 + 1, none⟩)) rfl (by kernel_rfl) (by kernel_rfl) (by kernel_rfl) rfl (fun w hw => x_idxP _ _ _ _ _ _ _ _ qb2 0 l.length cp2 1 rfl rfl hlt1 w) hS ?_
                simp only [Act.put, List.setIfInBounds_toArray, List.set_cons_succ, List.set_cons_zero]
                refine h_take 5 (PT p1) rfl (by kernel_rfl) (by kernel_rfl) (by kernel_rfl) rfl (fun w hw => x_loadP _ _ _ _ _ _ _ _ _ _ rfl w (HCA.out w (hSb w hw)).2) hS ?_
                simp only [Act.put, List.setIfInBounds_toArray, List.set_cons_succ, List.set_cons_zero]
                refine h_callE 6 52 #[PT p0, PT p1] (fun v w' => ∃ c, v = PT c ∧ ReAt w' c (rBut (L.getD 0 rNothing) (L.getD 1 rNothing)) ∧ Below wr.heap.size wr w') rfl (by kernel_rfl) rfl (x_call2 _ _ _ _ _ _ _ _ _ _ _ _ _ rfl rfl rfl (enters_of Tryd.func52 (by kernel_rfl) rfl) _) ((but_any p0 p1 _ _ W (H0.out.keep (hSb _ hS)) (H1.out.keep (hSb _ hS)) hw0 hw1 (HTW.out.agree (Agree.of_all (K := fun _ => True) (hSb _ hS)) trivial)).mono fun e w' ⟨c, h1, h2, h3⟩ => ⟨_, h1, c, rfl, h2, (hSb _ hS).trans (h3.mono (hSb _ hS).size)⟩) (fun v w' ⟨c, _, _, h⟩ => hbS _ h) ?_
                rintro v4 w7 ⟨wb, rfl, hw7, hb7⟩
                simp only [Act.put, List.setIfInBounds_toArray, List.set_cons_succ, List.set_cons_zero]
                have hS4 := hbS _ hb7
                refine h_take 7 (PT wb) rfl (by kernel_rfl) (by kernel_rfl) (by kernel_rfl) rfl (fun w hw => x_assign _ _ _ _ _ _ _ _ rfl w) hS4 ?_
                simp only [Act.put, List.setIfInBounds_toArray, List.set_cons_succ, List.set_cons_zero]
                refine wpAnyH_done (by kernel_rfl) ?_ _
                refine NoPanic.normal ?_
                have HWANT : Hid (ReAt w7 wb (rWith r L)) := by show ReAt _ _ _; rw [HX.out]; exact hw7
                have HRW := hide (HRr.out.keep hb7)
                have HLW := hide (HROW.out.below hb7)
                have HTT := hide (HTW.out.agree (Agree.of_all (K := fun _ => True) hb7) trivial)
                have HBW := hide (HB5.out.trans (hb7.mono hsB))
                clear hw7 hb7 HX c0 HRr HROW HTW HB5 hS hS4 hSb hbS HCA H0 H1 hw0 hw1
                have hwi := with_any rb r L _ w7 HRW.out HLW.out HWL.out HQ.out.1 HQ.out.2.1 HQ.out.2.2.1 HQ.out.2.2.2 HTT.out
                have HWI := hide hwi
                clear hwi
                unfold PT at HWI ⊢
                go_wp2_with fail
                refine HWI.out.mono ?_
                rintro e w8 ⟨xb, rfl, hx8, hb8⟩
                have hsm := same_re (rWith r L) (rWith r L) xb wb w8 (wf_with HWF.out HWL.out).k (wf_with HWF.out HWL.out).k hx8 (HWANT.out.keep hb8) (HTT.out.agree (Agree.of_all (K := fun _ => True) hb8) trivial)
                rw [lexN_self] at hsm
                have HSM := hide hsm
                have HB8 := hide (HBW.out.trans (hb8.mono (by rw [HB.out]; exact HBW.out.size)))
                clear hsm hx8 hb8 HWI
                go_wp2_with fail
                refine HSM.out.mono ?_
                rintro e w9 ⟨rfl, hm9⟩
                have HB9 := hide (HB8.out.trans (hm9.below.mono (by rw [HB.out]; exact HB8.out.size)))
                clear hm9 HSM
                go_wp2
                go_ret
                exact ⟨rfl, HB.out ▸ HB9.out⟩
              · have HX := hide (show rWith r L = r from by unfold rWith; rw [if_neg e3, if_neg e4, if_neg e6, if_neg (by rw [hLl]; exact e5), if_neg (by rw [hLl]; exact e7)])
                have hgo : ∀ (P : Prop), (((r.op : Int) == 5) = true → ((l.length : Int) == 1) = false → ((r.op : Int) == 7) = false → P) → (((r.op : Int) == 5) = false → ((r.op : Int) == 7) = true → ((l.length : Int) == 2) = false → P) → (((r.op : Int) == 5) = false → ((r.op : Int) == 7) = false → P) → P := fun P h1 h2 h3 => by
                  by_cases e : r.op = 5
                  · exact h1 (by simp [e]) (beq_eq_false_iff_ne.2 (by omega)) (beq_eq_false_iff_ne.2 (by omega))
                  · by_cases e' : r.op = 7
                    · exact h2 (beq_eq_false_iff_ne.2 (by omega)) (by simp [e']) (beq_eq_false_iff_ne.2 (by omega))
                    · exact h3 (beq_eq_false_iff_ne.2 (by omega)) (beq_eq_false_iff_ne.2 (by omega))
                clear e3 e4 e6 e5 e7
                have HWANT : Hid (ReAt wr rb (rWith r L)) := by show ReAt _ _ _; rw [HX.out]; exact HRr.out
                have HRW := HRr
                have HLW := HROW
                have HTT := HTW
                have HBW := HB5
                clear HX HRr HROW HTW HB5
                refine hgo _ (fun f5 f5' f7 => ?_) (fun f5 f7 f7' => ?_) (fun f5 f7 => ?_)
                · clear hgo
                  have hwi := with_any rb r L _ wr HRW.out HLW.out HWL.out HQ.out.1 HQ.out.2.1 HQ.out.2.2.1 HQ.out.2.2.2 HTT.out
                  have HWI := hide hwi
                  clear hwi
                  unfold PT at HWI
                  go_wp2_with fail
                  refine HWI.out.mono ?_
                  rintro e w8 ⟨xb, rfl, hx8, hb8⟩
                  have hsm := same_re (rWith r L) (rWith r L) xb rb w8 (wf_with HWF.out HWL.out).k (wf_with HWF.out HWL.out).k hx8 (HWANT.out.keep hb8) (HTT.out.agree (Agree.of_all (K := fun _ => True) hb8) trivial)
                  rw [lexN_self] at hsm
                  have HSM := hide hsm
                  have HB8 := hide (HBW.out.trans (hb8.mono (by rw [HB.out]; exact HBW.out.size)))
                  clear hsm hx8 hb8 HWI
                  go_wp2_with fail
                  refine HSM.out.mono ?_
                  rintro e w9 ⟨rfl, hm9⟩
                  have HB9 := hide (HB8.out.trans (hm9.below.mono (by rw [HB.out]; exact HB8.out.size)))
                  clear hm9 HSM
                  go_wp2
                  go_ret
                  exact ⟨rfl, HB.out ▸ HB9.out⟩
                · clear hgo
                  have hwi := with_any rb r L _ wr HRW.out HLW.out HWL.out HQ.out.1 HQ.out.2.1 HQ.out.2.2.1 HQ.out.2.2.2 HTT.out
                  have HWI := hide hwi
                  clear hwi
                  unfold PT at HWI
                  go_wp2_with fail
                  refine HWI.out.mono ?_
                  rintro e w8 ⟨xb, rfl, hx8, hb8⟩
                  have hsm := same_re (rWith r L) (rWith r L) xb rb w8 (wf_with HWF.out HWL.out).k (wf_with HWF.out HWL.out).k hx8 (HWANT.out.keep hb8) (HTT.out.agree (Agree.of_all (K := fun _ => True) hb8) trivial)
                  rw [lexN_self] at hsm
                  have HSM := hide hsm
                  have HB8 := hide (HBW.out.trans (hb8.mono (by rw [HB.out]; exact HBW.out.size)))
                  clear hsm hx8 hb8 HWI
                  go_wp2_with fail
                  refine HSM.out.mono ?_
                  rintro e w9 ⟨rfl, hm9⟩
                  have HB9 := hide (HB8.out.trans (hm9.below.mono (by rw [HB.out]; exact HB8.out.size)))
                  clear hm9 HSM
                  go_wp2
                  go_ret
                  exact ⟨rfl, HB.out ▸ HB9.out⟩
                · clear hgo
                  have hwi := with_any rb r L _ wr HRW.out HLW.out HWL.out HQ.out.1 HQ.out.2.1 HQ.out.2.2.1 HQ.out.2.2.2 HTT.out
                  have HWI := hide hwi
                  clear hwi
                  unfold PT at HWI
                  go_wp2_with fail
                  refine HWI.out.mono ?_
                  rintro e w8 ⟨xb, rfl, hx8, hb8⟩
                  have hsm := same_re (rWith r L) (rWith r L) xb rb w8 (wf_with HWF.out HWL.out).k (wf_with HWF.out HWL.out).k hx8 (HWANT.out.keep hb8) (HTT.out.agree (Agree.of_all (K := fun _ => True) hb8) trivial)
                  rw [lexN_self] at hsm
                  have HSM := hide hsm
                  have HB8 := hide (HBW.out.trans (hb8.mono (by rw [HB.out]; exact HBW.out.size)))
                  clear hsm hx8 hb8 HWI
                  go_wp2_with fail
                  refine HSM.out.mono ?_
                  rintro e w9 ⟨rfl, hm9⟩
                  have HB9 := hide (HB8.out.trans (hm9.below.mono (by rw [HB.out]; exact HB8.out.size)))
                  clear hm9 HSM
                  go_wp2
                  go_ret
                  exact ⟨rfl, HB.out ▸ HB9.out⟩
theorem reWiths_all (v v1 : Value) (s : SHP) (l : List SHP) (w : World) (hv : ∃ cs, v = ShVal cs ∧ ShC w cs s) (hl : ShsRow w v1 l) (hT : TabAt w) :
    Calls Tryd.prog 13 #[v, v1] w fun e w' => e = .returned (.bool true) ∧ Below w.heap.size w w' := by
  obtain ⟨cs, rfl, hs⟩ := hv
  exact reWiths_any cs s v1 l w hs hl hT
end Go.Proofs.YtfoamihjmmgnlaaDoor
