/- Texts of this claim put together: AkE. -/
import Derived.Test.YtjcfnmjjkadaeaaGreatDoorJoinAkD
/- Package alike's mark: a state that isn't marked is marked. -/
namespace Go.Proofs.YtjcfnmjjkadaeaaGreatDoor
set_option maxRecDepth 100000
set_option linter.unusedSimpArgs false
set_option linter.unusedVariables false
open Go.RowKit Go.Shelf

set_option maxHeartbeats 4000000 in
theorem mark_any {W : World} {p n : Nat} {f od pl : Nat → Nat} {gs : List (Nat × Nat × Nat)} {ts : List Nat} {o : Nat → Prop} (h : PrtAt W p n f od pl gs ts o) (q : Nat) (hq : q < n) {a m b : Nat} (hx : gs[f q]? = some (a, m, b)) (hmn : m < n) (hom : od m < n) (hpq : pl q < n) (htl : ts.length ≤ 1000000) (hn5 : n ≤ 1000000) :
    Calls Tryz.prog 93 #[PT p, .int .i64 q] W fun e w' => e = .returned (.tuple #[]) ∧ ∃ o', PrtAt w' p n f (updN (updN od (pl q) (od m)) m q) (updN (updN pl (od m) (pl q)) q m) (gs.set (f q) (a, m + 1, b)) (if m = a then ts ++ [f q] else ts) o' ∧ Kp W o w' o' := by
  obtain ⟨bf, bo, bp, vg, vt, he, rfl⟩ := h.ex
  obtain ⟨k, hk⟩ : ∃ k, f q = k := ⟨_, rfl⟩
  rw [hk] at hx ⊢
  have hkl : k < gs.length := (List.getElem?_eq_some_iff.1 hx).1
  obtain ⟨gb, gcap, rfl, hgb, -, -, hcell⟩ := he.og.cell (by omega)
  obtain ⟨L, hL⟩ : ∃ L, gs.length = L := ⟨_, rfl⟩
  have g0 := hcell k _ hx 0 (by decide); have g1 := hcell k _ hx 1 (by decide)
  rw [hL] at he ⊢
  have hkL : k < L := by omega
  have hfq : W.cell? ⟨bf, q, none⟩ = some (.int .i64 k) := by rw [he.kf.cI hq, hk]
  have HE := hide he
  have HX := hide hx
  have HLL := hide hL
  -- what is read in all the worlds of a region that only reads
  obtain ⟨C, hC⟩ : ∃ C : World → Prop, C = fun X => Below W.heap.size W X := ⟨_, rfl⟩
  have hcb : ∀ X, C X → Below W.heap.size W X := fun X h => by rw [hC] at h; exact h
  have hbC : ∀ X, Below W.heap.size W X → C X := fun X h => by rw [hC]; exact h
  have hcc : ∀ X, C X → ∀ ad u, W.cell? ad = some u → X.cell? ad = some u := fun X hX ad u hu => (World.cell?_of_block (w := W) ((hcb X hX).block ad.block (World.block_lt_of_cell? _ _ hu))).trans hu
  have HCB := hide hcb
  have HBC := hide hbC
  have HR : Hid (∀ X, C X → X.cell? ⟨p, 3, none⟩ = some (.slice (some ⟨gb, 0, none⟩) L gcap) ∧ X.cell? ⟨p, 0, none⟩ = some (.slice (some ⟨bf, 0, none⟩) n n) ∧ X.cell? ⟨bf, q, none⟩ = some (.int .i64 k)) := fun X hX => ⟨hcc X hX _ _ he.c.2.2.2.1, hcc X hX _ _ he.c.1, hcc X hX _ _ hfq⟩
  have HC0 : Hid (C { W with drawn := W.drawn + 1 }) := hbC _ ⟨rfl, rfl, rfl, Nat.le_refl _, fun _ _ => rfl⟩
  have HG : Hid (W.cell? ⟨gb, k * 3, none⟩ = some (.int .i64 a) ∧ W.cell? ⟨gb, k * 3 + 1, none⟩ = some (.int .i64 m)) := ⟨g0, g1⟩
  obtain ⟨tr, htr⟩ : ∃ tr, tr = (if m = a then ts ++ [k] else ts) := ⟨_, rfl⟩
  rw [← htr]
  have HTR := hide htr
  clear h he hcell g0 g1 hL hfq hcc hcb hbC hC htr
  go_enter Tryz.func93, Tryz.ntmps93
  go_wp2
  try rw [show Value.pointer (some ⟨p, 0, none⟩) = PT p from rfl]
  refine w_lit (C := C) (by kernel_rfl) (by kernel_rfl) HC0.out ?_
  have hr := HR.out
  refine w_value (PT p) (by kernel_rfl) (fun w hw => x_move _ _ _ _ _ _ _ _ rfl w) ?_
  simp only [Act.put, List.setIfInBounds_toArray, List.set_cons_succ, List.set_cons_zero]
  refine w_value (PT p) (by kernel_rfl) (fun w hw => x_nilCheck _ _ _ _ _ _ _ _ rfl w) ?_
  simp only [Act.put, List.setIfInBounds_toArray, List.set_cons_succ, List.set_cons_zero]
  refine w_value (.pointer (some ⟨p, 3, none⟩)) (by kernel_rfl) (fun w hw => x_akF3 _ _ _ _ _ _ _ p rfl w) ?_
  simp only [Act.put, List.setIfInBounds_toArray, List.set_cons_succ, List.set_cons_zero]
  refine w_value (.slice (some ⟨gb, 0, none⟩) L gcap) (by kernel_rfl) (fun w hw => x_ldGs _ _ _ _ _ _ _ p 3 (.slice (some ⟨gb, 0, none⟩) L gcap) rfl w ((hr w hw).1)) ?_
  simp only [Act.put, List.setIfInBounds_toArray, List.set_cons_succ, List.set_cons_zero]
  refine w_value (PT p) (by kernel_rfl) (fun w hw => x_move _ _ _ _ _ _ _ _ rfl w) ?_
  simp only [Act.put, List.setIfInBounds_toArray, List.set_cons_succ, List.set_cons_zero]
  refine w_value (PT p) (by kernel_rfl) (fun w hw => x_nilCheck _ _ _ _ _ _ _ _ rfl w) ?_
  simp only [Act.put, List.setIfInBounds_toArray, List.set_cons_succ, List.set_cons_zero]
  refine w_value (PT p) (by kernel_rfl) (fun w hw => x_akF0 _ _ _ _ _ _ _ p rfl w) ?_
  simp only [Act.put, List.setIfInBounds_toArray, List.set_cons_succ, List.set_cons_zero]
  refine w_value (.slice (some ⟨bf, 0, none⟩) n n) (by kernel_rfl) (fun w hw => x_ldIs _ _ _ _ _ _ _ p 0 (.slice (some ⟨bf, 0, none⟩) n n) rfl w ((hr w hw).2.1)) ?_
  simp only [Act.put, List.setIfInBounds_toArray, List.set_cons_succ, List.set_cons_zero]
  refine w_value (.int .i64 q) (by kernel_rfl) (fun w hw => x_move _ _ _ _ _ _ _ _ rfl w) ?_
  simp only [Act.put, List.setIfInBounds_toArray, List.set_cons_succ, List.set_cons_zero]
  refine w_value (.pointer (some ⟨bf, q, none⟩)) (by kernel_rfl) (fun w hw => x_iIdx _ _ _ _ _ _ _ _ bf q n n (hq) rfl rfl w) ?_
  simp only [Act.put, List.setIfInBounds_toArray, List.set_cons_succ, List.set_cons_zero]
  refine w_value (.int .i64 k) (by kernel_rfl) (fun w hw => x_ldI _ _ _ _ _ _ _ bf q k rfl w ((hr w hw).2.2)) ?_
  simp only [Act.put, List.setIfInBounds_toArray, List.set_cons_succ, List.set_cons_zero]
  refine w_value (.pointer (some ⟨gb, k * 3, none⟩)) (by kernel_rfl) (fun w hw => x_gIdx _ _ _ _ _ _ _ _ gb k L gcap (hkL) rfl rfl w) ?_
  simp only [Act.put, List.setIfInBounds_toArray, List.set_cons_succ, List.set_cons_zero]
  refine w_value (.pointer (some ⟨gb, k * 3, none⟩)) (by kernel_rfl) (fun w hw => x_assign _ _ _ _ _ _ _ _ rfl w) ?_
  simp only [Act.put, List.setIfInBounds_toArray, List.set_cons_succ, List.set_cons_zero]
  refine w_nil ?_
  intro X hX
  have hXW := HCB.out X hX
  have HE1 := hide (HE.out.keep hXW)
  have HK1 := hide (Kp.of (o := ownP p bf bo bp (.slice (some ⟨gb, 0, none⟩) L gcap) vt) hXW)
  have HG1 : Hid (X.cell? ⟨gb, k * 3, none⟩ = some (.int .i64 a) ∧ X.cell? ⟨gb, k * 3 + 1, none⟩ = some (.int .i64 m)) := ⟨(World.cell?_of_block (w := W) (hXW.block gb hgb)).trans HG.out.1, (World.cell?_of_block (w := W) (hXW.block gb hgb)).trans HG.out.2⟩
  have hgb1 : gb < X.heap.size := Nat.lt_of_lt_of_le hgb hXW.size
  clear hr hXW hX HR HC0 HCB HBC HG hgb
  -- the second region
  obtain ⟨D, hD⟩ : ∃ D : World → Prop, D = fun Y => Below X.heap.size X Y := ⟨_, rfl⟩
  have hdb : ∀ Y, D Y → Below X.heap.size X Y := fun Y h => by rw [hD] at h; exact h
  have HDB := hide hdb
  have HR1 : Hid (∀ Y, D Y → Y.cell? ⟨gb, k * 3, none⟩ = some (.int .i64 a) ∧ Y.cell? ⟨gb, k * 3 + 1, none⟩ = some (.int .i64 m)) := fun Y hY => ⟨(World.cell?_of_block (w := X) ((hdb Y hY).block gb hgb1)).trans HG1.out.1, (World.cell?_of_block (w := X) ((hdb Y hY).block gb hgb1)).trans HG1.out.2⟩
  have HD0 : Hid (D { X with drawn := X.drawn + 1 }) := by rw [hD]; exact ⟨rfl, rfl, rfl, Nat.le_refl _, fun _ _ => rfl⟩
  clear hdb hD
  obtain ⟨eq, heq⟩ : ∃ eq : Bool, eq = decide (m = a) := ⟨_, rfl⟩
  have hee : ((m : Int) == (a : Int)) = eq := by
    rw [heq, Bool.eq_iff_iff, beq_iff_eq, decide_eq_true_iff]; omega
  have HQE := hide heq
  have HEE := hide hee
  clear heq hee
  go_wp2
  refine w_lit (C := D) (by kernel_rfl) (by kernel_rfl) HD0.out ?_
  have hr := HR1.out
  refine w_value (.pointer (some ⟨gb, k * 3, none⟩)) (by kernel_rfl) (fun w hw => x_move _ _ _ _ _ _ _ _ rfl w) ?_
  simp only [Act.put, List.setIfInBounds_toArray, List.set_cons_succ, List.set_cons_zero]
  refine w_value (.pointer (some ⟨gb, k * 3, none⟩)) (by kernel_rfl) (fun w hw => x_nilP _ _ _ _ _ _ _ gb (k * 3) rfl w) ?_
  simp only [Act.put, List.setIfInBounds_toArray, List.set_cons_succ, List.set_cons_zero]
  refine w_value (.pointer (some ⟨gb, k * 3 + 1, none⟩)) (by kernel_rfl) (fun w hw => x_gF1 _ _ _ _ _ _ _ gb (k * 3) rfl w) ?_
  simp only [Act.put, List.setIfInBounds_toArray, List.set_cons_succ, List.set_cons_zero]
  refine w_value (.int .i64 m) (by kernel_rfl) (fun w hw => x_ldI _ _ _ _ _ _ _ gb (k * 3 + 1) m rfl w ((hr w hw).2)) ?_
  simp only [Act.put, List.setIfInBounds_toArray, List.set_cons_succ, List.set_cons_zero]
  refine w_value (.pointer (some ⟨gb, k * 3, none⟩)) (by kernel_rfl) (fun w hw => x_move _ _ _ _ _ _ _ _ rfl w) ?_
  simp only [Act.put, List.setIfInBounds_toArray, List.set_cons_succ, List.set_cons_zero]
  refine w_value (.pointer (some ⟨gb, k * 3, none⟩)) (by kernel_rfl) (fun w hw => x_nilP _ _ _ _ _ _ _ gb (k * 3) rfl w) ?_
  simp only [Act.put, List.setIfInBounds_toArray, List.set_cons_succ, List.set_cons_zero]
  refine w_value (.pointer (some ⟨gb, k * 3, none⟩)) (by kernel_rfl) (fun w hw => x_gF0 _ _ _ _ _ _ _ gb (k * 3) rfl w) ?_
  simp only [Act.put, List.setIfInBounds_toArray, List.set_cons_succ, List.set_cons_zero]
  refine w_value (.int .i64 a) (by kernel_rfl) (fun w hw => x_ldI _ _ _ _ _ _ _ gb (k * 3) a rfl w ((hr w hw).1)) ?_
  simp only [Act.put, List.setIfInBounds_toArray, List.set_cons_succ, List.set_cons_zero]
  refine w_value (.bool eq) (by kernel_rfl) (fun w hw => x_eqIntB _ _ _ _ _ _ _ _ m a eq HEE.out rfl rfl w) ?_
  simp only [Act.put, List.setIfInBounds_toArray, List.set_cons_succ, List.set_cons_zero]
  refine w_nil ?_
  intro Y hY
  have hYX := HDB.out Y hY
  have HE2 := hide (HE1.out.keep hYX)
  have HK2 := hide (HK1.out.trans (Kp.of (o := ownP p bf bo bp (.slice (some ⟨gb, 0, none⟩) L gcap) vt) hYX))
  clear hr hYX hY HR1 HD0 HDB HG1 HE1 HK1 hgb1
  cases eq with
  | false =>
    have hma : m ≠ a := of_decide_eq_false HQE.out.symm
    have HMA := hide hma
    clear hma HQE HEE
    obtain ⟨A, hA⟩ : ∃ A : World → Prop, A = fun U => Below Y.heap.size Y U := ⟨_, rfl⟩
    have hab : ∀ U, A U → Below Y.heap.size Y U := fun U h => by rw [hA] at h; exact h
    have HAB := hide hab
    have HCG := hide (HE2.out.og.cell (by rw [HLL.out]; omega))
    have HRA : Hid (∀ U, A U → U.cell? ⟨p, 1, none⟩ = some (.slice (some ⟨bo, 0, none⟩) n n) ∧ U.cell? ⟨gb, k * 3 + 1, none⟩ = some (.int .i64 m) ∧ U.cell? ⟨bo, m, none⟩ = some (.int .i64 (od m : Nat))) := fun U hU => by
      have hE := HE2.out.keep (hab U hU)
      obtain ⟨g', c', e', -, -, -, hcell⟩ := hE.og.cell (by rw [HLL.out]; omega)
      injection e' with e' _ _
      injection e' with e'
      injection e' with e' _
      subst e'
      exact ⟨hE.c.2.1, hcell k _ HX.out 1 (by decide), hE.ko.cI hmn⟩
    have HA0 : Hid (A { Y with drawn := Y.drawn + 1 }) := by rw [hA]; exact ⟨rfl, rfl, rfl, Nat.le_refl _, fun _ _ => rfl⟩
    clear hab hA HCG
    obtain ⟨om, hom1⟩ : ∃ om, od m = om := ⟨_, rfl⟩
    have HOM := hide hom1
    rw [hom1] at HRA
    have homn : om < n := by rw [← hom1]; exact hom
    clear hom1
    go_wp2
    refine w_lit (C := A) (by kernel_rfl) (by kernel_rfl) HA0.out ?_
    have hr := HRA.out
    refine w_value (PT p) (by kernel_rfl) (fun w hw => x_move _ _ _ _ _ _ _ _ rfl w) ?_
    simp only [Act.put, List.setIfInBounds_toArray, List.set_cons_succ, List.set_cons_zero]
    refine w_value (PT p) (by kernel_rfl) (fun w hw => x_nilCheck _ _ _ _ _ _ _ _ rfl w) ?_
    simp only [Act.put, List.setIfInBounds_toArray, List.set_cons_succ, List.set_cons_zero]
    refine w_value (.pointer (some ⟨p, 1, none⟩)) (by kernel_rfl) (fun w hw => x_akF1 _ _ _ _ _ _ _ p rfl w) ?_
    simp only [Act.put, List.setIfInBounds_toArray, List.set_cons_succ, List.set_cons_zero]
    refine w_value (.slice (some ⟨bo, 0, none⟩) n n) (by kernel_rfl) (fun w hw => x_ldIs _ _ _ _ _ _ _ p 1 (.slice (some ⟨bo, 0, none⟩) n n) rfl w ((hr w hw).1)) ?_
    simp only [Act.put, List.setIfInBounds_toArray, List.set_cons_succ, List.set_cons_zero]
    refine w_value (.pointer (some ⟨gb, k * 3, none⟩)) (by kernel_rfl) (fun w hw => x_move _ _ _ _ _ _ _ _ rfl w) ?_
    simp only [Act.put, List.setIfInBounds_toArray, List.set_cons_succ, List.set_cons_zero]
    refine w_value (.pointer (some ⟨gb, k * 3, none⟩)) (by kernel_rfl) (fun w hw => x_nilP _ _ _ _ _ _ _ gb (k * 3) rfl w) ?_
    simp only [Act.put, List.setIfInBounds_toArray, List.set_cons_succ, List.set_cons_zero]
    refine w_value (.pointer (some ⟨gb, k * 3 + 1, none⟩)) (by kernel_rfl) (fun w hw => x_gF1 _ _ _ _ _ _ _ gb (k * 3) rfl w) ?_
    simp only [Act.put, List.setIfInBounds_toArray, List.set_cons_succ, List.set_cons_zero]
    refine w_value (.int .i64 m) (by kernel_rfl) (fun w hw => x_ldI _ _ _ _ _ _ _ gb (k * 3 + 1) m rfl w ((hr w hw).2.1)) ?_
    simp only [Act.put, List.setIfInBounds_toArray, List.set_cons_succ, List.set_cons_zero]
    refine w_value (.pointer (some ⟨bo, m, none⟩)) (by kernel_rfl) (fun w hw => x_iIdx _ _ _ _ _ _ _ _ bo m n n (hmn) rfl rfl w) ?_
    simp only [Act.put, List.setIfInBounds_toArray, List.set_cons_succ, List.set_cons_zero]
    refine w_value (.int .i64 om) (by kernel_rfl) (fun w hw => x_ldI _ _ _ _ _ _ _ bo m om rfl w ((hr w hw).2.2)) ?_
    simp only [Act.put, List.setIfInBounds_toArray, List.set_cons_succ, List.set_cons_zero]
    refine w_value (.int .i64 om) (by kernel_rfl) (fun w hw => x_assign _ _ _ _ _ _ _ _ rfl w) ?_
    simp only [Act.put, List.setIfInBounds_toArray, List.set_cons_succ, List.set_cons_zero]
    refine w_nil ?_
    intro V hV
    have hVZ := HAB.out V hV
    have HE5 := hide (HE2.out.keep hVZ)
    have HK5 := hide (HK2.out.trans (Kp.of (o := ownP p bf bo bp (.slice (some ⟨gb, 0, none⟩) L gcap) vt) hVZ))
    clear hr hVZ hV HRA HA0 HAB
    have xp2 := HE5.out.c.2.2.1
    have xpq := HE5.out.kp.cI hq
    have HPU := hide (put_any HE5.out om (pl q) homn hpq)
    obtain ⟨pq, hpq1⟩ : ∃ pq, pl q = pq := ⟨_, rfl⟩
    have HPQ := hide hpq1
    rw [hpq1] at xpq HPU
    clear hpq1
    try unfold PT at HPU
    try unfold PT
    go_wp2_with fail
    refine HPU.out.mono ?_
    rintro e v6 ⟨rfl, hE6, hk6⟩
    have HE6 := hide hE6
    have HK6 := hide (HK5.out.trans hk6)
    have HC6 : Hid (v6.cell? ⟨gb, k * 3, none⟩ = some (.int .i64 a) ∧ v6.cell? ⟨gb, k * 3 + 1, none⟩ = some (.int .i64 m)) := by
      obtain ⟨g', c', e', -, -, -, hcell⟩ := hE6.og.cell (by rw [HLL.out]; omega)
      injection e' with e' _ _
      injection e' with e'
      injection e' with e' _
      subst e'
      exact ⟨hcell k _ HX.out 0 (by decide), hcell k _ HX.out 1 (by decide)⟩
    have xg1 := HC6.out.2
    have HPV := hide (put_any hE6 q m hq hmn)
    clear hE6 hk6 HPU xp2 xpq
    try unfold PT at HPV
    try unfold PT
    go_wp2_with fail
    refine HPV.out.mono ?_
    rintro e v7 ⟨rfl, hE7, hk7⟩
    have hg7 := grp_mark hE7.og HX.out (m + 1)
    have HE7 := hide (hE7.setG (by rw [HLL.out]; omega) hg7)
    obtain ⟨cg7, hcg7⟩ := hE7.og.blk (g := gb) rfl
    have fg7 := hcg7.frozen (k * 3 + 1)
    have yg1 : v7.cell? ⟨gb, k * 3 + 1, none⟩ = some (.int .i64 m) := by
      obtain ⟨g', c', e', -, -, -, hcell⟩ := hE7.og.cell (by rw [HLL.out]; omega)
      injection e' with e' _ _
      injection e' with e'
      injection e' with e' _
      subst e'
      exact hcell k _ HX.out 1 (by decide)
    have HK7 := hide ((HK6.out.trans hk7).trans (Kp.set gb (k * 3 + 1) (.int .i64 ((m + 1 : Nat) : Int)) (.inr (.inr (.inr (.inr (.inl rfl)))))))
    clear hE7 hk7 hg7 HPV xg1 hcg7
    have hm1 : ((m + 1 : Nat) : Int) = (m : Int) + 1 := by omega
    rw [hm1] at HE7 HK7
    clear hm1
    try unfold PT
    go_wp2
    exact ⟨rfl, .tuple #[], by simp [results, Tryz.results93, go_sem], rfl, _, ⟨bf, bo, bp, _, _, by rw [HOM.out, HPQ.out, HTR.out, if_neg HMA.out]; exact HE7.out, rfl⟩, HK7.out⟩
  | true =>
    have hma : m = a := of_decide_eq_true HQE.out.symm
    have HMA := hide hma
    clear hma HQE HEE
    have hE2 := HE2.out
    obtain ⟨ta, tc, rfl, -⟩ := hE2.ot.slice
    have hX0 : Below Y.heap.size Y { Y with drawn := Y.drawn + 1 } := ⟨rfl, rfl, rfl, Nat.le_refl _, fun _ _ => rfl⟩
    have HE3 := hide (hE2.keep hX0)
    have HK3 := hide (HK2.out.trans (Kp.of (o := ownP p bf bo bp (.slice (some ⟨gb, 0, none⟩) L gcap) (.slice ta ts.length tc)) hX0))
    clear hE2 HE2 HK2 hX0
    go_wp2
    refine wp_region_noPanic (wp_region_held (S := fun X => X.cell? ⟨p, 0, none⟩ = some (.slice (some ⟨bf, 0, none⟩) n n) ∧ X.cell? ⟨bf, q, none⟩ = some (.int .i64 k)) (by kernel_rfl) ?_)
    show wpAnyH _ _ _ _ _ 17 #[false, false, false, false, false, false, false, false, false, false, false, false, false, false, false, false, false] _ _
    generalize ({ Y with drawn := Y.drawn + 1 } : World) = Z at HE3 HK3 ⊢
    have hE := HE3.out
    have hS : Z.cell? ⟨p, 0, none⟩ = some (.slice (some ⟨bf, 0, none⟩) n n) ∧ Z.cell? ⟨bf, q, none⟩ = some (.int .i64 k) := ⟨hE.c.1, by rw [hE.kf.cI hq, hk]⟩
    refine h_take 0 (PT p) rfl (by kernel_rfl) (by kernel_rfl) (by kernel_rfl) rfl (fun w hw => x_move _ _ _ _ _ _ _ _ rfl w) hS ?_
    simp only [Act.put, List.setIfInBounds_toArray, List.set_cons_succ, List.set_cons_zero]
    refine h_take 1 (PT p) rfl (by kernel_rfl) (by kernel_rfl) (by kernel_rfl) rfl (fun w hw => x_move _ _ _ _ _ _ _ _ rfl w) hS ?_
    simp only [Act.put, List.setIfInBounds_toArray, List.set_cons_succ, List.set_cons_zero]
    refine h_take 2 (PT p) rfl (by kernel_rfl) (by kernel_rfl) (by kernel_rfl) rfl (fun w hw => x_nilCheck _ _ _ _ _ _ _ _ rfl w) hS ?_
    simp only [Act.put, List.setIfInBounds_toArray, List.set_cons_succ, List.set_cons_zero]
    refine h_take 3 (.pointer (some ⟨p, 4, none⟩)) rfl (by kernel_rfl) (by kernel_rfl) (by kernel_rfl) rfl (fun w hw => x_akF4 _ _ _ _ _ _ _ p rfl w) hS ?_
    simp only [Act.put, List.setIfInBounds_toArray, List.set_cons_succ, List.set_cons_zero]
    refine h_take 5 (PT p) rfl (by kernel_rfl) (by kernel_rfl) (by kernel_rfl) rfl (fun w hw => x_move _ _ _ _ _ _ _ _ rfl w) hS ?_
    simp only [Act.put, List.setIfInBounds_toArray, List.set_cons_succ, List.set_cons_zero]
    refine h_take 6 (PT p) rfl (by kernel_rfl) (by kernel_rfl) (by kernel_rfl) rfl (fun w hw => x_nilCheck _ _ _ _ _ _ _ _ rfl w) hS ?_
    simp only [Act.put, List.setIfInBounds_toArray, List.set_cons_succ, List.set_cons_zero]
    refine h_take 7 (PT p) rfl (by kernel_rfl) (by kernel_rfl) (by kernel_rfl) rfl (fun w hw => x_akF0 _ _ _ _ _ _ _ p rfl w) hS ?_
    simp only [Act.put, List.setIfInBounds_toArray, List.set_cons_succ, List.set_cons_zero]
    refine h_take 8 (.slice (some ⟨bf, 0, none⟩) n n) rfl (by kernel_rfl) (by kernel_rfl) (by kernel_rfl) rfl (fun w hw => x_ldIs _ _ _ _ _ _ _ p 0 (.slice (some ⟨bf, 0, none⟩) n n) rfl w (hw.1)) hS ?_
    simp only [Act.put, List.setIfInBounds_toArray, List.set_cons_succ, List.set_cons_zero]
    refine h_take 9 (.int .i64 q) rfl (by kernel_rfl) (by kernel_rfl) (by kernel_rfl) rfl (fun w hw => x_move _ _ _ _ _ _ _ _ rfl w) hS ?_
    simp only [Act.put, List.setIfInBounds_toArray, List.set_cons_succ, List.set_cons_zero]
    refine h_take 10 (.pointer (some ⟨bf, q, none⟩)) rfl (by kernel_rfl) (by kernel_rfl) (by kernel_rfl) rfl (fun w hw => x_iIdx _ _ _ _ _ _ _ _ bf q n n (hq) rfl rfl w) hS ?_
    simp only [Act.put, List.setIfInBounds_toArray, List.set_cons_succ, List.set_cons_zero]
    refine h_take 11 (.int .i64 k) rfl (by kernel_rfl) (by kernel_rfl) (by kernel_rfl) rfl (fun w hw => x_ldI _ _ _ _ _ _ _ bf q k rfl w (hw.2)) hS ?_
    simp only [Act.put, List.setIfInBounds_toArray, List.set_cons_succ, List.set_cons_zero]
    have hc4 := hE.c.2.2.2.2
    obtain ⟨Z1, hZ1⟩ : ∃ Z1, Z.alloc (.cells #[.int .i64 k] 3) = Z1 := ⟨_, rfl⟩
    have hb1 : Below Z.heap.size Z Z1 := by rw [← hZ1]; exact (Below.refl _ _).alloc (Nat.le_refl _) _
    have hk1 : Blk Z1 Z.heap.size #[.int .i64 k] 3 := by rw [← hZ1]; exact Blk.newAt rfl _ _
    have hE1 := hE.keep hb1
    have hS1 : Z1.cell? ⟨p, 0, none⟩ = some (.slice (some ⟨bf, 0, none⟩) n n) ∧ Z1.cell? ⟨bf, q, none⟩ = some (.int .i64 k) := ⟨hE1.c.1, by rw [hE1.kf.cI hq, hk]⟩
    refine h_ldmk 4 12 (.slice ta ts.length tc) (.slice (some ⟨Z.heap.size, 0, none⟩) 1 1) Z1 rfl rfl (by kernel_rfl) (by kernel_rfl) (by kernel_rfl) rfl rfl rfl rfl
      (x_ldIs _ _ _ _ _ _ _ p 4 _ rfl Z hc4) (x_ldIs _ _ _ _ _ _ _ p 4 _ rfl Z1 hE1.c.2.2.2.2) (by rw [← hZ1]; exact x_bsI _ _ _ _ _ _ _ k rfl Z) (by rw [← hZ1]; exact x_bsI _ _ _ _ _ _ _ k rfl Z) hS hS1 rfl rfl ?_
    simp only [Act.put, List.setIfInBounds_toArray, List.set_cons_succ, List.set_cons_zero]
    obtain ⟨vt', W', hr13, ho, ha⟩ := run_appendJ (S := intS) (W := Z1) (v := .slice ta ts.length tc) (l := ts) 36 36 (.int .i64 0) 8 Tryz.underlying36 infoIA rfl (by omega) hE1.ot ⟨Z.heap.size, 0, none⟩ 1 k (fun j u hj => by
      rw [Go.WideShapes.add_plain, Nat.zero_add, hk1.cell, ← hj]
      show _ = ([Value.int .i64 k] : List Value)[j]?
      simp) (by omega)
    obtain ⟨va, vc, hv', -⟩ := ho.slice
    have ht := hE1.touch ha ho
    have hpn := hE1.ot.neT hE1.blk (by decide)
    have hbp : Blk W' p _ 145 := (ha.other p hE1.blk.lt hpn).trans hE1.blk
    have hSof : ∀ U : World, PrtE U p n f od pl gs (ts ++ [k]) bf bo bp (.slice (some ⟨gb, 0, none⟩) L gcap) vt' → U.cell? ⟨p, 0, none⟩ = some (.slice (some ⟨bf, 0, none⟩) n n) ∧ U.cell? ⟨bf, q, none⟩ = some (.int .i64 k) := fun U hU => ⟨hU.c.1, by rw [hU.kf.cI hq, hk]⟩
    have hbf : Blk W' bf _ 3 := (ha.other bf hE1.kf.lt hE1.tf).trans hE1.kf
    have hSW : W'.cell? ⟨p, 0, none⟩ = some (.slice (some ⟨bf, 0, none⟩) n n) ∧ W'.cell? ⟨bf, q, none⟩ = some (.int .i64 k) := ⟨hbp.cell 0, by rw [hbf.cI hq, hk]⟩
    refine h_oper 13 rfl (by kernel_rfl) rfl (wp_append_runX _ _ _ rfl _ _ _ rfl rfl hr13 ⟨hSW, ?_⟩)
    simp only [Act.put, List.setIfInBounds_toArray, List.set_cons_succ, List.set_cons_zero]
    have hS := hSW
    refine h_take 14 (PT p) rfl (by kernel_rfl) (by kernel_rfl) (by kernel_rfl) rfl (fun w hw => x_nilCheck _ _ _ _ _ _ _ _ rfl w) hS ?_
    simp only [Act.put, List.setIfInBounds_toArray, List.set_cons_succ, List.set_cons_zero]
    refine h_take 15 (.pointer (some ⟨p, 4, none⟩)) rfl (by kernel_rfl) (by kernel_rfl) (by kernel_rfl) rfl (fun w hw => x_akF4 _ _ _ _ _ _ _ p rfl w) hS ?_
    simp only [Act.put, List.setIfInBounds_toArray, List.set_cons_succ, List.set_cons_zero]
    refine h_step 16 _ rfl (by kernel_rfl) rfl (x_stIs _ _ _ _ _ _ _ _ p 4 vt' _ va _ vc hv' rfl rfl W' (hbp.cell 4) (hbp.frozen 4)) (hSof _ ht.1) ?_
    simp only [Act.put, List.setIfInBounds_toArray, List.set_cons_succ, List.set_cons_zero]
    refine wpAnyH_done (by kernel_rfl) ?_ _
    refine NoPanic.normal ?_
    have HE4 := hide ht.1
    have HK4 := hide ((HK3.out.trans (Kp.of (o := ownP p bf bo bp (.slice (some ⟨gb, 0, none⟩) L gcap) (.slice ta ts.length tc)) hb1)).trans ht.2)
    generalize W'.setCell ⟨p, 4, none⟩ vt' = Y4 at HE4 HK4 ⊢
    clear hS hE hE1 hS1 hb1 hk1 hc4 hZ1 hr13 ho ha ht hbp hSof hbf hSW hpn HE3 HK3
    obtain ⟨A, hA⟩ : ∃ A : World → Prop, A = fun U => Below Y4.heap.size Y4 U := ⟨_, rfl⟩
    have hab : ∀ U, A U → Below Y4.heap.size Y4 U := fun U h => by rw [hA] at h; exact h
    have HAB := hide hab
    have HCG := hide (HE4.out.og.cell (by rw [HLL.out]; omega))
    have HRA : Hid (∀ U, A U → U.cell? ⟨p, 1, none⟩ = some (.slice (some ⟨bo, 0, none⟩) n n) ∧ U.cell? ⟨gb, k * 3 + 1, none⟩ = some (.int .i64 m) ∧ U.cell? ⟨bo, m, none⟩ = some (.int .i64 (od m : Nat))) := fun U hU => by
      have hE := HE4.out.keep (hab U hU)
      obtain ⟨g', c', e', -, -, -, hcell⟩ := hE.og.cell (by rw [HLL.out]; omega)
      injection e' with e' _ _
      injection e' with e'
      injection e' with e' _
      subst e'
      exact ⟨hE.c.2.1, hcell k _ HX.out 1 (by decide), hE.ko.cI hmn⟩
    have HA0 : Hid (A { Y4 with drawn := Y4.drawn + 1 }) := by rw [hA]; exact ⟨rfl, rfl, rfl, Nat.le_refl _, fun _ _ => rfl⟩
    clear hab hA HCG
    obtain ⟨om, hom1⟩ : ∃ om, od m = om := ⟨_, rfl⟩
    have HOM := hide hom1
    rw [hom1] at HRA
    have homn : om < n := by rw [← hom1]; exact hom
    clear hom1
    go_wp2
    refine w_lit (C := A) (by kernel_rfl) (by kernel_rfl) HA0.out ?_
    have hr := HRA.out
    refine w_value (PT p) (by kernel_rfl) (fun w hw => x_move _ _ _ _ _ _ _ _ rfl w) ?_
    simp only [Act.put, List.setIfInBounds_toArray, List.set_cons_succ, List.set_cons_zero]
    refine w_value (PT p) (by kernel_rfl) (fun w hw => x_nilCheck _ _ _ _ _ _ _ _ rfl w) ?_
    simp only [Act.put, List.setIfInBounds_toArray, List.set_cons_succ, List.set_cons_zero]
    refine w_value (.pointer (some ⟨p, 1, none⟩)) (by kernel_rfl) (fun w hw => x_akF1 _ _ _ _ _ _ _ p rfl w) ?_
    simp only [Act.put, List.setIfInBounds_toArray, List.set_cons_succ, List.set_cons_zero]
    refine w_value (.slice (some ⟨bo, 0, none⟩) n n) (by kernel_rfl) (fun w hw => x_ldIs _ _ _ _ _ _ _ p 1 (.slice (some ⟨bo, 0, none⟩) n n) rfl w ((hr w hw).1)) ?_
    simp only [Act.put, List.setIfInBounds_toArray, List.set_cons_succ, List.set_cons_zero]
    refine w_value (.pointer (some ⟨gb, k * 3, none⟩)) (by kernel_rfl) (fun w hw => x_move _ _ _ _ _ _ _ _ rfl w) ?_
    simp only [Act.put, List.setIfInBounds_toArray, List.set_cons_succ, List.set_cons_zero]
    refine w_value (.pointer (some ⟨gb, k * 3, none⟩)) (by kernel_rfl) (fun w hw => x_nilP _ _ _ _ _ _ _ gb (k * 3) rfl w) ?_
    simp only [Act.put, List.setIfInBounds_toArray, List.set_cons_succ, List.set_cons_zero]
    refine w_value (.pointer (some ⟨gb, k * 3 + 1, none⟩)) (by kernel_rfl) (fun w hw => x_gF1 _ _ _ _ _ _ _ gb (k * 3) rfl w) ?_
    simp only [Act.put, List.setIfInBounds_toArray, List.set_cons_succ, List.set_cons_zero]
    refine w_value (.int .i64 m) (by kernel_rfl) (fun w hw => x_ldI _ _ _ _ _ _ _ gb (k * 3 + 1) m rfl w ((hr w hw).2.1)) ?_
    simp only [Act.put, List.setIfInBounds_toArray, List.set_cons_succ, List.set_cons_zero]
    refine w_value (.pointer (some ⟨bo, m, none⟩)) (by kernel_rfl) (fun w hw => x_iIdx _ _ _ _ _ _ _ _ bo m n n (hmn) rfl rfl w) ?_
    simp only [Act.put, List.setIfInBounds_toArray, List.set_cons_succ, List.set_cons_zero]
    refine w_value (.int .i64 om) (by kernel_rfl) (fun w hw => x_ldI _ _ _ _ _ _ _ bo m om rfl w ((hr w hw).2.2)) ?_
    simp only [Act.put, List.setIfInBounds_toArray, List.set_cons_succ, List.set_cons_zero]
    refine w_value (.int .i64 om) (by kernel_rfl) (fun w hw => x_assign _ _ _ _ _ _ _ _ rfl w) ?_
    simp only [Act.put, List.setIfInBounds_toArray, List.set_cons_succ, List.set_cons_zero]
    refine w_nil ?_
    intro V hV
    have hVZ := HAB.out V hV
    have HE5 := hide (HE4.out.keep hVZ)
    have HK5 := hide (HK4.out.trans (Kp.of (o := ownP p bf bo bp (.slice (some ⟨gb, 0, none⟩) L gcap) vt') hVZ))
    clear hr hVZ hV HRA HA0 HAB
    have xp2 := HE5.out.c.2.2.1
    have xpq := HE5.out.kp.cI hq
    have HPU := hide (put_any HE5.out om (pl q) homn hpq)
    obtain ⟨pq, hpq1⟩ : ∃ pq, pl q = pq := ⟨_, rfl⟩
    have HPQ := hide hpq1
    rw [hpq1] at xpq HPU
    clear hpq1
    try unfold PT at HPU
    try unfold PT
    go_wp2_with fail
    refine HPU.out.mono ?_
    rintro e v6 ⟨rfl, hE6, hk6⟩
    have HE6 := hide hE6
    have HK6 := hide (HK5.out.trans hk6)
    have HC6 : Hid (v6.cell? ⟨gb, k * 3, none⟩ = some (.int .i64 a) ∧ v6.cell? ⟨gb, k * 3 + 1, none⟩ = some (.int .i64 m)) := by
      obtain ⟨g', c', e', -, -, -, hcell⟩ := hE6.og.cell (by rw [HLL.out]; omega)
      injection e' with e' _ _
      injection e' with e'
      injection e' with e' _
      subst e'
      exact ⟨hcell k _ HX.out 0 (by decide), hcell k _ HX.out 1 (by decide)⟩
    have xg1 := HC6.out.2
    have HPV := hide (put_any hE6 q m hq hmn)
    clear hE6 hk6 HPU xp2 xpq
    try unfold PT at HPV
    try unfold PT
    go_wp2_with fail
    refine HPV.out.mono ?_
    rintro e v7 ⟨rfl, hE7, hk7⟩
    have hg7 := grp_mark hE7.og HX.out (m + 1)
    have HE7 := hide (hE7.setG (by rw [HLL.out]; omega) hg7)
    obtain ⟨cg7, hcg7⟩ := hE7.og.blk (g := gb) rfl
    have fg7 := hcg7.frozen (k * 3 + 1)
    have yg1 : v7.cell? ⟨gb, k * 3 + 1, none⟩ = some (.int .i64 m) := by
      obtain ⟨g', c', e', -, -, -, hcell⟩ := hE7.og.cell (by rw [HLL.out]; omega)
      injection e' with e' _ _
      injection e' with e'
      injection e' with e' _
      subst e'
      exact hcell k _ HX.out 1 (by decide)
    have HK7 := hide ((HK6.out.trans hk7).trans (Kp.set gb (k * 3 + 1) (.int .i64 ((m + 1 : Nat) : Int)) (.inr (.inr (.inr (.inr (.inl rfl)))))))
    clear hE7 hk7 hg7 HPV xg1 hcg7
    have hm1 : ((m + 1 : Nat) : Int) = (m : Int) + 1 := by omega
    rw [hm1] at HE7 HK7
    clear hm1
    try unfold PT
    go_wp2
    exact ⟨rfl, .tuple #[], by simp [results, Tryz.results93, go_sem], rfl, _, ⟨bf, bo, bp, _, _, by rw [HOM.out, HPQ.out, HTR.out, if_pos HMA.out]; exact HE7.out, rfl⟩, HK7.out⟩
end Go.Proofs.YtjcfnmjjkadaeaaGreatDoor
