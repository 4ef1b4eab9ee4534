/- Texts of this claim put together: AkI, AkN, AkO, AkP. -/
import Derived.Test.YtjcfnmjjkadaeaaGreatDoorJoinAkH
import Derived.Maps.OwnSet
import Derived.Maps.OwnOps
import Derived.Maps.Views
/- Package alike's states; a clone of a row of numbers. -/
namespace Go.Proofs.YtjcfnmjjkadaeaaGreatDoor
set_option maxRecDepth 100000
set_option linter.unusedSimpArgs false
set_option linter.unusedVariables false
open Go.RowKit Go.Shelf

set_option maxHeartbeats 2000000 in
theorem states_any {W : World} {p n : Nat} {f od pl : Nat → Nat} {gs : List (Nat × Nat × Nat)} {ts : List Nat} {o : Nat → Prop} (h : PrtAt W p n f od pl gs ts o) (k : Nat) {a m b : Nat} (hx : gs[k]? = some (a, m, b)) (hab : a < b) (hbn : b ≤ n) (hn : n ≤ 1000000) :
    Calls Tryz.prog 97 #[PT p, .int .i64 k] W fun e w' => ∃ bo, e = .returned (.slice (some ⟨bo, a, none⟩) (b - a) (n - a)) ∧ Blk w' bo (iCells n fun j => ((od j : Nat) : Int)) 3 ∧ o bo ∧ Below W.heap.size W w' := by
  obtain ⟨bf, bo, bp, vg, vt, he, rfl⟩ := h.ex
  have hkl : k < gs.length := (List.getElem?_eq_some_iff.1 hx).1
  obtain ⟨gb, gcap, rfl, hgb, -, -, hcell⟩ := he.og.cell (by omega)
  obtain ⟨L, hL⟩ : ∃ L, gs.length = L := ⟨_, rfl⟩
  have g0 := hcell k _ hx 0 (by decide); have g2 := hcell k _ hx 2 (by decide)
  rw [hL] at he ⊢
  have hkL : k < L := by omega
  have HO := hide he.ko
  obtain ⟨C, hC⟩ : ∃ C : World → Prop, C = fun X => Below W.heap.size W X := ⟨_, rfl⟩
  have hcb : ∀ X, C X → Below W.heap.size W X := fun X h => by rw [hC] at h; exact h
  have hbC : ∀ X, Below W.heap.size W X → C X := fun X h => by rw [hC]; exact h
  have hcc : ∀ X, C X → ∀ ad u, W.cell? ad = some u → X.cell? ad = some u := fun X hX ad u hu => (World.cell?_of_block (w := W) ((hcb X hX).block ad.block (World.block_lt_of_cell? _ _ hu))).trans hu
  have HCB := hide hcb
  have HR : Hid (∀ X, C X → X.cell? ⟨p, 1, none⟩ = some (.slice (some ⟨bo, 0, none⟩) n n) ∧ X.cell? ⟨p, 3, none⟩ = some (.slice (some ⟨gb, 0, none⟩) L gcap) ∧ X.cell? ⟨gb, k * 3, none⟩ = some (.int .i64 a) ∧ X.cell? ⟨gb, k * 3 + 2, none⟩ = some (.int .i64 b)) := fun X hX => ⟨hcc X hX _ _ he.c.2.1, hcc X hX _ _ he.c.2.2.2.1, hcc X hX _ _ g0, hcc X hX _ _ g2⟩
  have HC0 : Hid (C { W with drawn := W.drawn + 1 }) := hbC _ ⟨rfl, rfl, rfl, Nat.le_refl _, fun _ _ => rfl⟩
  clear h he hcell g0 g2 hL hcc hcb hbC hC hx hkl
  go_enter Tryz.func97, Tryz.ntmps97
  go_wp2
  try rw [show Value.pointer (some ⟨p, 0, none⟩) = PT p from rfl]
  refine w_lit (C := C) (by kernel_rfl) (by kernel_rfl) HC0.out ?_
  have hr := HR.out
  refine w_value (PT p) (by kernel_rfl) (fun w hw => x_move _ _ _ _ _ _ _ _ rfl w) ?_
  simp only [Act.put, List.setIfInBounds_toArray, List.set_cons_succ, List.set_cons_zero]
  refine w_value (PT p) (by kernel_rfl) (fun w hw => x_nilCheck _ _ _ _ _ _ _ _ rfl w) ?_
  simp only [Act.put, List.setIfInBounds_toArray, List.set_cons_succ, List.set_cons_zero]
  refine w_value (.pointer (some ⟨p, 1, none⟩)) (by kernel_rfl) (fun w hw => x_akF1 _ _ _ _ _ _ _ p rfl w) ?_
  simp only [Act.put, List.setIfInBounds_toArray, List.set_cons_succ, List.set_cons_zero]
  refine w_value (.slice (some ⟨bo, 0, none⟩) n n) (by kernel_rfl) (fun w hw => x_ldIs _ _ _ _ _ _ _ p 1 (.slice (some ⟨bo, 0, none⟩) n n) rfl w ((hr w hw).1)) ?_
  simp only [Act.put, List.setIfInBounds_toArray, List.set_cons_succ, List.set_cons_zero]
  refine w_value (PT p) (by kernel_rfl) (fun w hw => x_move _ _ _ _ _ _ _ _ rfl w) ?_
  simp only [Act.put, List.setIfInBounds_toArray, List.set_cons_succ, List.set_cons_zero]
  refine w_value (PT p) (by kernel_rfl) (fun w hw => x_nilCheck _ _ _ _ _ _ _ _ rfl w) ?_
  simp only [Act.put, List.setIfInBounds_toArray, List.set_cons_succ, List.set_cons_zero]
  refine w_value (.pointer (some ⟨p, 3, none⟩)) (by kernel_rfl) (fun w hw => x_akF3 _ _ _ _ _ _ _ p rfl w) ?_
  simp only [Act.put, List.setIfInBounds_toArray, List.set_cons_succ, List.set_cons_zero]
  refine w_value (.slice (some ⟨gb, 0, none⟩) L gcap) (by kernel_rfl) (fun w hw => x_ldGs _ _ _ _ _ _ _ p 3 (.slice (some ⟨gb, 0, none⟩) L gcap) rfl w ((hr w hw).2.1)) ?_
  simp only [Act.put, List.setIfInBounds_toArray, List.set_cons_succ, List.set_cons_zero]
  refine w_value (.int .i64 k) (by kernel_rfl) (fun w hw => x_move _ _ _ _ _ _ _ _ rfl w) ?_
  simp only [Act.put, List.setIfInBounds_toArray, List.set_cons_succ, List.set_cons_zero]
  refine w_value (.pointer (some ⟨gb, k * 3, none⟩)) (by kernel_rfl) (fun w hw => x_gIdx _ _ _ _ _ _ _ _ gb k L gcap (hkL) rfl rfl w) ?_
  simp only [Act.put, List.setIfInBounds_toArray, List.set_cons_succ, List.set_cons_zero]
  refine w_value (.pointer (some ⟨gb, k * 3, none⟩)) (by kernel_rfl) (fun w hw => x_gF0 _ _ _ _ _ _ _ gb (k * 3) rfl w) ?_
  simp only [Act.put, List.setIfInBounds_toArray, List.set_cons_succ, List.set_cons_zero]
  refine w_value (.int .i64 a) (by kernel_rfl) (fun w hw => x_ldI _ _ _ _ _ _ _ gb (k * 3) a rfl w ((hr w hw).2.2.1)) ?_
  simp only [Act.put, List.setIfInBounds_toArray, List.set_cons_succ, List.set_cons_zero]
  refine w_value (PT p) (by kernel_rfl) (fun w hw => x_move _ _ _ _ _ _ _ _ rfl w) ?_
  simp only [Act.put, List.setIfInBounds_toArray, List.set_cons_succ, List.set_cons_zero]
  refine w_value (PT p) (by kernel_rfl) (fun w hw => x_nilCheck _ _ _ _ _ _ _ _ rfl w) ?_
  simp only [Act.put, List.setIfInBounds_toArray, List.set_cons_succ, List.set_cons_zero]
  refine w_value (.pointer (some ⟨p, 3, none⟩)) (by kernel_rfl) (fun w hw => x_akF3 _ _ _ _ _ _ _ p rfl w) ?_
  simp only [Act.put, List.setIfInBounds_toArray, List.set_cons_succ, List.set_cons_zero]
  refine w_value (.slice (some ⟨gb, 0, none⟩) L gcap) (by kernel_rfl) (fun w hw => x_ldGs _ _ _ _ _ _ _ p 3 (.slice (some ⟨gb, 0, none⟩) L gcap) rfl w ((hr w hw).2.1)) ?_
  simp only [Act.put, List.setIfInBounds_toArray, List.set_cons_succ, List.set_cons_zero]
  refine w_value (.int .i64 k) (by kernel_rfl) (fun w hw => x_move _ _ _ _ _ _ _ _ rfl w) ?_
  simp only [Act.put, List.setIfInBounds_toArray, List.set_cons_succ, List.set_cons_zero]
  refine w_value (.pointer (some ⟨gb, k * 3, none⟩)) (by kernel_rfl) (fun w hw => x_gIdx _ _ _ _ _ _ _ _ gb k L gcap (hkL) rfl rfl w) ?_
  simp only [Act.put, List.setIfInBounds_toArray, List.set_cons_succ, List.set_cons_zero]
  refine w_value (.pointer (some ⟨gb, k * 3 + 2, none⟩)) (by kernel_rfl) (fun w hw => x_gF2 _ _ _ _ _ _ _ gb (k * 3) rfl w) ?_
  simp only [Act.put, List.setIfInBounds_toArray, List.set_cons_succ, List.set_cons_zero]
  refine w_value (.int .i64 b) (by kernel_rfl) (fun w hw => x_ldI _ _ _ _ _ _ _ gb (k * 3 + 2) b rfl w ((hr w hw).2.2.2)) ?_
  simp only [Act.put, List.setIfInBounds_toArray, List.set_cons_succ, List.set_cons_zero]
  refine w_value (.slice (some ⟨bo, a, none⟩) (b - a) (n - a)) (by kernel_rfl) (fun w hw => x_slI _ _ _ _ _ _ _ bo n a b hab hbn _ _ rfl rfl rfl w) ?_
  simp only [Act.put, List.setIfInBounds_toArray, List.set_cons_succ, List.set_cons_zero]
  refine w_value (.slice (some ⟨bo, a, none⟩) (b - a) (n - a)) (by kernel_rfl) (fun w hw => x_assign _ _ _ _ _ _ _ _ rfl w) ?_
  simp only [Act.put, List.setIfInBounds_toArray, List.set_cons_succ, List.set_cons_zero]
  refine w_nil ?_
  intro w1 hC1
  have HB := hide (HCB.out _ hC1)
  clear hr hC1 HR HC0 HCB
  go_wp2
  go_ret
  exact ⟨bo, rfl, HO.out.below HB.out HO.out.lt, .inr (.inr (.inl rfl)), HB.out⟩
theorem clone_ints (s b a c m : Nat) (od : Nat → Nat) (w : World) (hb : Blk w s (iCells m fun j => ((od j : Nat) : Int)) 3) (h0 : a < b) (hbm : b ≤ m) (hm : m ≤ 1000000) :
    Calls Tryz.prog 96 #[.slice (some ⟨s, a, none⟩) (b - a) c] w fun e w' => ∃ v', e = .returned v' ∧ OwnG w' w.heap.size 3 (.int .i64 0) v' ((List.range (b - a)).map fun j => Value.int .i64 ((od (a + j) : Nat) : Int)) ∧ Below w.heap.size w w' := by
  have hb1 := (Below.refl w.heap.size w).alloc (Nat.le_refl _) (.cells #[] 3)
  have hblk := Blk.newAt (w := w) rfl #[] 3
  have hown : OwnG (w.alloc (.cells #[] 3)) w.heap.size 3 (.int .i64 0) (.slice (some ⟨w.heap.size, 0, none⟩) 0 0) [] := .inr ⟨w.heap.size, 0, #[], rfl, Nat.le_refl _, hblk, by simp, by unfold maxLen; omega, by simp⟩
  have hlen : ((List.range (b - a)).map fun j => Value.int .i64 ((od (a + j) : Nat) : Int)).length = b - a := by simp
  have hb2 := hb.below hb1 hb.lt
  obtain ⟨v', W', hr, ho, ha⟩ := run_appendG 36 3 36 (.int .i64 0) 8 Tryz.underlying36 infoIA (by omega) rfl hown ⟨s, a, none⟩ c ((List.range (b - a)).map fun j => Value.int .i64 ((od (a + j) : Nat) : Int)) (by rw [hlen]; omega)
    (fun j u hj => by
      rw [Go.WideShapes.add_plain]
      have hjl := (List.getElem?_eq_some_iff.1 hj).1
      rw [hlen] at hjl
      rw [hb2.cI (by omega)]
      rw [← hj]
      simp [hjl]) (fun u hu => by
        obtain ⟨x, -, rfl⟩ := List.mem_map.1 hu
        rfl) (by rw [hlen]; simp; omega) (by simp)
  rw [hlen] at hr
  rw [List.nil_append] at ho
  have HO := hide ho
  have HB := hide ((hb1.mono (Nat.le_refl _)).trans ha.below)
  obtain ⟨av, cv, rfl, -⟩ := ho.slice
  rw [hlen] at HO hr
  clear ho ha hown hblk hb1 hb2 hb
  have hne := Go.Lib.run_eql_slice_nil (P := Tryz.prog) w 36 3 (some ⟨s, a, none⟩) (b - a) c 0 0 Tryz.underlying36
  go_enter Tryz.func96, Tryz.ntmps96
  go_wp2_with (refine wpList_append_run rfl _ _ _ rfl _ _ _ rfl rfl hr ?_)
  go_ret
  exact ⟨_, rfl, HO.out, HB.out⟩
end Go.Proofs.YtjcfnmjjkadaeaaGreatDoor
/- Package alike's numbered: numbers as they are first met. -/
namespace Go.Proofs.YtjcfnmjjkadaeaaGreatDoor
set_option maxRecDepth 100000
set_option linter.unusedSimpArgs false
set_option linter.unusedVariables false
open Go.RowKit Go.Shelf
open Go.Maps

theorem numK_app (a b : List Nat) : ∀ ms, numK ms (a ++ b) = numK ms a ++ numK (metL ms a) b := by
  induction a with
  | nil => intro ms; rfl
  | cons x a ih =>
    intro ms
    rw [List.cons_append, numK, numK, metL]
    by_cases hx : x ∈ ms
    · rw [if_pos hx, if_pos hx, if_pos hx, ih, List.cons_append]
    · rw [if_neg hx, if_neg hx, if_neg hx, ih, List.cons_append]
theorem metL_app (a b : List Nat) : ∀ ms, metL ms (a ++ b) = metL (metL ms a) b := by
  induction a with
  | nil => intro ms; rfl
  | cons x a ih =>
    intro ms
    rw [List.cons_append, metL, metL]
    split <;> rw [ih]
/-- What was met ahead of place i; the number of place i. -/
def msF (f : Nat → Nat) (i : Nat) : List Nat := metL [] ((List.range i).map f)
def numF (f : Nat → Nat) (i : Nat) : Nat := if f i ∈ msF f i then (msF f i).idxOf (f i) else (msF f i).length
theorem msF_succ (f : Nat → Nat) (i : Nat) : msF f (i + 1) = if f i ∈ msF f i then msF f i else msF f i ++ [f i] := by
  unfold msF
  rw [List.range_succ, List.map_append, metL_app]
  simp only [List.map_cons, List.map_nil, metL]
theorem numL_range (f : Nat → Nat) (n : Nat) : numL ((List.range n).map f) = (List.range n).map (numF f) := by
  unfold numL
  induction n with
  | zero => rfl
  | succ n ih =>
    rw [List.range_succ, List.map_append, List.map_append, numK_app, ih]
    congr 1
    show numK (msF f n) [f n] = [numF f n]
    unfold numF
    simp only [numK]
    by_cases h : f n ∈ msF f n
    · rw [if_pos h, if_pos h]
    · rw [if_neg h, if_neg h]
theorem msF_nodup (f : Nat → Nat) (i : Nat) : (msF f i).Nodup := metL_nodup _ _ List.nodup_nil
theorem msF_len (f : Nat → Nat) (i : Nat) : (msF f i).length ≤ i := by
  induction i with
  | zero => simp [msF, metL]
  | succ i ih =>
    rw [msF_succ]
    split
    · omega
    · rw [List.length_append]; simp; omega
theorem numF_le (f : Nat → Nat) (i : Nat) : numF f i ≤ i := by
  have := msF_len f i
  unfold numF
  split
  · rename_i h
    have := List.idxOf_lt_length_of_mem h
    omega
  · exact this
/-- The map of the numbers, as a datum. -/
def keysI (S : List Nat) : DataW Unit := S.zipIdx.foldl (fun D q => D.put (.int .i64 (q.1 : Nat)) (.lit (.int .i64 (q.2 : Nat)))) (.map [])
theorem keysI_snoc (S : List Nat) (x : Nat) : keysI (S ++ [x]) = (keysI S).put (.int .i64 (x : Nat)) (.lit (.int .i64 (S.length : Nat))) := by
  unfold keysI
  rw [List.zipIdx_append, List.foldl_append]
  simp
theorem isKey_int (k : IntKind) (v : Int) : WideAt.IsKeyLit (.int k v) := by first | trivial | simp [WideAt.IsKeyLit] | constructor
theorem keysI_tell : ∀ (n : Nat) (S : List Nat), S.length = n → S.Nodup →
    (∀ x : Nat, Maps.has (keysI S) (.int .i64 (x : Nat)) = decide (x ∈ S)) ∧ (∀ x ∈ S, ∀ z, (keysI S).atKey (.int .i64 (x : Nat)) z = .lit (.int .i64 (S.idxOf x : Nat))) ∧ Maps.size (keysI S) = S.length ∧ Tidy (keysI S)
  | 0, S, hn, hp => by
    have : S = [] := List.eq_nil_of_length_eq_zero hn
    subst this
    exact ⟨fun x => by simp [keysI, Maps.has], fun x hx => by simp at hx, rfl, tidy_empty⟩
  | n + 1, S, hn, hp => by
    obtain ⟨S', y, rfl⟩ : ∃ S' y, S = S' ++ [y] := ⟨S.dropLast, S.getLast (by intro e; rw [e] at hn; simp at hn), (List.dropLast_concat_getLast _).symm⟩
    have hp2 := List.nodup_append.1 hp
    have hy : y ∉ S' := fun h => hp2.2.2 y h y (by simp) rfl
    obtain ⟨h1, h2, h3, h4⟩ := keysI_tell n S' (by simpa using hn) hp2.1
    rw [keysI_snoc]
    have hne : ∀ x : Nat, x ≠ y → Lit.int .i64 (x : Nat) ≠ Lit.int .i64 (y : Nat) := fun x hx e => by injection e with _ e; omega
    refine ⟨fun x => ?_, fun x hx z => ?_, ?_, h4.put (isKey_int _ _) _⟩
    · by_cases e : x = y
      · subst e
        rw [has_put_same h4.isMap (isKey_int _ _)]
        simp
      · rw [has_put_other (hne x e), h1]
        simp [e]
    · by_cases e : x = y
      · subst e
        rw [atKey_put_same h4.isMap (isKey_int _ _), List.idxOf_append, if_neg hy]
        simp
      · have hx' : x ∈ S' := by simpa [e] using hx
        rw [atKey_put_other (hne x e), h2 x hx', List.idxOf_append, if_pos hx']
    · rw [size_put h4, h1, h3]
      simp [hy]
theorem lawInt : Keyed Tryz.prog 3 := int_keyed Tryz.underlying3
theorem zeroI64' (w : World) : (zeroValue 3).run Tryz.prog w = .ok (.int .i64 0) w := by kernel_rfl
/-- In memory, ahead of place i. -/
structure NumE (W wr : World) (bf n mb bo : Nat) (f : Nat → Nat) (i : Nat) : Prop where
  kf : Blk wr bf (iCells n fun j => ((f j : Nat) : Int)) 3
  ko : Blk wr bo (iCells n fun j => (((if j < i then numF f j else 0) : Nat) : Int)) 3
  map : wr.ownsMap Tryz.prog 3 (plainElem (H := Unit) Tryz.prog 3) mb (msF f i).length (keysI (msF f i))
  bel : Below W.heap.size W wr
  lo : W.heap.size ≤ bo
  lm : W.heap.size ≤ mb
theorem mapI_ne {W : World} {mb b : Nat} {c : Array Value} {t : TypeId} {n : Nat} {D : DataW Unit} (h : W.ownsMap Tryz.prog 3 (plainElem (H := Unit) Tryz.prog 3) mb n D) (hb : Blk W b c t) : mb ≠ b := by
  rintro rfl
  obtain ⟨es, clock, hm, -⟩ := h
  have e := hm.symm.trans hb.of_cells
  injection e with e
  cases e
theorem mapI_keep {W W' : World} {mb : Nat} {n : Nat} {D : DataW Unit} (h : W.ownsMap Tryz.prog 3 (plainElem (H := Unit) Tryz.prog 3) mb n D) (hk : W'.heap[mb]? = W.heap[mb]?) : W'.ownsMap Tryz.prog 3 (plainElem (H := Unit) Tryz.prog 3) mb n D := by
  obtain ⟨es, clock, hm, h2⟩ := h
  exact ⟨es, clock, hk.trans hm, h2⟩
theorem NumE.keep {W wr wr' : World} {bf n mb bo : Nat} {f : Nat → Nat} {i : Nat} (h : NumE W wr bf n mb bo f i) (hb : Below wr.heap.size wr wr') : NumE W wr' bf n mb bo f i :=
  ⟨h.kf.below hb h.kf.lt, h.ko.below hb h.ko.lt, mapI_keep h.map (hb.block mb h.map.lt), h.bel.trans (hb.mono h.bel.size), h.lo, h.lm⟩
/-- A place more is written. -/
theorem NumE.put {W wr w3 : World} {bf n mb bo : Nat} {f : Nat → Nat} {i : Nat} (h : NumE W wr bf n mb bo f i) (hbf : bf < W.heap.size) (hm : w3.ownsMap Tryz.prog 3 (plainElem (H := Unit) Tryz.prog 3) mb (msF f (i + 1)).length (keysI (msF f (i + 1)))) (hk : ∀ k, k < wr.heap.size → k ≠ mb → w3.heap[k]? = wr.heap[k]?) (hs : wr.heap.size ≤ w3.heap.size) (h1 : w3.os = wr.os) (h2 : w3.tape = wr.tape) (h3 : w3.output = wr.output) :
    Blk w3 bo (iCells n fun j => (((if j < i then numF f j else 0) : Nat) : Int)) 3 ∧ NumE W (w3.setCell ⟨bo, i, none⟩ (.int .i64 (numF f i : Nat))) bf n mb bo f (i + 1) := by
  have hmo := mapI_ne h.map h.ko
  have hmf := mapI_ne h.map h.kf
  have ko : Blk w3 bo (iCells n fun j => (((if j < i then numF f j else 0) : Nat) : Int)) 3 := (hk bo h.ko.lt (Ne.symm hmo)).trans h.ko
  have kf : Blk w3 bf (iCells n fun j => ((f j : Nat) : Int)) 3 := (hk bf h.kf.lt (Ne.symm hmf)).trans h.kf
  have hne : bf ≠ bo := by have := h.lo; omega
  have hb : Below W.heap.size W w3 := ⟨h1.trans h.bel.os, h2.trans h.bel.tape, h3.trans h.bel.output, Nat.le_trans h.bel.size hs, fun k hkl => (hk k (Nat.lt_of_lt_of_le hkl h.bel.size) (by have := h.lm; omega)).trans (h.bel.block k hkl)⟩
  refine ⟨ko, kf.setOther _ _ hne, ?_, mapI_keep hm (heap_set w3 bo i _ hmo), hb.setCell h.lo _, h.lo, h.lm⟩
  have := ko.setN i (numF f i)
  have e : (iCells n fun j => ((updN (fun j => if j < i then numF f j else 0) i (numF f i) j : Nat) : Int)) = iCells n fun j => (((if j < i + 1 then numF f j else 0) : Nat) : Int) := iCells_congr fun j hj => by
    unfold updN
    by_cases e : j = i
    · subst e; simp
    · rw [if_neg e]
      show (((if j < i then numF f j else 0) : Nat) : Int) = _
      by_cases h : j < i
      · rw [if_pos h, if_pos (by omega)]
      · rw [if_neg h, if_neg (by omega)]
  rw [e] at this
  exact this
end Go.Proofs.YtjcfnmjjkadaeaaGreatDoor
/- Package alike's numbered: the walk. -/
namespace Go.Proofs.YtjcfnmjjkadaeaaGreatDoor
set_option maxRecDepth 100000
set_option linter.unusedSimpArgs false
set_option linter.unusedVariables false
open Go.RowKit Go.Shelf
open Go.Maps Go.WideMaps

theorem NumE.start {w : World} {bf n : Nat} {f : Nat → Nat} (hb : Blk w bf (iCells n fun j => ((f j : Nat) : Int)) 3) : NumE w ((w.alloc (.map #[] 0)).alloc (.cells (iCells n fun _ => 0) 3)) bf n w.heap.size (w.heap.size + 1) f 0 := by
  refine ⟨(hb.alloc _).alloc _, ?_, ?_, (((Below.refl _ _).alloc (Nat.le_refl _) _).alloc (by simp) _), by omega, by omega⟩
  · have := Blk.newAt (w := w.alloc (.map #[] 0)) (n := w.heap.size + 1) (by simp) (iCells n fun _ => 0) 3
    simpa using this
  · exact (World.ownsMap_made w Tryz.prog 3 (plainElem (H := Unit) Tryz.prog 3)).alloc _
set_option maxHeartbeats 4000000 in
theorem numbered_any (bf n : Nat) (f : Nat → Nat) (w : World) (hb : Blk w bf (iCells n fun j => ((f j : Nat) : Int)) 3) (hn : n ≤ 1000000) (hf : ∀ j, j < n → f j ≤ 1000000) :
    Calls Tryz.prog 98 #[.slice (some ⟨bf, 0, none⟩) n n] w fun e w' => ∃ bo, e = .returned (.slice (some ⟨bo, 0, none⟩) n n) ∧ Blk w' bo (iCells n fun j => ((numF f j : Nat) : Int)) 3 ∧ Below w.heap.size w w' ∧ w.heap.size ≤ bo := by
  have hmk := fun w => run_makeMap (P := Tryz.prog) 180 w
  have hms : ∀ W : World, (Instr.makeSlice 36 (.int .i64 n) (.int .i64 n)).run Tryz.prog W = .ok (.slice (some ⟨W.heap.size, 0, none⟩) n n) (W.alloc (.cells (iCells n fun _ => 0) 3)) := fun W => ints_make n W hn
  have HN0 := hide (NumE.start hb)
  have HBL := hide hb.lt
  have HF := hide hf
  clear hb hf
  go_enter Tryz.func98, Tryz.ntmps98
  go_wp2
  generalize ((w.alloc (.map #[] 0)).alloc (.cells (iCells n fun _ => 0) 3)) = W0 at HN0 ⊢
  obtain ⟨mb, hmb⟩ : ∃ mb, mb = w.heap.size := ⟨_, rfl⟩
  obtain ⟨bo, hbo⟩ : ∃ bo, bo = w.heap.size + 1 := ⟨_, rfl⟩
  rw [← hbo, ← hmb] at HN0
  try rw [← hbo]
  try rw [← hmb]
  clear hmk hms hmb hbo
  go_loopw [15] (fun iv wr => ∃ i : Nat, iv = .int .i64 i ∧ i ≤ n ∧ Hid (NumE w wr bf n mb bo f i)) (fun iv _ => n - (intOf iv).toNat)
  case atStart => exact ⟨0, rfl, Nat.zero_le _, HN0⟩
  case round =>
    obtain ⟨i, rfl, hi, HE⟩ := hrel
    by_cases hlt : i < n
    · have di : decide ((i : Int) < (n : Int)) = true := by simp; omega
      have hE := HE.out
      have hfi := HF.out i hlt
      have hcf := hE.kf.cI hlt
      have hwf : (Lit.int .i64 (f i : Nat)).wf = true := by simp [Lit.wf, IntKind.min, IntKind.max, IntKind.signed, IntKind.bits]; omega
      have hkey : keyOf Tryz.prog 3 (.int .i64 (f i : Nat)) = some (.int .i64 (f i : Nat)) := keyOf_int_mk Tryz.underlying3 hwf
      obtain ⟨t1, t2, t3, t4⟩ := keysI_tell _ (msF f i) rfl (msF_nodup f i)
      have hml := msF_len f i
      have hmap := hE.map
      have hms := msF_succ f i
      by_cases hx : f i ∈ msF f i
      · have hhas : Maps.has (keysI (msF f i)) (.int .i64 (f i : Nat)) = true := by rw [t1]; simp [hx]
        have hat : ∀ z, (keysI (msF f i)).atKey (.int .i64 (f i : Nat)) z = .lit (.int .i64 (numF f i : Nat)) := fun z => by rw [t2 _ hx z]; unfold numF; rw [if_pos hx]
        rw [if_pos hx] at hms
        obtain ⟨hko, hE2⟩ := hE.put HBL.out (w3 := wr) (by rw [hms]; exact hmap) (fun _ _ _ => rfl) (Nat.le_refl _) rfl rfl rfl
        have hco := hko.cI hlt
        have hfo := hko.frozen i
        have HE2 := hide hE2
        clear hE hE2 hko t1 t2 t3 t4 hms
        go_wp2_with (first | (at_lookup; go_loud (refine wpList_lookup_own_ok_int _ rfl _ _ 180 rfl 3 3 .i64 lawInt Tryz.underlying180 Tryz.underlying3 (zeroI64' _) mb _ _ rfl hmap _ _ rfl hkey ?_); intro c hc hwc; rw [hat] at hc; obtain rfl : (numF f i : Int) = c := by injection hc with hc; injection hc) | go_in)
        exact ⟨⟨i + 1, by go_num, hlt, HE2⟩, by simp [intOf]; omega⟩
      · have hhas : Maps.has (keysI (msF f i)) (.int .i64 (f i : Nat)) = false := by rw [t1]; simp [hx]
        have hnf : (msF f i).length = numF f i := by unfold numF; rw [if_neg hx]
        have hsz : Maps.size (keysI (msF f i)) = numF f i := by rw [t3, hnf]
        rw [if_neg hx] at hms
        have hle := numF_le f i
        have hwf2 : (Lit.int .i64 (numF f i : Nat)).wf = true := by simp [Lit.wf, IntKind.min, IntKind.max, IntKind.signed, IntKind.bits]; omega
        have hput : keysI (msF f (i + 1)) = (keysI (msF f i)).put (.int .i64 (f i : Nat)) (.lit (.int .i64 (numF f i : Nat))) := by rw [hms, keysI_snoc, hnf]
        have hlen : (msF f (i + 1)).length = (msF f i).length + 1 := by rw [hms]; simp
        have PUT : Hid (∀ w3 : World, w3.ownsMap Tryz.prog 3 (plainElem (H := Unit) Tryz.prog 3) mb ((msF f i).length + 1) ((keysI (msF f i)).put (.int .i64 (f i : Nat)) (.lit (.int .i64 (numF f i : Nat)))) → wr.grownBy w3 (some mb) → w3.cell? ⟨bo, i, none⟩ = some (.int .i64 ((if i < i then numF f i else 0 : Nat) : Int)) ∧ w3.frozen? ⟨bo, i, none⟩ = false ∧ NumE w (w3.setCell ⟨bo, i, none⟩ (.int .i64 (numF f i : Nat))) bf n mb bo f (i + 1)) := fun w3 ho hg => by
          obtain ⟨hko, hE2⟩ := hE.put HBL.out (w3 := w3) (by rw [hlen, hput]; exact ho) (fun k hk hne => hg.block k hk fun e => hne (by injection e)) hg.size hg.os hg.tape hg.output
          exact ⟨hko.cI hlt, hko.frozen i, hE2⟩
        clear hE t1 t2 t3 t4 hms hput hlen
        go_wp2_with (first
          | (at_lookup; go_loud (refine wpList_lookup_own_ok_int _ rfl _ _ 180 rfl 3 3 .i64 lawInt Tryz.underlying180 Tryz.underlying3 (zeroI64' _) mb _ _ rfl hmap _ _ rfl hkey ?_); intro c hc hwc; clear hc)
          | (at_len; go_loud (refine wpList_len_own _ rfl _ 180 rfl 3 3 Tryz.underlying180 _ mb _ _ rfl hmap ?_); rw [hsz])
          | (at_mapUpdate; go_loud (refine wpList_mapUpdate_own _ rfl _ _ _ 180 rfl 3 3 lawInt Tryz.underlying180 _ mb _ _ rfl hmap (by unfold maxLen; omega) _ _ _ rfl rfl hkey (.lit (.int .i64 (numF f i : Nat))) [] (plainElem_int Tryz.underlying3 hwf2) ?_); intro w3 ho3 hg3; obtain ⟨c3, f3, hE3⟩ := PUT.out w3 ho3 hg3; have HE3 := hide hE3; clear PUT ho3 hg3 hE3)
          | go_in)
        exact ⟨⟨i + 1, by go_num, hlt, HE3⟩, by simp [intOf]; omega⟩
    · have di : decide ((i : Int) < (n : Int)) = false := by simp; omega
      obtain rfl : i = n := by omega
      go_wp2
      go_ret
      refine ⟨bo, rfl, ?_, HE.out.bel, HE.out.lo⟩
      have e : (iCells i fun j => ((numF f j : Nat) : Int)) = iCells i fun j => (((if j < i then numF f j else 0) : Nat) : Int) := iCells_congr fun j hj => by rw [if_pos hj]
      rw [e]
      exact HE.out.ko
end Go.Proofs.YtjcfnmjjkadaeaaGreatDoor
/- Package alike's backSteps: what it makes, in memory. -/
namespace Go.Proofs.YtjcfnmjjkadaeaaGreatDoor
set_option maxRecDepth 100000
set_option linter.unusedSimpArgs false
set_option linter.unusedVariables false
open Go.RowKit Go.Shelf

/-- Of the first i states the last one that leads to q; -1: none. -/
def bkF (c : Nat → Nat) : Nat → Nat → Int
  | 0, _ => -1
  | i + 1, q => if c i = q then (i : Int) else bkF c i q
def bkM (c : Nat → Nat) (i : Nat) (x : Nat) : Int := if x < i then bkF c x (c x) else 0
theorem bkF_lt (c : Nat → Nat) : ∀ i q, bkF c i q < (i : Int)
  | 0, q => by unfold bkF; omega
  | i + 1, q => by
    unfold bkF
    have := bkF_lt c i q
    split <;> omega
theorem bkF_ge (c : Nat → Nat) : ∀ i q, -1 ≤ bkF c i q
  | 0, q => by unfold bkF; omega
  | i + 1, q => by
    unfold bkF
    have := bkF_ge c i q
    split <;> omega
/-- The last one, if it is x: leads to q, none behind it does. -/
theorem bkF_is (c : Nat → Nat) : ∀ (i q x : Nat), bkF c i q = (x : Int) → x < i ∧ c x = q ∧ ∀ y, x < y → y < i → c y ≠ q
  | 0, q, x, h => by unfold bkF at h; omega
  | i + 1, q, x, h => by
    unfold bkF at h
    by_cases e : c i = q
    · rw [if_pos e] at h
      obtain rfl : i = x := by omega
      exact ⟨by omega, e, fun y h1 h2 => by omega⟩
    · rw [if_neg e] at h
      obtain ⟨h1, h2, h3⟩ := bkF_is c i q x h
      refine ⟨by omega, h2, fun y hy hy2 => ?_⟩
      by_cases hyi : y = i
      · rw [hyi]; exact e
      · exact h3 y hy (by omega)
theorem bkF_no (c : Nat → Nat) : ∀ (i q : Nat), bkF c i q < 0 → ∀ y, y < i → c y ≠ q
  | 0, q, h => fun y hy => by omega
  | i + 1, q, h => fun y hy => by
    unfold bkF at h
    by_cases e : c i = q
    · rw [if_pos e] at h; omega
    · rw [if_neg e] at h
      by_cases hyi : y = i
      · rw [hyi]; exact e
      · exact bkF_no c i q h y (by omega)
theorem bkF_set (c : Nat → Nat) (i j : Nat) : setI (bkF c i) (c i) (i : Nat) j = bkF c (i + 1) j := by
  unfold setI
  rw [bkF]
  by_cases e : j = c i
  · rw [if_pos e, if_pos e.symm]
  · rw [if_neg e, if_neg (fun h => e h.symm)]
theorem bkM_set (c : Nat → Nat) (i j : Nat) : setI (bkM c i) i (bkF c i (c i)) j = bkM c (i + 1) j := by
  unfold setI bkM
  by_cases e : j = i
  · rw [if_pos e, if_pos (by omega), e]
  · rw [if_neg e]
    by_cases h : j < i
    · rw [if_pos h, if_pos (by omega)]
    · rw [if_neg h, if_neg (by omega)]
/-- Steps from their ends: two rows each. -/
def bkS (n : Nat) : EncS (Nat × Nat) where
  enc x := [.slice (some ⟨x.1, 0, none⟩) n n, .slice (some ⟨x.2, 0, none⟩) n n]
  k := 2
  E := 149
  zc := [.slice none 0 0, .slice none 0 0]
  len _ := rfl
  one x u hu := by
    simp at hu
    rcases hu with rfl | rfl <;> rfl
  pos := by decide
  zlen := rfl
/-- Columns that came in. -/
structure Cols (W : World) (v : Value) (n : Nat) (cols : List (Nat → Nat)) : Prop where
  ex : ∃ a cap, v = .slice a cols.length cap ∧ ∀ (i : Nat) c, cols[i]? = some c → ∃ g b, a = some ⟨g, 0, none⟩ ∧ W.cell? ⟨g, i, none⟩ = some (.slice (some ⟨b, 0, none⟩) n n) ∧ Blk W b (iCells n fun j => ((c j : Nat) : Int)) 3
theorem Cols.keep {W W' : World} {v : Value} {n : Nat} {cols : List (Nat → Nat)} (h : Cols W v n cols) (hb : Below W.heap.size W W') : Cols W' v n cols := by
  obtain ⟨a, cap, e, h1⟩ := h.ex
  refine ⟨a, cap, e, fun i c hi => ?_⟩
  obtain ⟨g, b, h2, h3, h4⟩ := h1 i c hi
  exact ⟨g, b, h2, (World.cell?_of_block (w := W) (hb.block g (World.block_lt_of_cell? _ _ h3))).trans h3, h4.below hb h4.lt⟩
structure Backs (W : World) (base n : Nat) (v : Value) (bks : List (Nat × Nat)) (cols : List (Nat → Nat)) : Prop where
  own : OwnS (bkS n) W base v bks
  le : bks.length ≤ cols.length
  each : ∀ (i : Nat) x c, bks[i]? = some x → cols[i]? = some c → base ≤ x.1 ∧ base ≤ x.2 ∧ Blk W x.1 (iCells n (bkF c n)) 3 ∧ Blk W x.2 (iCells n (bkM c n)) 3
theorem Backs.keep {W W' : World} {base n : Nat} {v : Value} {bks : List (Nat × Nat)} {cols : List (Nat → Nat)} (h : Backs W base n v bks cols) (hb : Below W.heap.size W W') : Backs W' base n v bks cols :=
  ⟨h.own.keep hb, h.le, fun i x c hx hc => by
    obtain ⟨h1, h2, h3, h4⟩ := h.each i x c hx hc
    exact ⟨h1, h2, h3.below hb h3.lt, h4.below hb h4.lt⟩⟩
theorem infoBk : (Tryz.prog.info? 149).map (fun i => (i.zero, i.size, i.bytes)) = some (some (.agg #[.slice none 0 0, .slice none 0 0]), 2, 48) := by kernel_rfl
/-- One more. -/
theorem Backs.push {W W' : World} {base n : Nat} {v v' : Value} {bks : List (Nat × Nat)} {cols : List (Nat → Nat)} {x y : Nat} {c : Nat → Nat} (h : Backs W base n v bks cols) (ho : OwnS (bkS n) W' base v' (bks ++ [(x, y)])) (ha : AppS (bkS n) W W' base v v') (hc : cols[bks.length]? = some c)
    (hx : base ≤ x) (hy : base ≤ y) (kx : Blk W x (iCells n (bkF c n)) 3) (ky : Blk W y (iCells n (bkM c n)) 3) : Backs W' base n v' (bks ++ [(x, y)]) cols := by
  have hlt := (List.getElem?_eq_some_iff.1 hc).1
  refine ⟨ho, by simp; omega, fun i z d hz hd => ?_⟩
  have hk : ∀ {b : Nat} {cc : Array Value}, Blk W b cc 3 → Blk W' b cc 3 := fun hb => ha.block _ _ _ hb (by show 3 ≠ 149; decide)
  by_cases hi : i < bks.length
  · rw [List.getElem?_append_left hi] at hz
    obtain ⟨h1, h2, h3, h4⟩ := h.each i z d hz hd
    exact ⟨h1, h2, hk h3, hk h4⟩
  · have hil := (List.getElem?_eq_some_iff.1 hz).1
    obtain rfl : i = bks.length := by simp at hil; omega
    obtain rfl : (x, y) = z := by simpa using hz
    rw [hc] at hd
    injection hd with hd
    subst hd
    exact ⟨hx, hy, hk kx, hk ky⟩
end Go.Proofs.YtjcfnmjjkadaeaaGreatDoor
