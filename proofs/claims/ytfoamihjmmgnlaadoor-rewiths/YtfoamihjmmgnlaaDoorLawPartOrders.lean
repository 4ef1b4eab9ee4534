/- PartOrders: the order of the sets, and sets that come again, turn nothing. -/
import Derived.Test.YtfoamihjmmgnlaaDoorLawPartIndexes
import Derived.Test.YtfoamihjmmgnlaaDoorMathPart
import Derived.Test.YtfoamihjmmgnlaaDoorQuiet3
namespace Go.Proofs.YtfoamihjmmgnlaaDoor
set_option maxRecDepth 100000
open Go.RowKit

section
variable {ops : Array Oper} {S : World → Prop} {Q : Exit → Act → World → Prop} {fuel : Nat} {listed : Array Bool} {a : Act} {w : World} {oi : Oper} {rest : List Oper}
/-- Whatever is ready alone. -/
theorem h_oper (i : Nat) (hi : ops.toList.drop i = oi :: rest) (hr : Region.ready .any ops listed = [i]) (hw : Region.wanted oi (yielded ops a.tmps) = true)
    (h : oi.wp Tryd.prog a w (fun a' w' => S w' ∧ wpAnyH Tryd.prog .any ops (NoPanic Q) S fuel (listed.setIfInBounds i true) a' w') (NoPanic Q)) : wpAnyH Tryd.prog .any ops (NoPanic Q) S (fuel + 1) listed a w := by
  refine wpAnyH_all hr (by simp) ?_
  intro j hj
  obtain rfl : j = i := by simpa using hj
  unfold wpOp
  simp only [at_drop hi, hw, if_true]
  exact .inl h
end
/-- append of whatever lies there, none too. -/
theorem wp_append_at {o : Oper} {a : Act} {w : World} {K : Act → World → Prop} {Q : Exit → Act → World → Prop} (s x : Operand) (t : TypeId)
    (ho : o.op = .call { callee := .builtin .append, args := #[s, x], argTypes := #[t, t] })
    (base : Nat) (e : TypeId) (i : TypeInfo) (z : Value) (size bytes : Nat) (ht : (Tryd.prog).underlying t = some (.slice e)) (hi : (Tryd.prog).info? e = some i) (hz : i.zero = some z)
    (hsize : i.size = size) (hby : i.bytes = bytes) (hzs : z.cells.size = size) (hsz : 0 < size)
    (v : Value) (n : Nat) (xs : List Value) (hs : a.eval s = v) (hown : w.ownsRow base e size v n xs)
    (ad : Addr) (m c : Nat) (news : List Value) (hx : a.eval x = .slice (some ad) m c) (hl : news.length = m * size) (hnews : ∀ j u, news[j]? = some u → w.cell? (ad.add j) = some u) (h1 : ∀ u ∈ news, u.oneCell' = true)
    (h63 : n + m ≤ maxLen) (hbytes : (n + m) * bytes ≤ 140737488355328) (hbase : base ≤ w.heap.size)
    (h : ∀ v' w', w'.ownsRow base e size v' (n + m) (xs ++ news) → w.grownBy w' v.ownBlock → K (a.put o.dst v') w') : o.wp Tryd.prog a w K Q := by
  obtain ⟨v', w', hr, h2, h3, -⟩ := run_append_own_at (P := Tryd.prog) w base t o.type e i z size bytes ht hi hz hsize hby hzs hsz v n xs hown ad m c news hl hnews h1 h63 hbytes hbase
  unfold Oper.wp execOp
  simp only [ho, resolve, invoke, builtin, Sem.run_bind, Sem.run_pure, Result.andThen_ok, List.map_toArray, List.map_cons, List.map_nil, hs, hx, hr]
  exact h v' w' h2 h3

theorem x_neqS (ρ : Operand → Value) (d : Option Tmp) (x y : Operand) (t : TypeId) (pos : String) (af : Array Edge) (g : Option (Nat × Bool)) (u v : BitVec 256) (hx : ρ x = SV u) (hy : ρ y = SV v) (w : World) :
    (execOp ρ { dst := d, op := .binOp .neq 24 x y 24, type := t, pos := pos, after := af, guard := g }).run Tryd.prog w = .ok (.value (.bool (u != v))) w := by
  have h := eqSV u v
  simp [go_sem, hx, hy, h, bne]
theorem x_sliceLo (ρ : Operand → Value) (d : Option Tmp) (x y : Operand) (ty : TypeId) (pos : String) (af : Array Edge) (g : Option (Nat × Bool)) (b off len cap t : Nat) (hx : ρ x = .slice (some ⟨b, off, none⟩) len cap) (hy : ρ y = .int .i64 t) (h1 : t < len) (h2 : len ≤ cap) (w : World) :
    (execOp ρ { dst := d, op := .slice 47 x (some y) none none, type := ty, pos := pos, after := af, guard := g }).run Tryd.prog w = .ok (.value (.slice (some ⟨b, off + t * 4, none⟩) (len - t) (cap - t))) w := by
  have e1 : t ≤ len := by omega
  have e2 : ¬ cap = t := by omega
  simp [go_sem, hx, hy, e1, e2]
theorem x_sliceHi (ρ : Operand → Value) (d : Option Tmp) (x y : Operand) (ty : TypeId) (pos : String) (af : Array Edge) (g : Option (Nat × Bool)) (b off len cap t : Nat) (hx : ρ x = .slice (some ⟨b, off, none⟩) len cap) (hy : ρ y = .int .i64 t) (h1 : t < len) (h2 : len ≤ cap) (w : World) :
    (execOp ρ { dst := d, op := .slice 47 x none (some y) none, type := ty, pos := pos, after := af, guard := g }).run Tryd.prog w = .ok (.value (.slice (some ⟨b, off, none⟩) t cap)) w := by
  simp [go_sem, hx, hy]
  omega
theorem x_buildNil (ρ : Operand → Value) (d : Option Tmp) (ty : TypeId) (pos : String) (af : Array Edge) (g : Option (Nat × Bool)) (w : World) :
    (execOp ρ { dst := d, op := .buildSlice 47 0 #[], type := ty, pos := pos, after := af, guard := g }).run Tryd.prog w = .ok (.value (.slice (some ⟨w.heap.size, 0, none⟩) 0 0)) (w.alloc (.cells #[] 24)) := by
  simp [go_sem]
theorem x_build2 (ρ : Operand → Value) (d : Option Tmp) (x y : Operand) (ty : TypeId) (pos : String) (af : Array Edge) (g : Option (Nat × Bool)) (s t : BitVec 256) (hx : ρ x = SV s) (hy : ρ y = SV t) (w : World) :
    (execOp ρ { dst := d, op := .buildSlice 47 2 #[(0, x), (1, y)], type := ty, pos := pos, after := af, guard := g }).run Tryd.prog w = .ok (.value (.slice (some ⟨w.heap.size, 0, none⟩) 2 2)) (w.alloc (.cells (flat [s, t]).toArray 24)) := by
  simp [go_sem, hx, hy, flat, encS]
theorem below_grown {N : Nat} {w0 W W' : World} {v : Value} {e size n : Nat} {xs : List Value} (h : Below N w0 W) (hg : W.grownBy W' v.ownBlock) (ho : W.ownsRow N e size v n xs) (hN : N ≤ w0.heap.size) : Below N w0 W' := by
  have hne : ∀ k, k < N → some k ≠ v.ownBlock := fun k hk e => by
    rcases ho.2 with ⟨rfl, -⟩ | ⟨g, cap, cur, rfl, h2, -⟩
    · cases e
    · simp [Value.ownBlock] at e; omega
  exact ⟨hg.os.trans h.os, hg.tape.trans h.tape, hg.output.trans h.output, Nat.le_trans h.size hg.size, fun k hk => (hg.block k (by have := h.size; omega) (hne k hk)).trans (h.block k hk)⟩
/-- The cells of a part of a row of sets. -/
theorem row_news {W : World} {b off cap : Nat} {l : List (BitVec 256)} (h : SetsRow W (.slice (some ⟨b, off, none⟩) l.length cap) l) (t n : Nat) (hn : t + n ≤ l.length) :
    ∀ j u, (flat ((l.drop t).take n))[j]? = some u → W.cell? (Addr.add ⟨b, off + t * 4, none⟩ j) = some u := fun j u hu => by
  have hlen : j < (flat ((l.drop t).take n)).length := (List.getElem?_eq_some_iff.1 hu).1
  rw [flat_length, List.length_take, List.length_drop] at hlen
  have hk : j / 4 < n := by omega
  have h1 := flat_get ((l.drop t).take n) (j / 4) (by simp; omega) (j % 4) (by omega)
  rw [show j / 4 * 4 + j % 4 = j from by omega, hu] at h1
  have h2 := row_cell h (t + j / 4) (by omega) (j % 4) (by omega)
  rw [Go.WideShapes.add_plain, show off + t * 4 + j = off + (t + j / 4) * 4 + j % 4 from by omega, h2, h1]
  simp [List.getD_eq_getElem?_getD, List.getElem?_drop, hk]

section
variable {ops : Array Oper} {S : World → Prop} {Q : Exit → Act → World → Prop} {fuel : Nat} {listed : Array Bool} {a : Act} {w : World} {oi : Oper} {rest : List Oper}
/-- A call that is ready alone, with all that it tells. -/
theorem h_callE (i : Nat) (f : FuncId) (vs : Array Value) (R : Value → World → Prop) (hi : ops.toList.drop i = oi :: rest) (hr : Region.ready .any ops listed = [i])
    (hw : Region.wanted oi (yielded ops a.tmps) = true) (hv : (execOp a.eval oi).run Tryd.prog w = .ok (.enter f vs) w)
    (hc : Calls Tryd.prog f vs w fun e w' => ∃ v, e = .returned v ∧ R v w') (hRS : ∀ v w', R v w' → S w')
    (h : ∀ v w', R v w' → wpAnyH Tryd.prog .any ops (NoPanic Q) S fuel (listed.setIfInBounds i true) (a.put oi.dst v) w') : wpAnyH Tryd.prog .any ops (NoPanic Q) S (fuel + 1) listed a w := by
  refine h_oper i hi hr hw ?_
  unfold Oper.wp
  rw [hv, Oper.upon_enter]
  refine hc.mono ?_
  rintro e w' ⟨v, rfl, hR⟩
  exact ⟨hRS v w' hR, h v w' hR⟩
end
theorem i64_and255 (n : Int) : bits .and .i64 n 255 = n % 256 := by
  have h15 : (BitVec.ofInt 64 255).toNat = 2 ^ 8 - 1 := by decide
  have key : (BitVec.ofInt 64 n &&& BitVec.ofInt 64 255).toNat = (n % ((2 ^ 64 : Nat) : Int)).toNat % 2 ^ 8 := by
    rw [BitVec.toNat_and, BitVec.toNat_ofInt, h15, Nat.and_two_pow_sub_one_eq_mod]
  show IntKind.i64.wrap ((BitVec.ofInt 64 n &&& BitVec.ofInt 64 255).toNat : Nat) = n % 256
  rw [key, IntKind.wrap_i64]
  omega
theorem and255 (n : Int) : ∃ m : Nat, m < 256 ∧ bits .and .i64 n 255 = (m : Int) := ⟨(n % 256).toNat, by omega, by rw [i64_and255]; omega⟩

set_option maxRecDepth 100000 in
set_option maxHeartbeats 1000000 in
theorem partOrders_any (ad : Option Addr) (cap : Nat) (l : List (BitVec 256)) (t0 : Int) (w : World) (hv : SetsRow w (.slice ad l.length cap) l) (hcl : l.length ≤ cap) (hT : TabAt w) :
    Calls Tryd.prog 8 #[.slice ad l.length cap, .int .i64 t0] w fun e w' => e = .returned (.bool true) ∧ Below w.heap.size w w' := by
  have HV := hide hv
  have HT := hide hT
  have hlen := hv.1
  clear hT hv
  go_enter Tryd.func8, Tryd.ntmps8
  go_wp2_with fail
  refine (head2_any _ HT.out).mono ?_
  rintro e w1 ⟨rfl, hb⟩
  have HB1 := hide hb
  clear hb
  by_cases h8 : 8 < l.length
  · have hd2 : decide (8 < l.length) = true := by simp [h8]
    go_wp2
    go_ret
    exact ⟨rfl, HB1.out⟩
  · have hd2 : decide (8 < l.length) = false := by simp; omega
    by_cases h0 : l.length = 0
    · have hd3 : ((l.length : Int) == 0) = true := by simp [h0]
      go_wp2
      go_ret
      exact ⟨rfl, HB1.out⟩
    · have hd3 : ((l.length : Int) == 0) = false := beq_eq_false_iff_ne.2 (by omega)
      obtain ⟨m, hm, hm2⟩ := and255 t0
      obtain ⟨t, ht, hte⟩ : ∃ t : Nat, t < l.length ∧ (m : Int) % (l.length : Int) = (t : Int) := ⟨m % l.length, Nat.mod_lt _ (by omega), by omega⟩
      have hcap := HV.out
      obtain ⟨-, ad', cap', hv', hc⟩ := hcap
      obtain ⟨rfl, rfl⟩ : ad = ad' ∧ cap = cap' := by cases hv'; exact ⟨rfl, rfl⟩
      obtain ⟨b, off, rfl, -, -⟩ := hc 0 (by omega)
      clear hv' hc
      go_wp2_with fail
      refine (refine_any l _ w1 (HV.out.below HB1.out) (by omega) (HT.out.agree (Agree.of_all (K := fun _ => True) HB1.out) trivial)).mono ?_
      rintro e w2 ⟨va, al, rfl, hpa, hsa, hrow, hb⟩
      have HB2 := hide (HB1.out.trans (hb.mono HB1.out.size))
      have HPA := hide hpa
      have HSA := hide hsa
      have HRA := hide hrow
      have hlenA := hrow.1
      obtain ⟨-, adA, capA, rfl, -⟩ := hrow
      have HV2 := hide (HV.out.below HB2.out)
      clear hb hpa hsa
      go_wp2
      obtain ⟨N, hN⟩ : ∃ N, N = w2.heap.size := ⟨_, rfl⟩
      obtain ⟨S, hSd⟩ : ∃ S : World → Prop, S = fun W => Below N w2 W := ⟨_, rfl⟩
      have hSb : ∀ W, S W → Below N w2 W := fun W h => by rw [hSd] at h; exact h
      have hbS : ∀ W, Below N w2 W → S W := fun W h => by rw [hSd]; exact h
      have hS : S { w2 with drawn := w2.drawn + 1 } := hbS _ ⟨rfl, rfl, rfl, Nat.le_refl _, fun _ _ => rfl⟩
      have hWs : N ≤ ({ w2 with drawn := w2.drawn + 1 } : World).heap.size := Nat.le_of_eq hN
      clear hSd
      refine wp_region_noPanic (wp_region_held (S := S) (by kernel_rfl) ?_)
      show wpAnyH _ _ _ _ _ 10 #[false, false, false, false, false, false, false, false, false, false] _ _
      generalize ({ w2 with drawn := w2.drawn + 1 } : World) = W at hS hWs ⊢
      refine h_take 1 (.slice (some ⟨b, off, none⟩) l.length cap) rfl (by kernel_rfl) (by kernel_rfl) (by kernel_rfl) rfl (fun w hw => x_move _ _ _ _ _ _ _ _ rfl w) hS ?_
      simp only [Act.put, List.setIfInBounds_toArray, List.set_cons_succ, List.set_cons_zero]
      refine h_take 2 (.int .i64 t) rfl (by kernel_rfl) (by kernel_rfl) (by kernel_rfl) rfl (fun w hw => x_move _ _ _ _ _ _ _ _ rfl w) hS ?_
      simp only [Act.put, List.setIfInBounds_toArray, List.set_cons_succ, List.set_cons_zero]
      refine h_take 3 (.slice (some ⟨b, off + t * 4, none⟩) (l.length - t) (cap - t)) rfl (by kernel_rfl) (by kernel_rfl) (by kernel_rfl) rfl (fun w hw => x_sliceLo _ _ _ _ _ _ _ _ b off l.length cap t rfl rfl ht hcl w) hS ?_
      simp only [Act.put, List.setIfInBounds_toArray, List.set_cons_succ, List.set_cons_zero]
      refine h_take 5 (.slice (some ⟨b, off, none⟩) l.length cap) rfl (by kernel_rfl) (by kernel_rfl) (by kernel_rfl) rfl (fun w hw => x_move _ _ _ _ _ _ _ _ rfl w) hS ?_
      simp only [Act.put, List.setIfInBounds_toArray, List.set_cons_succ, List.set_cons_zero]
      refine h_take 6 (.int .i64 t) rfl (by kernel_rfl) (by kernel_rfl) (by kernel_rfl) rfl (fun w hw => x_move _ _ _ _ _ _ _ _ rfl w) hS ?_
      simp only [Act.put, List.setIfInBounds_toArray, List.set_cons_succ, List.set_cons_zero]
      refine h_take 7 (.slice (some ⟨b, off, none⟩) t cap) rfl (by kernel_rfl) (by kernel_rfl) (by kernel_rfl) rfl (fun w hw => x_sliceHi _ _ _ _ _ _ _ _ b off l.length cap t rfl rfl ht hcl w) hS ?_
      simp only [Act.put, List.setIfInBounds_toArray, List.set_cons_succ, List.set_cons_zero]
      have hS2 := hbS _ ((hSb _ hS).alloc hWs (.cells #[] 24))
      refine h_alloc 0 (.slice (some ⟨W.heap.size, 0, none⟩) 0 0) (W.alloc (.cells #[] 24)) rfl (by kernel_rfl) rfl (x_buildNil _ _ _ _ _ _ _) hS2 ?_
      simp only [Act.put, List.setIfInBounds_toArray, List.set_cons_succ, List.set_cons_zero]
      obtain ⟨i, hi, hz0, hz1, hz2⟩ := info_parts infoS
      have hO1 : (W.alloc (.cells #[] 24)).ownsRow N 24 4 (.slice (some ⟨W.heap.size, 0, none⟩) 0 0) 0 (flat []) := ⟨rfl, .inr ⟨W.heap.size, 0, #[], rfl, hWs, Blk.newAt rfl _ _, by omega, by unfold maxLen; omega, rfl, rfl⟩⟩
      have hone : ∀ (q : List (BitVec 256)) (u : Value), u ∈ flat q → u.oneCell' = true := fun q u hu => by
        simp only [flat, List.mem_flatMap] at hu
        obtain ⟨x, -, hx⟩ := hu
        simp [encS] at hx; rcases hx with rfl | rfl | rfl | rfl <;> rfl
      have hr1 : SetsRow (W.alloc (.cells #[] 24)) (.slice (some ⟨b, off, none⟩) l.length cap) l := HV2.out.below (hN ▸ hSb _ hS2)
      refine h_oper 4 rfl (by kernel_rfl) rfl (wp_append_at _ _ _ rfl N _ i _ 4 32 Tryd.underlying47 hi hz0 hz1 hz2 rfl (by omega) _ _ _ rfl hO1 ⟨b, off + t * 4, none⟩ (l.length - t) (cap - t) (flat ((l.drop t).take (l.length - t))) rfl (by rw [flat_length, List.length_take, List.length_drop]; omega) (row_news hr1 t (l.length - t) (by omega)) (hone _) (by unfold maxLen; omega) (by omega) (by simp; omega) ?_)
      intro v1 W1 hO2 hg1
      have hS3 := hbS _ (below_grown (hSb _ hS2) hg1 hO1 (Nat.le_of_eq hN))
      have hW1 : N ≤ W1.heap.size := Nat.le_trans (by simp; omega) hg1.size
      refine ⟨hS3, ?_⟩
      simp only [Act.put, List.setIfInBounds_toArray, List.set_cons_succ, List.set_cons_zero]
      have hr2 : SetsRow W1 (.slice (some ⟨b, off, none⟩) l.length cap) l := HV2.out.below (hN ▸ hSb _ hS3)
      have hn2 := row_news hr2 0 t (by omega)
      simp only [Nat.zero_mul, Nat.add_zero, List.drop_zero] at hn2
      refine h_oper 8 rfl (by kernel_rfl) rfl (wp_append_at _ _ _ rfl N _ i _ 4 32 Tryd.underlying47 hi hz0 hz1 hz2 rfl (by omega) _ _ _ rfl hO2 ⟨b, off, none⟩ t cap (flat (l.take t)) rfl (by rw [flat_length, List.length_take]; omega) hn2 (hone _) (by unfold maxLen; omega) (by omega) hW1 ?_)
      intro v2 W2 hO3 hg2
      have hS4 := hbS _ (below_grown (hSb _ hS3) hg2 hO2 (Nat.le_of_eq hN))
      have hW2 : N ≤ W2.heap.size := Nat.le_trans hW1 hg2.size
      refine ⟨hS4, ?_⟩
      simp only [Act.put, List.setIfInBounds_toArray, List.set_cons_succ, List.set_cons_zero]
      clear hr1 hr2 hn2 hO1 hO2 hg1 hg2 hS hS2 hS3 hWs hW1
      have hS := hS4
      clear hS4
      refine h_take 9 (v2) rfl (by kernel_rfl) (by kernel_rfl) (by kernel_rfl) rfl (fun w hw => x_assign _ _ _ _ _ _ _ _ rfl w) hS ?_
      simp only [Act.put, List.setIfInBounds_toArray, List.set_cons_succ, List.set_cons_zero]
      refine wpAnyH_done (by kernel_rfl) ?_ _
      refine NoPanic.normal ?_
      have HBW := hide (hSb W2 hS)
      have HO3 := hide hO3
      obtain ⟨s, hs⟩ : ∃ s, s = l.getD 0 0 := ⟨_, rfl⟩
      have HS := hide hs
      clear hS hO3
      go_wp2
      have hS : S { W2 with drawn := W2.drawn + 1 } := hbS _ ⟨HBW.out.os, HBW.out.tape, HBW.out.output, HBW.out.size, HBW.out.block⟩
      have hO3 : ({ W2 with drawn := W2.drawn + 1 } : World).ownsRow N 24 4 v2 _ _ := HO3.out
      have hWs : N ≤ ({ W2 with drawn := W2.drawn + 1 } : World).heap.size := hW2
      clear hW2 HO3 HBW hs
      refine wp_region_noPanic (wp_region_held (S := S) (by kernel_rfl) ?_)
      show wpAnyH _ _ _ _ _ 12 #[false, false, false, false, false, false, false, false, false, false, false, false] _ _
      generalize ({ W2 with drawn := W2.drawn + 1 } : World) = Wn at hS hO3 hWs ⊢
      refine h_take 0 (v2) rfl (by kernel_rfl) (by kernel_rfl) (by kernel_rfl) rfl (fun w hw => x_move _ _ _ _ _ _ _ _ rfl w) hS ?_
      simp only [Act.put, List.setIfInBounds_toArray, List.set_cons_succ, List.set_cons_zero]
      refine h_take 1 (.slice (some ⟨b, off, none⟩) l.length cap) rfl (by kernel_rfl) (by kernel_rfl) (by kernel_rfl) rfl (fun w hw => x_move _ _ _ _ _ _ _ _ rfl w) hS ?_
      simp only [Act.put, List.setIfInBounds_toArray, List.set_cons_succ, List.set_cons_zero]
      refine h_take 2 (.pointer (some ⟨b, off + 0 * 4, none⟩)) rfl (by kernel_rfl) (by kernel_rfl) (by kernel_rfl) rfl (fun w hw => x_idxS _ _ _ _ _ _ _ _ b off l.length cap 0 rfl rfl (by omega) w) hS ?_
      simp only [Act.put, List.setIfInBounds_toArray, List.set_cons_succ, List.set_cons_zero]
      refine h_take 3 (SV s) rfl (by kernel_rfl) (by kernel_rfl) (by kernel_rfl) rfl (fun w hw => x_loadAt _ _ _ _ _ _ _ b _ s rfl w (fun j hj => by rw [HS.out]; exact row_cell (HV2.out.below (hN ▸ hSb w hw)) 0 (by omega) j hj)) hS ?_
      simp only [Act.put, List.setIfInBounds_toArray, List.set_cons_succ, List.set_cons_zero]
      refine h_take 4 (.slice (some ⟨b, off, none⟩) l.length cap) rfl (by kernel_rfl) (by kernel_rfl) (by kernel_rfl) rfl (fun w hw => x_move _ _ _ _ _ _ _ _ rfl w) hS ?_
      simp only [Act.put, List.setIfInBounds_toArray, List.set_cons_succ, List.set_cons_zero]
      refine h_take 5 (.pointer (some ⟨b, off + 0 * 4, none⟩)) rfl (by kernel_rfl) (by kernel_rfl) (by kernel_rfl) rfl (fun w hw => x_idxS _ _ _ _ _ _ _ _ b off l.length cap 0 rfl rfl (by omega) w) hS ?_
      simp only [Act.put, List.setIfInBounds_toArray, List.set_cons_succ, List.set_cons_zero]
      refine h_take 6 (SV s) rfl (by kernel_rfl) (by kernel_rfl) (by kernel_rfl) rfl (fun w hw => x_loadAt _ _ _ _ _ _ _ b _ s rfl w (fun j hj => by rw [HS.out]; exact row_cell (HV2.out.below (hN ▸ hSb w hw)) 0 (by omega) j hj)) hS ?_
      simp only [Act.put, List.setIfInBounds_toArray, List.set_cons_succ, List.set_cons_zero]
      refine h_callE 7 21 #[SV s] (fun v w' => v = SV (~~~s) ∧ Below Wn.heap.size Wn w') rfl (by kernel_rfl) rfl (x_call1 _ _ _ _ _ _ _ _ _ _ rfl rfl (enters_of Tryd.func21 (by kernel_rfl) rfl) _) ((not_any s _).mono fun e w' h => ⟨_, h.1, rfl, h.2⟩) (fun v w' h => hbS _ ((hSb _ hS).trans (h.2.mono hWs))) ?_
      rintro v3 W3 ⟨rfl, hb3⟩
      simp only [Act.put, List.setIfInBounds_toArray, List.set_cons_succ, List.set_cons_zero]
      have hS3 := hbS _ ((hSb _ hS).trans (hb3.mono hWs))
      have hO4 := own_below hO3 hb3
      have hW3 : N ≤ W3.heap.size := Nat.le_trans hWs hb3.size
      clear hS hO3 hb3 hWs
      have hS4 := hbS _ ((hSb _ hS3).alloc hW3 (.cells (flat [s, ~~~s]).toArray 24))
      refine h_alloc 8 (.slice (some ⟨W3.heap.size, 0, none⟩) 2 2) (W3.alloc (.cells (flat [s, ~~~s]).toArray 24)) rfl (by kernel_rfl) rfl (x_build2 _ _ _ _ _ _ _ _ _ _ rfl rfl _) hS4 ?_
      simp only [Act.put, List.setIfInBounds_toArray, List.set_cons_succ, List.set_cons_zero]
      have hO5 := own_below hO4 ((Below.refl _ _).alloc (Nat.le_refl _) (.cells (flat [s, ~~~s]).toArray 24))
      have hnews := World.news_of_block (Blk.newAt (w := W3) rfl (flat [s, ~~~s]).toArray 24)
      simp only at hnews
      refine h_oper 9 rfl (by kernel_rfl) rfl (wp_append_at _ _ _ rfl N _ i _ 4 32 Tryd.underlying47 hi hz0 hz1 hz2 rfl (by omega) _ _ _ rfl hO5 ⟨W3.heap.size, 0, none⟩ 2 2 (flat [s, ~~~s]) rfl (by rw [flat_length]; rfl) hnews (hone _) (by unfold maxLen; omega) (by omega) (by simp; omega) ?_)
      intro v4 W4 hO6 hg4
      have hS5 := hbS _ (below_grown (hSb _ hS4) hg4 hO5 (Nat.le_of_eq hN))
      have hW4 : N ≤ W4.heap.size := Nat.le_trans (by simp; omega) hg4.size
      refine ⟨hS5, ?_⟩
      simp only [Act.put, List.setIfInBounds_toArray, List.set_cons_succ, List.set_cons_zero]
      have hflat : flat [] ++ flat ((l.drop t).take (l.length - t)) ++ flat (l.take t) ++ flat [s, ~~~s] = flat (l.drop t ++ l.take t ++ [s, ~~~s]) := by
        rw [List.take_of_length_le (by simp)]
        simp [flat, List.flatMap_append]
      rw [hflat] at hO6
      have hpl : 0 + (l.length - t) + t + 2 = (l.drop t ++ l.take t ++ [s, ~~~s]).length := by simp; omega
      have hpl2 : (l.drop t ++ l.take t ++ [s, ~~~s]).length = l.length + 2 := by simp; omega
      obtain ⟨g, capB, hv4, hg, hin⟩ := own_in hO6 hpl (by omega)
      subst hv4
      have hrowB := in_row (cap := capB) hin (by omega)
      have HTN := hide (HT.out.agree (Agree.of_all (K := fun _ => True) (HB2.out.trans ((hSb _ hS5).mono (by have := HB2.out.size; omega)))) trivial)
      clear hO4 hO5 hO6 hnews hg4 hS3 hS4 hin
      refine h_callE 10 30 #[.slice (some ⟨g, 0, none⟩) (l.drop t ++ l.take t ++ [s, ~~~s]).length capB] (fun v w' => ∃ bl : List (BitVec 256), bl.Perm (refL (l.drop t ++ l.take t ++ [s, ~~~s])) ∧ bl.Pairwise (fun x y => least x ≤ least y) ∧ SetsRow w' v bl ∧ Below W4.heap.size W4 w') rfl (by kernel_rfl) rfl (x_call1 _ _ _ _ _ _ _ _ _ _ rfl rfl (enters_of Tryd.func30 (by kernel_rfl) rfl) _)
        ((refine_any _ _ W4 hrowB (by omega) HTN.out).mono fun e w' ⟨v', l', he, h1, h2, h3, h4⟩ => ⟨v', he, l', h1, h2, h3, h4⟩) (fun v w' ⟨_, _, _, _, h⟩ => hbS _ ((hSb _ hS5).trans (h.mono hW4))) ?_
      rintro vB W5 ⟨bl, hpb, hsb, hrB, hb5⟩
      have hS := hbS _ ((hSb _ hS5).trans (hb5.mono hW4))
      simp only [Act.put, List.setIfInBounds_toArray, List.set_cons_succ, List.set_cons_zero]
      clear hS5 hb5 hrowB hW4 HTN
      refine h_take 11 (vB) rfl (by kernel_rfl) (by kernel_rfl) (by kernel_rfl) rfl (fun w hw => x_assign _ _ _ _ _ _ _ _ rfl w) hS ?_
      simp only [Act.put, List.setIfInBounds_toArray, List.set_cons_succ, List.set_cons_zero]
      refine wpAnyH_done (by kernel_rfl) ?_ _
      refine NoPanic.normal ?_
      have hsl : s ∈ l := by rw [HS.out]; simp [List.getD_eq_getElem?_getD, show 0 < l.length by omega]
      obtain rfl : al = bl := parts_turned t hsl HPA.out hpb HSA.out hsb
      obtain ⟨-, adB, capB', rfl, -⟩ := id hrB
      have HRB := hide hrB
      have HRA2 := hide (HRA.out.below (hN ▸ hSb _ hS))
      have HBF := hide (HB2.out.trans ((hSb _ hS).mono (by have := HB2.out.size; omega)))
      clear hpb hsb hrB hS hSb hbS HPA HSA HRA hsl hflat hpl hpl2 hone
      go_wp2
      obtain ⟨C, hCd⟩ : ∃ C : World → Prop, C = fun W => SetsRow W (.slice adA al.length capA) al ∧ SetsRow W (.slice adB al.length capB') al ∧ Below w.heap.size w W := ⟨_, rfl⟩
      have hC0 : C W5 := by rw [hCd]; exact ⟨HRA2.out, HRB.out, HBF.out⟩
      have hCa : ∀ W, C W → SetsRow W (.slice adA al.length capA) al := fun W h => by rw [hCd] at h; exact h.1
      have hCb : ∀ W, C W → SetsRow W (.slice adB al.length capB') al := fun W h => by rw [hCd] at h; exact h.2.1
      have hCw : ∀ W, C W → Below w.heap.size w W := fun W h => by rw [hCd] at h; exact h.2.2
      have hCd2 : ∀ W, C W → C { W with drawn := W.drawn + 1 } := fun W h => by
        rw [hCd] at h ⊢
        exact ⟨h.1, h.2.1, ⟨h.2.2.os, h.2.2.tape, h.2.2.output, h.2.2.size, h.2.2.block⟩⟩
      clear hCd HRA2 HRB
      go_loopw [53] (fun i wr => ∃ k : Nat, k ≤ al.length ∧ i = .int .i64 k ∧ C wr) (fun i _ => al.length - (intOf i).toNat)
      case atStart => exact ⟨0, by omega, rfl, hC0⟩
      case round =>
        clear hC0
        obtain ⟨k, hk, rfl, hC⟩ := hrel
        by_cases hlt : k < al.length
        · have hkd : decide (k < al.length) = true := by simp [hlt]
          obtain ⟨p, hp⟩ : ∃ p, p = al.getD k 0 := ⟨_, rfl⟩
          have HP := hide hp
          clear hp
          obtain ⟨ba, oa, rfl, -, -⟩ : ∃ b off, adA = some ⟨b, off, none⟩ ∧ True ∧ True := by
            obtain ⟨-, a', c', e, h⟩ := hCa _ hC
            obtain ⟨b', o', rfl, -⟩ := h k hlt
            cases e; exact ⟨_, _, rfl, trivial, trivial⟩
          obtain ⟨bb, ob, rfl, -, -⟩ : ∃ b off, adB = some ⟨b, off, none⟩ ∧ True ∧ True := by
            obtain ⟨-, a', c', e, h⟩ := hCb _ hC
            obtain ⟨b', o', rfl, -⟩ := h k hlt
            cases e; exact ⟨_, _, rfl, trivial, trivial⟩
          go_wp2
          refine w_lit (C := C) (by kernel_rfl) (by kernel_rfl) (hCd2 _ hC) ?_
          refine w_value (.slice (some ⟨ba, oa, none⟩) al.length capA) (by kernel_rfl) (fun w hw => x_move _ _ _ _ _ _ _ _ rfl w) ?_
          simp only [Act.put, List.setIfInBounds_toArray, List.set_cons_succ, List.set_cons_zero]
          refine w_value (.int .i64 k) (by kernel_rfl) (fun w hw => x_move _ _ _ _ _ _ _ _ rfl w) ?_
          simp only [Act.put, List.setIfInBounds_toArray, List.set_cons_succ, List.set_cons_zero]
          refine w_value (.pointer (some ⟨ba, oa + k * 4, none⟩)) (by kernel_rfl) (fun w hw => x_idxS _ _ _ _ _ _ _ _ ba oa al.length capA k rfl rfl hlt w) ?_
          simp only [Act.put, List.setIfInBounds_toArray, List.set_cons_succ, List.set_cons_zero]
          refine w_value (SV p) (by kernel_rfl) (fun w hw => x_loadAt _ _ _ _ _ _ _ ba _ p rfl w (fun j hj => by rw [HP.out]; exact row_cell (hCa w hw) k hlt j hj)) ?_
          simp only [Act.put, List.setIfInBounds_toArray, List.set_cons_succ, List.set_cons_zero]
          refine w_value (.slice (some ⟨bb, ob, none⟩) al.length capB') (by kernel_rfl) (fun w hw => x_move _ _ _ _ _ _ _ _ rfl w) ?_
          simp only [Act.put, List.setIfInBounds_toArray, List.set_cons_succ, List.set_cons_zero]
          refine w_value (.int .i64 k) (by kernel_rfl) (fun w hw => x_move _ _ _ _ _ _ _ _ rfl w) ?_
          simp only [Act.put, List.setIfInBounds_toArray, List.set_cons_succ, List.set_cons_zero]
          refine w_value (.pointer (some ⟨bb, ob + k * 4, none⟩)) (by kernel_rfl) (fun w hw => x_idxS _ _ _ _ _ _ _ _ bb ob al.length capB' k rfl rfl hlt w) ?_
          simp only [Act.put, List.setIfInBounds_toArray, List.set_cons_succ, List.set_cons_zero]
          refine w_value (SV p) (by kernel_rfl) (fun w hw => x_loadAt _ _ _ _ _ _ _ bb _ p rfl w (fun j hj => by rw [HP.out]; exact row_cell (hCb w hw) k hlt j hj)) ?_
          simp only [Act.put, List.setIfInBounds_toArray, List.set_cons_succ, List.set_cons_zero]
          refine w_value (.bool (p != p)) (by kernel_rfl) (fun w hw => x_neqS _ _ _ _ _ _ _ _ _ _ rfl rfl w) ?_
          simp only [Act.put, List.setIfInBounds_toArray, List.set_cons_succ, List.set_cons_zero]
          refine w_nil ?_
          clear hC
          intro w9 hC
          rw [show (p != p) = false from by simp]
          go_wp2
          exact ⟨⟨k + 1, by omega, by go_num, hC⟩, by simp [intOf]; omega⟩
        · obtain rfl : k = al.length := by omega
          go_wp2
          go_ret
          exact ⟨rfl, hCw _ hC⟩
theorem partOrders_all (v : Value) (l : List (BitVec 256)) (t0 : Int) (w : World) (hv : SetsRow w v l) (hc : ∃ a len cap, v = .slice a len cap ∧ len ≤ cap) (hT : TabAt w) :
    Calls Tryd.prog 8 #[v, .int .i64 t0] w fun e w' => e = .returned (.bool true) ∧ Below w.heap.size w w' := by
  obtain ⟨a, len, cap, rfl, h⟩ := hc
  obtain ⟨-, a', c', e, -⟩ := id hv
  cases e
  exact partOrders_any _ _ l t0 w hv h hT
end Go.Proofs.YtfoamihjmmgnlaaDoor
