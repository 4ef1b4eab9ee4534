/- Contracts of package re: Size, Null, made, and the calls that make one expression. -/
import Derived.Test.YtkjmjppmpcnejaaGreatDoorReA
import Derived.LaidEqlPtr
import Derived.Test.YtkjmjppmpcnejaaGreatDoorGen
namespace Go.Proofs.YtkjmjppmpcnejaaGreatDoor
set_option maxRecDepth 100000
set_option linter.unusedSimpArgs false
set_option linter.unusedVariables false
open Go.RowKit

theorem ptr_same (a : Addr) (w : World) : (binOp .eql 26 (.pointer (some a)) (.pointer (some a))).run Tryz.prog w = .ok (.bool true) w := by
  obtain ⟨j, hj⟩ : ∃ j, Tryz.prog.info? 73 = some j := Option.isSome_iff_exists.1 (by kernel_rfl)
  exact run_eql_ptr_same w a Tryz.underlying26 hj
theorem ptr_other {a b : Nat} {ca cb : Array Value} {ta tb : TypeId} (w : World) (hne : a ≠ b) (ha : Blk w a ca ta) (hb : Blk w b cb tb) : (binOp .eql 26 (.pointer (some ⟨a, 0, none⟩)) (.pointer (some ⟨b, 0, none⟩))).run Tryz.prog w = .ok (.bool false) w := by
  have h : (Tryz.prog.info? 73).map (·.size) = some 9 := by kernel_rfl
  cases hi : Tryz.prog.info? 73 with
  | none => rw [hi] at h; cases h
  | some i =>
    rw [hi] at h; simp at h
    exact run_eql_ptr_other w Tryz.underlying26 hi (by omega) (by simp [hne]) ha hb

theorem size_any (b : Nat) (r : RE) (w : World) (h : ReAt w b r) :
    Calls Tryz.prog 13 #[PT b] w fun e w' => e = .returned (.int .i64 r.size) ∧ w' = w := by
  obtain ⟨v, hb, -⟩ := h.row
  have c6 := hb.cell 6; have c8 := hb.cell 8
  simp only [reC, List.getElem?_toArray, List.getElem?_cons_zero, List.getElem?_cons_succ, PT] at c6 c8
  have hself := ptr_same ⟨b, 0, none⟩
  unfold PT
  go_enter Tryz.func13, Tryz.ntmps13
  go_wp2
  go_ret
  exact ⟨rfl, rfl⟩

theorem settled_any (b : Nat) (r : RE) (w : World) (h : ReAt w b r) :
    Calls Tryz.prog 51 #[PT b] w fun e w' => e = .returned (PT b) ∧ w' = w := by
  obtain ⟨v, hb, -⟩ := h.row
  have c6 := hb.cell 6
  simp only [reC, List.getElem?_toArray, List.getElem?_cons_zero, List.getElem?_cons_succ, PT] at c6
  have hself := ptr_same ⟨b, 0, none⟩
  unfold PT
  go_enter Tryz.func51, Tryz.ntmps51
  go_wp2
  go_ret
  exact ⟨rfl, rfl⟩

theorem null_any (b : Nat) (r : RE) (w : World) (h : ReAt w b r) :
    Calls Tryz.prog 86 #[PT b] w fun e w' => e = .returned (.bool r.null) ∧ w' = w := by
  obtain ⟨v, hb, -⟩ := h.row
  have c7 := hb.cell 7
  simp only [reC, List.getElem?_toArray, List.getElem?_cons_zero, List.getElem?_cons_succ, PT] at c7
  have hself := ptr_same ⟨b, 0, none⟩
  unfold PT
  go_enter Tryz.func86, Tryz.ntmps86
  go_wp2_with fail
  refine (settled_any b r w h).mono ?_
  rintro e w1 ⟨rfl, rfl⟩
  unfold PT
  go_wp2
  go_ret
  exact ⟨rfl, rfl⟩

theorem fails_any (b : Nat) (r : RE) (w : World) (h : ReAt w b r) :
    Calls Tryz.prog 85 #[PT b] w fun e w' => e = .returned (.bool (!r.null)) ∧ w' = w := by
  go_enter Tryz.func85, Tryz.ntmps85
  go_wp2_with fail
  refine (null_any b r w h).mono ?_
  rintro e w1 ⟨rfl, rfl⟩
  go_wp2
  go_ret
  exact ⟨rfl, rfl⟩

set_option maxHeartbeats 400000 in
theorem sizeOf_any (l : List RE) (v : Value) (w : World) (h : ResRow w v l) :
    Calls Tryz.prog 38 #[v] w fun e w' => e = .returned (.int .i64 (sizeL l)) ∧ w' = w := by
  obtain ⟨hn, ad, cap, rfl, hc⟩ := h.at
  go_enter Tryz.func38, Tryz.ntmps38
  go_wp2
  go_loopw [3, 9] (fun n i wr => ∃ k : Nat, k ≤ l.length ∧ i = .int .i64 k ∧ n = .int .i64 (sizeL (l.take k)) ∧ wr = w) (fun _ i _ => l.length - (intOf i).toNat)
  case atStart => exact ⟨0, by omega, rfl, rfl, rfl⟩
  case round =>
    obtain ⟨k, hk, rfl, rfl, rfl⟩ := hrel
    by_cases hlt : k < l.length
    · obtain ⟨b, off, bk, rfl, hb, hcell, hre⟩ := hc k hlt
      unfold PT at hcell
      have hkd : decide (k < l.length) = true := by simp [hlt]
      have HS := hide (sizeL_succ l k hlt)
      have h1 := sizeL_le (l.take k)
      have h2 := (l[k]).size_le
      generalize hsz : (l[k]).size = sz at *
      generalize hsn : sizeL (l.take k) = sn at *
      go_wp2_with fail
      refine (size_any bk _ _ hre).mono ?_
      rintro e w1 ⟨rfl, rfl⟩
      rw [hsz]
      go_wp2
      refine ⟨⟨k + 1, by omega, by go_num, ?_, trivial⟩, by simp [intOf]; omega⟩
      rw [HS.out]
      unfold sat
      congr 1
      omega
    · obtain rfl : k = l.length := by omega
      rw [List.take_length]
      go_wp2
      go_ret
      exact ⟨rfl, rfl⟩

/-- slices.IndexFunc at expressions, of a function that only reads. -/
theorem indexFunc_any (fid : FuncId) (ent : ∀ args w, (callFunc fid args).run Tryz.prog w = .ok (.enter fid args) w) (p : RE → Bool) (l : List RE) (v : Value) (w : World) (h : ResRow w v l)
    (hp : ∀ b r, ReAt w b r → Calls Tryz.prog fid #[PT b] w fun e w' => e = .returned (.bool (p r)) ∧ w' = w) :
    Calls Tryz.prog 94 #[v, .func (.func fid) #[] #[]] w fun e w' => ∃ i : Int, e = .returned (.int .i64 i) ∧ decide (0 ≤ i) = l.any p ∧ w' = w := by
  obtain ⟨hn, ad, cap, rfl, hc⟩ := h.at
  go_enter Tryz.func94, Tryz.ntmps94
  go_wp2
  go_loopw [8] (fun i wr => ∃ k : Nat, k ≤ l.length ∧ i = .int .i64 k ∧ (l.take k).any p = false ∧ wr = w) (fun i _ => l.length - (intOf i).toNat)
  case atStart => exact ⟨0, by omega, rfl, rfl, rfl⟩
  case round =>
    obtain ⟨k, hk, rfl, hany, rfl⟩ := hrel
    by_cases hlt : k < l.length
    · obtain ⟨b, off, bk, rfl, hb, hcell, hre⟩ := hc k hlt
      unfold PT at hcell
      have hkd : decide (k < l.length) = true := by simp [hlt]
      have hany2 : (l.take (k + 1)).any p = p l[k] := by
        rw [List.take_succ_eq_append_getElem hlt, List.any_append, hany]; simp
      have hmem : l[k] ∈ l := List.getElem_mem hlt
      generalize hr : l[k] = r at *
      have HA := hide hany2
      clear hany hany2
      go_wp2_with fail
      refine (hp bk _ hre).mono ?_
      rintro e w1 ⟨rfl, rfl⟩
      cases hpr : p r with
      | true =>
        go_wp2
        go_ret
        refine ⟨_, rfl, ?_, rfl⟩
        have : l.any p = true := List.any_eq_true.2 ⟨r, hmem, hpr⟩
        rw [this]; simp
      | false =>
        rw [hpr] at HA
        go_wp2
        exact ⟨⟨k + 1, by omega, by go_num, HA.out, trivial⟩, by simp [intOf]; omega⟩
    · obtain rfl : k = l.length := by omega
      rw [List.take_length] at hany
      have HA := hide hany
      clear hany
      go_wp2
      go_ret
      exact ⟨_, rfl, by rw [HA.out]; rfl, rfl⟩
theorem containsFunc_any (fid : FuncId) (ent : ∀ args w, (callFunc fid args).run Tryz.prog w = .ok (.enter fid args) w) (p : RE → Bool) (l : List RE) (v : Value) (w : World) (h : ResRow w v l)
    (hp : ∀ b r, ReAt w b r → Calls Tryz.prog fid #[PT b] w fun e w' => e = .returned (.bool (p r)) ∧ w' = w) :
    Calls Tryz.prog 84 #[v, .func (.func fid) #[] #[]] w fun e w' => e = .returned (.bool (l.any p)) ∧ w' = w := by
  go_enter Tryz.func84, Tryz.ntmps84
  go_wp2_with fail
  refine (indexFunc_any fid ent p l v w h hp).mono ?_
  rintro e w1 ⟨i, rfl, hi, rfl⟩
  have HI := hide hi
  clear hi
  go_wp2
  go_ret
  exact ⟨congrArg (fun x => Ending.returned (Value.bool x)) HI.out, rfl⟩

theorem any_not (l : List RE) : (!(l.any fun r => !r.null)) = (l.map RE.null).all id := by
  induction l with
  | nil => rfl
  | cons x r ih =>
    simp only [List.any_cons, List.map_cons, List.all_cons, id, ← ih, Bool.not_or, Bool.not_not]

set_option maxHeartbeats 1000000 in
theorem hasNull_any (b o : Nat) (s : BitVec 256) (ks : List RE) (v : Value) (w : World) (ho : o ≤ 7) (h7 : o = 7 → ks.length = 2)
    (c0 : w.cell? ⟨b, 0, none⟩ = some (.int .i64 o)) (c5 : w.cell? ⟨b, 5, none⟩ = some v) (h : ResRow w v ks) :
    Calls Tryz.prog 69 #[PT b] w fun e w' => e = .returned (.bool (RE.mk o s ks).null) ∧ w' = w := by
  obtain ⟨nv, hnv⟩ : ∃ nv, nv = (RE.mk o s ks).null := ⟨_, rfl⟩
  rw [← hnv]
  rw [RE.null_mk] at hnv
  have HN := hide hnv
  clear hnv
  have e39 := enters_of Tryz.func86 (by kernel_rfl) rfl
  have e105 := enters_of Tryz.func85 (by kernel_rfl) rfl
  unfold PT
  have ho' : o = 0 ∨ o = 1 ∨ o = 2 ∨ o = 3 ∨ o = 4 ∨ o = 5 ∨ o = 6 ∨ o = 7 := by omega
  rcases ho' with rfl | rfl | rfl | rfl | rfl | rfl | rfl | rfl
  · go_enter Tryz.func69, Tryz.ntmps69
    go_wp2
    go_ret
    exact ⟨congrArg (fun x => Ending.returned (Value.bool x)) (Eq.symm HN.out), rfl⟩
  · go_enter Tryz.func69, Tryz.ntmps69
    go_wp2
    go_ret
    exact ⟨congrArg (fun x => Ending.returned (Value.bool x)) (Eq.symm HN.out), rfl⟩
  · go_enter Tryz.func69, Tryz.ntmps69
    go_wp2
    go_ret
    exact ⟨congrArg (fun x => Ending.returned (Value.bool x)) (Eq.symm HN.out), rfl⟩
  · go_enter Tryz.func69, Tryz.ntmps69
    go_wp2_with fail
    refine (containsFunc_any _ e105 (fun r => !r.null) ks v w h fun b r hr => fails_any b r w hr).mono ?_
    rintro e w1 ⟨rfl, rfl⟩
    go_wp2
    go_ret
    exact ⟨congrArg (fun x => Ending.returned (Value.bool x)) ((any_not ks).trans HN.out.symm), rfl⟩
  · go_enter Tryz.func69, Tryz.ntmps69
    go_wp2_with fail
    refine (containsFunc_any _ e39 RE.null ks v w h fun b r hr => null_any b r w hr).mono ?_
    rintro e w1 ⟨rfl, rfl⟩
    go_wp2
    go_ret
    exact ⟨congrArg (fun x => Ending.returned (Value.bool x)) ((show ks.any RE.null = (ks.map RE.null).any id from by simp [List.any_map]).trans HN.out.symm), rfl⟩
  · go_enter Tryz.func69, Tryz.ntmps69
    go_wp2
    go_ret
    exact ⟨congrArg (fun x => Ending.returned (Value.bool x)) (Eq.symm HN.out), rfl⟩
  · go_enter Tryz.func69, Tryz.ntmps69
    go_wp2_with fail
    refine (containsFunc_any _ e105 (fun r => !r.null) ks v w h fun b r hr => fails_any b r w hr).mono ?_
    rintro e w1 ⟨rfl, rfl⟩
    go_wp2
    go_ret
    exact ⟨congrArg (fun x => Ending.returned (Value.bool x)) ((any_not ks).trans HN.out.symm), rfl⟩
  · have hk2 := h7 rfl
    obtain ⟨hn, ad, cap, rfl, hc⟩ := h.at
    match ks, hk2 with
    | [x, y], _ =>
    obtain ⟨bb, off, b0, rfl, -, d0, h0⟩ := hc 0 (by simp)
    obtain ⟨bb', off', b1, e, -, d1, h1⟩ := hc 1 (by simp)
    cases e
    simp only [List.length_cons, List.length_nil] at *
    simp only [List.getElem_cons_zero, List.getElem_cons_succ] at h0 h1
    unfold PT at d0 d1
    rw [Nat.add_zero] at d0
    go_enter Tryz.func69, Tryz.ntmps69
    go_wp2_with fail
    refine (null_any b0 x w h0).mono ?_
    rintro e w1 ⟨rfl, rfl⟩
    cases hx : x.null with
    | false =>
      go_wp2
      go_ret
      exact ⟨congrArg (fun x => Ending.returned (Value.bool x)) ((show false = _ from by simp [hx]).trans HN.out.symm), rfl⟩
    | true =>
      go_wp2_with fail
      refine (fails_any b1 y _ h1).mono ?_
      rintro e w1 ⟨rfl, rfl⟩
      go_wp2
      go_ret
      exact ⟨congrArg (fun x => Ending.returned (Value.bool x)) ((show (!y.null) = _ from by simp [hx]).trans HN.out.symm), rfl⟩

theorem resRow_nil (w : World) : ResRow w (.slice none 0 0) [] := ⟨fun _ => 0, ⟨⟨by simp, .mk (by omega)⟩, none, 0, rfl, fun k hk => by simp at hk⟩, fun i k hk => by simp at hk⟩

/-- The cells of a new expression, ahead of what made stores into it. -/
def reC0 (o : Nat) (s : BitVec 256) (v : Value) (sz : Nat) : Array Value :=
  #[.int .i64 o, .int .u64 (wd s 0), .int .u64 (wd s 1), .int .u64 (wd s 2), .int .u64 (wd s 3), v, .pointer none, .bool false, .int .i64 sz]
theorem x_buildRe (ρ : Operand → Value) (d : Option Tmp) (x y z u : Operand) (t : TypeId) (pos : String) (af : Array Edge) (g : Option (Nat × Bool)) (o : Nat) (s : BitVec 256) (a : Option Addr) (n cap : Nat) (sz : Nat)
    (hx : ρ x = .int .i64 o) (hy : ρ y = SV s) (hz : ρ z = .slice a n cap) (hu : ρ u = .int .i64 sz) (w : World) :
    (execOp ρ { dst := d, op := .build 73 #[(0, x), (1, y), (2, z), (5, u)], type := t, pos := pos, after := af, guard := g }).run Tryz.prog w = .ok (.value (.agg (reC0 o s (.slice a n cap) sz))) w := by
  simp [go_sem, hx, hy, hz, hu, reC0]
theorem x_boxRe (ρ : Operand → Value) (d : Option Tmp) (x : Operand) (t : TypeId) (pos : String) (af : Array Edge) (g : Option (Nat × Bool)) (c : Array Value) (hx : ρ x = .agg c) (w : World) :
    (execOp ρ { dst := d, op := .box 73 x, type := t, pos := pos, after := af, guard := g }).run Tryz.prog w = .ok (.value (PT w.heap.size)) (w.alloc (.cells c 73)) := by
  simp [go_sem, hx, PT]

set_option maxHeartbeats 1000000 in
theorem made_any (o : Nat) (s : BitVec 256) (ks : List RE) (v : Value) (w : World) (ho : o ≤ 7) (h7 : o = 7 → ks.length = 2) (h : ResRow w v ks) :
    Calls Tryz.prog 47 #[.int .i64 o, SV s, v] w fun e w' => ∃ b, e = .returned (PT b) ∧ ReAt w' b (.mk o s ks) ∧ Below w.heap.size w w' := by
  obtain ⟨hn, ad, cap, rfl, -⟩ := h.at
  go_enter Tryz.func47, Tryz.ntmps47
  go_wp2
  obtain ⟨S, hSd⟩ : ∃ S : World → Prop, S = fun W => Blk W w.heap.size (WS s) 42 ∧ Below w.heap.size w W := ⟨_, rfl⟩
  have hSk : ∀ W, S W → Blk W w.heap.size (WS s) 42 := fun W h => by rw [hSd] at h; exact h.1
  have hSb : ∀ W, S W → Below w.heap.size w W := fun W h => by rw [hSd] at h; exact h.2
  have hSg : ∀ W W', S W → Below W.heap.size W W' → S W' := fun W W' h hb => by
    rw [hSd] at h ⊢
    exact ⟨h.1.below hb h.1.lt, h.2.trans (hb.mono h.2.size)⟩
  have hS : S { w.alloc (.cells (WS s) 42) with drawn := (w.alloc (.cells (WS s) 42)).drawn + 1 } := by
    rw [hSd]
    have hb := (Below.refl w.heap.size w).alloc (Nat.le_refl _) (.cells (WS s) 42)
    exact ⟨Blk.newAt rfl _ _, ⟨hb.os, hb.tape, hb.output, hb.size, hb.block⟩⟩
  clear hSd
  refine wp_region_noPanic (wp_region_held (S := S) (by kernel_rfl) ?_)
  show wpAnyH _ _ _ _ _ 8 #[false, false, false, false, false, false, false, false] _ _
  generalize ({ w.alloc (.cells (WS s) 42) with drawn := (w.alloc (.cells (WS s) 42)).drawn + 1 } : World) = W at hS ⊢
  refine h_take 0 (.int .i64 o) rfl (by kernel_rfl) (by kernel_rfl) (by kernel_rfl) rfl (fun w hw => x_move _ _ _ _ _ _ _ _ rfl w) hS ?_
  simp only [Act.put, List.setIfInBounds_toArray, List.set_cons_succ, List.set_cons_zero]
  refine h_take 1 (SV s) rfl (by kernel_rfl) (by kernel_rfl) (by kernel_rfl) rfl (fun w hw => x_loadSet _ _ _ _ _ _ _ _ s rfl w (hSk w hw)) hS ?_
  simp only [Act.put, List.setIfInBounds_toArray, List.set_cons_succ, List.set_cons_zero]
  refine h_take 2 (.slice ad ks.length cap) rfl (by kernel_rfl) (by kernel_rfl) (by kernel_rfl) rfl (fun w hw => x_move _ _ _ _ _ _ _ _ rfl w) hS ?_
  simp only [Act.put, List.setIfInBounds_toArray, List.set_cons_succ, List.set_cons_zero]
  refine h_take 3 (.slice ad ks.length cap) rfl (by kernel_rfl) (by kernel_rfl) (by kernel_rfl) rfl (fun w hw => x_move _ _ _ _ _ _ _ _ rfl w) hS ?_
  simp only [Act.put, List.setIfInBounds_toArray, List.set_cons_succ, List.set_cons_zero]
  have hr := h.below (hSb _ hS)
  refine h_callE 4 38 #[.slice ad ks.length cap] (fun v w' => v = .int .i64 (sizeL ks) ∧ w' = W) rfl (by kernel_rfl) rfl (x_call1 _ _ _ _ _ _ _ _ _ _ rfl rfl (enters_of Tryz.func38 (by kernel_rfl) rfl) _) ((sizeOf_any ks _ W hr).mono fun e w' h => ⟨_, h.1, rfl, h.2⟩) (fun v w' h => h.2 ▸ hS) ?_
  rintro v3 W3 ⟨rfl, rfl⟩
  simp only [Act.put, List.setIfInBounds_toArray, List.set_cons_succ, List.set_cons_zero]
  refine h_take 5 (.agg (reC0 o s (.slice ad ks.length cap) (sizeL ks))) rfl (by kernel_rfl) (by kernel_rfl) (by kernel_rfl) rfl (fun w hw => x_buildRe _ _ _ _ _ _ _ _ _ _ o s _ _ _ _ rfl rfl rfl rfl w) hS ?_
  simp only [Act.put, List.setIfInBounds_toArray, List.set_cons_succ, List.set_cons_zero]
  have hb6 := (Below.refl W3.heap.size W3).alloc (Nat.le_refl _) (.cells (reC0 o s (.slice ad ks.length cap) (sizeL ks)) 73)
  refine h_alloc 6 (PT W3.heap.size) (W3.alloc (.cells (reC0 o s (.slice ad ks.length cap) (sizeL ks)) 73)) rfl (by kernel_rfl) rfl (x_boxRe _ _ _ _ _ _ _ _ rfl _) (hSg _ _ hS hb6) ?_
  simp only [Act.put, List.setIfInBounds_toArray, List.set_cons_succ, List.set_cons_zero]
  refine h_take 7 (PT W3.heap.size) rfl (by kernel_rfl) (by kernel_rfl) (by kernel_rfl) rfl (fun w hw => x_assign _ _ _ _ _ _ _ _ rfl w) (hSg _ _ hS hb6) ?_
  simp only [Act.put, List.setIfInBounds_toArray, List.set_cons_succ, List.set_cons_zero]
  refine wpAnyH_done (by kernel_rfl) ?_ _
  refine NoPanic.normal ?_
  have HW := hide (hSb _ hS)
  have HR := hide hr
  obtain ⟨B, hB⟩ : ∃ B, B = W3.heap.size := ⟨_, rfl⟩
  rw [← hB]
  have kb := Blk.newAt hB (reC0 o s (.slice ad ks.length cap) (sizeL ks)) 73
  have HR2 := hide (hr.below hb6)
  have HB6 := hide hb6
  clear hSk hSb hSg hS hr hb6 h
  generalize W3.alloc (.cells (reC0 o s (.slice ad ks.length cap) (sizeL ks)) 73) = W4 at kb HR2 HB6 ⊢
  have HBE := hide hB
  clear hB
  have c0 := kb.cell 0; have c5 := kb.cell 5
  simp only [reC0, List.getElem?_toArray, List.getElem?_cons_zero, List.getElem?_cons_succ] at c0 c5
  have HK := hide kb
  clear kb
  unfold PT
  go_wp2_with fail
  refine (hasNull_any B o s ks _ _ ho h7 c0 c5 HR2.out).mono ?_
  rintro e w4 ⟨rfl, rfl⟩
  have f7 := HK.out.frozen 7; have f6 := HK.out.frozen 6
  have c7 := HK.out.cell 7; have c6 := HK.out.cell 6
  simp only [reC0, List.getElem?_toArray, List.getElem?_cons_zero, List.getElem?_cons_succ] at c6 c7
  go_wp2
  go_ret
  have hw := HW.out.size
  have hbe := HBE.out
  have hlt := HK.out.lt
  have hset := ((HK.out.set 7 (.bool (RE.mk o s ks).null)).set 6 (PT B))
  have hbel : Below w.heap.size w ((w4.setCell ⟨B, 7, none⟩ (.bool (RE.mk o s ks).null)).setCell ⟨B, 6, none⟩ (PT B)) :=
    ((HW.out.trans (HB6.out.mono hw)).setCell (by simp; omega) _).setCell (by simp; omega) _
  refine ⟨B, rfl, ReAt.ofRow (v := .slice ad ks.length cap) ?_ ?_, hbel⟩
  · rw [show (RE.mk o s ks).size = sizeL ks from RE.size_mk o s ks]
    exact hset
  · refine HR.out.below ?_
    exact (HB6.out.setCell (by simp; omega) _).setCell (by simp; omega) _

/-- What the calls make. -/
def rNothing : RE := .mk 0 0#256 []
def rEmpty : RE := .mk 1 0#256 []
def rOne (s : BitVec 256) : RE := if s = 0#256 then rNothing else .mk 2 s []
def rJoin (o : Nat) (l : List RE) : RE := match l with
  | [r] => r
  | l => .mk o 0#256 l
theorem rJoin_one (o : Nat) (r : RE) : rJoin o [r] = r := rfl
theorem rJoin_more (o : Nat) (l : List RE) (h : l.length ≠ 1) : rJoin o l = .mk o 0#256 l := by
  unfold rJoin
  split
  · simp at h
  · rfl

theorem nothing_any (w : World) : Calls Tryz.prog 33 #[] w fun e w' => ∃ b, e = .returned (PT b) ∧ ReAt w' b rNothing ∧ Below w.heap.size w w' := by
  go_enter Tryz.func33, Tryz.ntmps33
  go_wp2_with fail
  refine (made_any 0 0#256 [] _ w (by omega) (by simp) (resRow_nil w)).mono ?_
  rintro e w1 ⟨b, rfl, h1, h2⟩
  go_wp2
  go_ret
  exact ⟨b, rfl, h1, h2⟩
theorem empty_re (w : World) : Calls Tryz.prog 35 #[] w fun e w' => ∃ b, e = .returned (PT b) ∧ ReAt w' b rEmpty ∧ Below w.heap.size w w' := by
  go_enter Tryz.func35, Tryz.ntmps35
  go_wp2_with fail
  refine (made_any 1 0#256 [] _ w (by omega) (by simp) (resRow_nil w)).mono ?_
  rintro e w1 ⟨b, rfl, h1, h2⟩
  go_wp2
  go_ret
  exact ⟨b, rfl, h1, h2⟩
theorem one_any (s : BitVec 256) (w : World) : Calls Tryz.prog 19 #[SV s] w fun e w' => ∃ b, e = .returned (PT b) ∧ ReAt w' b (rOne s) ∧ Below w.heap.size w w' := by
  go_enter Tryz.func19, Tryz.ntmps19
  go_wp2_with fail
  refine (empty_any s _).mono ?_
  rintro e w1 ⟨rfl, hb⟩
  have hB := ((Below.refl w.heap.size w).alloc (Nat.le_refl _) (.cells (WS s) 42)).trans (hb.mono (by simp))
  have kb := (Blk.newAt (w := w) rfl (WS s) 42).below hb (by simp)
  have c0 := kb.cell 0; have c1 := kb.cell 1; have c2 := kb.cell 2; have c3 := kb.cell 3
  simp only [List.getElem?_toArray, List.getElem?_cons_zero, List.getElem?_cons_succ] at c0 c1 c2 c3
  have HB := hide hB
  clear hB hb kb
  by_cases he : s = 0#256
  · rw [show (s == 0#256) = true from by simp [he]]
    have HE := hide he
    clear he
    go_wp2_with fail
    refine (nothing_any _).mono ?_
    rintro e w2 ⟨b, rfl, h1, h2⟩
    go_wp2
    go_ret
    exact ⟨b, rfl, by rw [rOne, if_pos HE.out]; exact h1, HB.out.trans (h2.mono HB.out.size)⟩
  · rw [show (s == 0#256) = false from by simp [he]]
    have HE := hide he
    clear he
    go_wp2_with fail
    refine (made_any 2 s [] _ _ (by omega) (by simp) (resRow_nil _)).mono ?_
    rintro e w2 ⟨b, rfl, h1, h2⟩
    go_wp2
    go_ret
    exact ⟨b, rfl, by rw [rOne, if_neg HE.out]; exact h1, HB.out.trans (h2.mono HB.out.size)⟩
theorem join_any (o : Nat) (l : List RE) (v : Value) (w : World) (ho : o ≤ 7) (h7 : o = 7 → l.length = 2) (h : ResRow w v l) :
    Calls Tryz.prog 52 #[.int .i64 o, v] w fun e w' => ∃ b, e = .returned (PT b) ∧ ReAt w' b (rJoin o l) ∧ Below w.heap.size w w' := by
  obtain ⟨hn, ad, cap, rfl, hc⟩ := h.at
  by_cases h1 : l.length = 1
  · match l, h1 with
    | [r], _ =>
    obtain ⟨bb, off, b0, rfl, -, d0, h0⟩ := hc 0 (by simp)
    unfold PT at d0
    rw [Nat.add_zero] at d0
    simp only [List.length_cons, List.length_nil, Nat.zero_add] at *
    simp only [List.getElem_cons_zero] at h0
    go_enter Tryz.func52, Tryz.ntmps52
    go_wp2
    go_ret
    exact ⟨b0, rfl, h0, Below.refl _ _⟩
  · have hd : ((l.length : Int) == 1) = false := beq_eq_false_iff_ne.2 (by omega)
    have HR := hide h
    clear h hc
    go_enter Tryz.func52, Tryz.ntmps52
    go_wp2_with fail
    refine (made_any o 0#256 l _ w ho h7 HR.out).mono ?_
    rintro e w1 ⟨b, rfl, h2, h3⟩
    go_wp2
    go_ret
    exact ⟨b, rfl, by rw [rJoin_more o l h1]; exact h2, h3⟩
end Go.Proofs.YtkjmjppmpcnejaaGreatDoor
