/- Texts of this claim put together: TmL, TmM. -/
import Derived.Test.YtblpekljiilkjaaGreatDoorJoinTmL4
import Derived.Test.YtblpekljiilkjaaGreatDoorJoinTmL2
import Derived.Test.YtblpekljiilkjaaGreatDoorJoinTmL5
import Derived.Test.YtblpekljiilkjaaGreatDoorJoinTmJ
/- Write. -/
namespace Go.Proofs.YtblpekljiilkjaaGreatDoor
set_option maxRecDepth 100000
set_option linter.unusedSimpArgs false
set_option linter.unusedVariables false
open Go.RowKit Go.Shelf

theorem write_any (t : TM) : WfT t → LwT t := by
  refine TM.ind (P := fun t => WfT t → LwT t) ?_ t
  intro o nm tx bk r ks ih hwf b w hR hl hT
  obtain ⟨rp, a, c, hS⟩ := hR.see
  have hih : ∀ x ∈ ks, LwT x := fun x hx => ih x hx (hwf.kid x hx)
  rw [TM.txt_mk] at hl ⊢
  rcases op_cases hwf.op with h | h | h | h | h | h | h | h | h | h | h | h | h | h | h | h
  all_goals subst h
  · exact write_2 b nm tx bk r ks rp a c w hS hwf hih hl hT
  · exact write_3 b nm tx bk r ks rp a c w hS hwf hih hl hT
  · exact write_4 b nm tx bk r ks rp a c w hS hwf hih hl hT
  · exact write_5 b nm tx bk r ks rp a c w hS hwf hih hl hT
  · exact write_6 b nm tx bk r ks rp a c w hS hwf hih hl hT
  · exact write_7 b nm tx bk r ks rp a c w hS hwf hih hl hT
  · exact write_8 b nm tx bk r ks rp a c w hS hwf hih hl hT
  · exact write_9 b nm tx bk r ks rp a c w hS hwf hih hl hT
  · exact write_10 b nm tx bk r ks rp a c w hS hwf hih hl hT
  · exact write_11 b nm tx bk r ks rp a c w hS hwf hih hl hT
  · exact write_12 b nm tx bk r ks rp a c w hS hwf hih hl hT
  · exact write_13 b nm tx bk r ks rp a c w hS hwf hih hl hT
  · exact write_14 b nm tx bk r ks rp a c w hS hwf hih hl hT
  · exact write_15 b nm tx bk r ks rp a c w hS hwf hih hl hT
  · exact write_16 b nm tx bk r ks rp a c w hS hwf hih hl hT
  · exact write_17 b nm tx bk r ks rp a c w hS hwf hih hl hT
end Go.Proofs.YtblpekljiilkjaaGreatDoor
/- Size; no term at all. -/
namespace Go.Proofs.YtblpekljiilkjaaGreatDoor
set_option maxRecDepth 100000
set_option linter.unusedSimpArgs false
set_option linter.unusedVariables false
open Go.RowKit Go.Shelf

def TM.sz : TM → Nat
  | .mk _ _ _ _ _ ks => 1 + (ks.map fun k => k.sz).sum
theorem TM.sz_mk (o : Nat) (n t b : ByteArray) (r : Option RE) (ks : List TM) : (TM.mk o n t b r ks).sz = 1 + (ks.map TM.sz).sum := by rw [TM.sz]
theorem sz_take (ks : List TM) (k : Nat) (h : k < ks.length) : ((ks.take (k + 1)).map TM.sz).sum = ((ks.take k).map TM.sz).sum + (ks[k]).sz := by
  rw [List.take_succ_eq_append_getElem h, List.map_append, List.sum_append]; simp
theorem sz_take_le (ks : List TM) (k : Nat) : ((ks.take k).map TM.sz).sum ≤ (ks.map TM.sz).sum := by
  conv => rhs; rw [← List.take_append_drop k ks, List.map_append, List.sum_append]
  omega
set_option maxHeartbeats 2000000 in
theorem sizeT_any (t : TM) : ∀ (b : Nat) (w : World), TmAt w b t → t.sz ≤ 1000000000 →
    Calls Tryz.prog 17 #[PT b] w fun e w' => e = .returned (.int .i64 t.sz) ∧ Below w.heap.size w w' := by
  refine TM.ind (P := fun t => ∀ (b : Nat) (w : World), TmAt w b t → t.sz ≤ 1000000000 →
    Calls Tryz.prog 17 #[PT b] w fun e w' => e = .returned (.int .i64 t.sz) ∧ Below w.heap.size w w') ?_ t
  intro o nm tx bk r ks ih b w hR hl
  obtain ⟨rp, a, c, hS⟩ := hR.see
  have c6 := hS.c6 w (Below.refl _ _)
  have HS := hide hS
  have HIH := hide ih
  rw [TM.sz_mk] at hl ⊢
  have HL := hide hl
  have hkl : ks.length ≤ 4611686018427387904 := hS.row.at.1
  clear hS ih hR hl
  unfold PT
  go_enter Tryz.func17, Tryz.ntmps17
  go_wp2
  clear c6
  go_loopw [3, 13] (fun q i wr => ∃ k n : Nat, k ≤ ks.length ∧ i = .int .i64 k ∧ q = .int .i64 n ∧ Hid (n = 1 + ((ks.take k).map TM.sz).sum) ∧ Hid (Below w.heap.size w wr)) (fun _ i _ => ks.length - (intOf i).toNat)
  case atStart => exact ⟨0, 1, by omega, rfl, rfl, rfl, Below.refl _ _⟩
  case round =>
    obtain ⟨k, n, hk1, rfl, rfl, HN, HB⟩ := hrel
    have hn : n ≤ 1000000000 := by have h1 := HN.out; have h2 := sz_take_le ks k; have h3 := HL.out; omega
    by_cases hlt : k < ks.length
    · have hkd : decide (k < ks.length) = true := by simp [hlt]
      obtain ⟨g, f, p, rfl, hc, ht⟩ := HS.out.kid k hlt
      have cK := hc wr HB.out
      have HREC := hide (HIH.out _ (List.getElem_mem hlt) p wr (ht.keep HB.out) (by have h1 := sz_take ks k hlt; have h2 := sz_take_le ks (k + 1); have h3 := HL.out; omega))
      have HTK := hide (sz_take ks k hlt)
      have hsz : (ks[k]).sz ≤ 1000000000 := by have h1 := sz_take ks k hlt; have h2 := sz_take_le ks (k + 1); have h3 := HL.out; omega
      generalize (ks[k]).sz = z at *
      clear hc ht
      unfold PT at HREC cK
      go_wp2_with fail
      refine HREC.out.mono ?_
      rintro e w4 ⟨rfl, hb⟩
      have HB4 := hide (HB.out.trans (hb.mono HB.out.size))
      clear hb HREC cK
      go_wp2
      refine ⟨⟨k + 1, n + z, by omega, by go_num, by go_num, ?_, HB4⟩, by simp [intOf]; omega⟩
      show _ = _
      rw [HTK.out, HN.out]
      omega
    · obtain rfl : k = ks.length := by omega
      rw [List.take_length] at HN
      go_wp2
      go_ret
      exact ⟨by rw [← HN.out]; rfl, HB.out⟩
theorem size_nil (w : World) : Calls Tryz.prog 17 #[.pointer none] w fun e w' => e = .returned (.int .i64 0) ∧ w' = w := by
  go_enter Tryz.func17, Tryz.ntmps17
  go_wp2
  go_ret
  exact ⟨rfl, rfl⟩
theorem sz_pos (t : TM) : 1 ≤ t.sz := by cases t; rw [TM.sz_mk]; omega
theorem pl_sz (s : PL) : s.tm.sz ≤ 3 * s.nodes := by
  refine PL.ind (P := fun s => s.tm.sz ≤ 3 * s.nodes) ?_ s
  intro op wd num ks ih
  rw [PL.tm_mk, PL.nodes_mk]
  have hA : hdA.sz = 1 := by unfold hdA; rw [TM.sz_mk]; rfl
  have hg : ∀ i, ((ks.map PL.tm).getD i hdA).sz ≤ 1 + 3 * ((ks.map PL.nodes).getD i 0) := fun i => by
    rw [List.getD_eq_getElem?_getD, List.getD_eq_getElem?_getD, List.getElem?_map, List.getElem?_map]
    cases e : ks[i]? with
    | none => simp [hA]
    | some k => have := ih k (List.mem_of_getElem? e); simp only [Option.map_some, Option.getD_some]; omega
  have hs : (ks.map PL.nodes).getD 0 0 + (ks.map PL.nodes).getD 1 0 ≤ (ks.map PL.nodes).sum := by
    match ks with
    | [] => simp
    | [a] => simp
    | a :: b :: r => simp [Nat.add_assoc]
  have g0 := hg 0
  have g1 := hg 1
  unfold tmOf
  rw [TM.sz_mk]
  split
  · simp only [List.map_cons, List.map_nil, List.sum_cons, List.sum_nil]; omega
  · split
    · simp only [List.map_cons, List.map_nil, List.sum_cons, List.sum_nil]; omega
    · simp only [List.map_nil, List.sum_nil]; omega

theorem x_eqNilT (ρ : Operand → Value) (d : Option Tmp) (x : Operand) (t : TypeId) (pos : String) (af : Array Edge) (g : Option (Nat × Bool)) (hx : ρ x = .pointer none) (hy : ρ (.const (.pointer none)) = .pointer none) (w : World) : (execOp ρ { dst := d, op := .binOp .eql 26 x (.const (.pointer none)) 26, type := t, pos := pos, after := af, guard := g }).run Tryz.prog w = .ok (.value (.bool true)) w := by
  simp [go_sem, hx, hy]
set_option maxHeartbeats 2000000 in
theorem appendTo_nil (w : World) : Calls Tryz.prog 43 #[.pointer none, .slice none 0 0] w fun e w' => ∃ V, e = .returned V ∧ AV w w.heap.size (.slice none 0 0) 0 [] [40, 41] V w' := by
  have ho0 : OwnU w w.heap.size (.slice none 0 0) 0 [] := ⟨rfl, .inl ⟨rfl, rfl⟩⟩
  obtain ⟨C, hC⟩ : ∃ C : World → Prop, C = fun W => Below w.heap.size w W := ⟨_, rfl⟩
  have HG : Hid (Grows C) := by rw [hC]; exact fun W W' h1 h2 => h1.trans (h2.mono h1.size)
  have HCD : Hid (C { w with drawn := w.drawn + 1 }) := by rw [hC]; exact drewBelow w
  have HCB : Hid (∀ W, C W → Below w.heap.size w W) := by rw [hC]; exact fun W h => h
  have HO := hide ho0
  clear hC ho0
  go_enter Tryz.func43, Tryz.ntmps43
  go_wp2
  refine w_lit (C := C) (by kernel_rfl) (by kernel_rfl) HCD.out ?_
  refine w_value (.pointer none) (by kernel_rfl) (fun w hw => x_move _ _ _ _ _ _ _ _ rfl w) ?_
  simp only [Act.put, List.setIfInBounds_toArray, List.set_cons_succ, List.set_cons_zero]
  refine w_value (.bool true) (by kernel_rfl) (fun w hw => x_eqNilT _ _ _ _ _ _ _ rfl rfl w) ?_
  simp only [Act.put, List.setIfInBounds_toArray, List.set_cons_succ, List.set_cons_zero]
  refine w_value (.bool true) (by kernel_rfl) (fun w hw => x_move _ _ _ _ _ _ _ _ rfl w) ?_
  simp only [Act.put, List.setIfInBounds_toArray, List.set_cons_succ, List.set_cons_zero]
  iterate 11
    refine w_skip (by kernel_rfl) ?_
    simp only [Act.put, List.setIfInBounds_toArray, List.set_cons_succ, List.set_cons_zero]
  refine w_value (.bool true) (by kernel_rfl) (fun w hw => x_pick _ _ _ _ _ _ _ _ _ true (.bool true) undef rfl rfl rfl w) ?_
  simp only [Act.put, List.setIfInBounds_toArray, List.set_cons_succ, List.set_cons_zero]
  refine w_nil ?_
  intro W hCW
  have HA := hide ((AV.start HO.out (Nat.le_refl _)).step (HCB.out W hCW))
  obtain ⟨V, W1, hr, hA⟩ := HA.out.appT ⟨#[40, 41]⟩ [40, 41] (by decide +kernel) (by simp)
  obtain ⟨a1, c1, hv⟩ := hA.slice
  have hv : V = .slice a1 2 c1 := hv
  subst hv
  have HA1 := hide hA
  clear hA hCW HG HCD HCB HA
  go_wp2_with (refine wpList_appendS_run rfl _ _ _ _ rfl _ _ _ rfl rfl hr ?_)
  go_ret
  exact ⟨_, rfl, HA1.out⟩
set_option maxHeartbeats 1000000 in
theorem string_nil (w : World) : Calls Tryz.prog 15 #[.pointer none] w fun e w' => e = .returned (.string ⟨#[40, 41]⟩) ∧ Below w.heap.size w w' := by
  have ho0 : OwnU w w.heap.size (.slice none 0 0) 0 [] := ⟨rfl, .inl ⟨rfl, rfl⟩⟩
  have HO0 := hide ho0
  clear ho0
  go_enter Tryz.func15, Tryz.ntmps15
  go_wp2_with fail
  refine (appendTo_nil w).mono ?_
  rintro e w1 ⟨v, rfl, hA⟩
  have hb : Below w.heap.size w w1 := hA.below (Below.refl _ _) HO0.out
  have ho := hA.own
  rw [List.nil_append, Nat.zero_add] at ho
  have hcv := str_of ho (by simp)
  rw [show strB [40, 41] = ⟨#[40, 41]⟩ from by decide +kernel] at hcv
  have ho2 : OwnU w1 w.heap.size v 2 (byteV [40, 41]) := ho
  have HB := hide hb
  clear hb hA HO0 ho
  obtain ⟨a, c, rfl⟩ := ho2.slice
  clear ho2
  go_wp2
  go_ret
  exact ⟨rfl, HB.out⟩
end Go.Proofs.YtblpekljiilkjaaGreatDoor
