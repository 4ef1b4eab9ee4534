/- Texts of this claim put together: ReO, MathWf. -/
import Derived.Test.YthhfpjehamhcbaaGreatDoorJoinReN
/- Key. -/
namespace Go.Proofs.YthhfpjehamhcbaaGreatDoor
set_option maxRecDepth 100000
set_option linter.unusedSimpArgs false
set_option linter.unusedVariables false
open Go.RowKit

/-- append whose run is known. -/
theorem wpList_append_run {w w' : World} {ops : Array Oper} {rest : List Oper} {o : Oper} {a : Act} {Q : Exit → Act → World → Prop} (hg : o.guard = none) (s x : Operand) (t : TypeId)
    (hop : o.op = Op.call { callee := Callee.builtin Builtin.append, args := #[s, x], argTypes := #[t, t] }) (v u v' : Value) (hs : a.eval s = v) (hx : a.eval x = u)
    (hrun : (Builtin.append_ #[t, t] o.type #[v, u]).run Tryz.prog w = .ok v' w') (hK : wpList Tryz.prog ops Q rest (a.put o.dst v') w') : wpList Tryz.prog ops Q (o :: rest) a w := by
  refine wpList_plain hg fun K hK' => ?_
  unfold Oper.wp execOp
  simp only [hop, resolve, invoke, builtin, Sem.run_bind, Sem.run_pure, Result.andThen_ok, List.map_toArray, List.map_cons, List.map_nil, hs, hx, hrun]
  exact hK' _ _ hK
theorem OwnU.below_grown {N n : Nat} {w0 W W' : World} {v : Value} {xs : List Value} (h : Below N w0 W) (hg : W.grownBy W' v.ownBlock) (ho : OwnU W N v n xs) (hN : N ≤ w0.heap.size) : Below N w0 W' := by
  have hne : ∀ k, k < N → some k ≠ v.ownBlock := fun k hk e => by have := (ho.own_lt e.symm).1; omega
  exact ⟨hg.os.trans h.os, hg.tape.trans h.tape, hg.output.trans h.output, Nat.le_trans h.size hg.size, fun k hk => (hg.block k (by have := h.size; omega) (hne k hk)).trans (h.block k hk)⟩
theorem OwnU.slice {W : World} {N n : Nat} {v : Value} {xs : List Value} (h : OwnU W N v n xs) : ∃ a c, v = .slice a n c := by
  rcases h.2 with ⟨rfl, rfl⟩ | ⟨g, cap, cur, t, rfl, -⟩ <;> exact ⟨_, _, rfl⟩
theorem byteV_append (a b : List Nat) : byteV (a ++ b) = byteV a ++ byteV b := by simp [byteV]
theorem keysL_take (ks : List RE) (k : Nat) (h : k < ks.length) : keysL (ks.take (k + 1)) = keysL (ks.take k) ++ (ks[k]).key := by
  unfold keysL
  rw [List.take_succ_eq_append_getElem h, List.map_append, List.flatten_append]; simp
theorem keysL_le (ks : List RE) (k : Nat) : (keysL (ks.take k)).length ≤ (keysL ks).length := by
  have : keysL ks = keysL (ks.take k) ++ keysL (ks.drop k) := by
    unfold keysL
    rw [← List.flatten_append, ← List.map_append, List.take_append_drop]
  rw [this, List.length_append]; omega

set_option maxHeartbeats 2000000 in
theorem appendKey_any (r : RE) : ∀ (b : Nat) (v : Value) (n N : Nat) (xs : List Value) (w0 w : World), WfK r → ReAt w0 b r → N = w0.heap.size → Below N w0 w → OwnU w N v n xs → n + r.key.length ≤ 1099511627776 → TabAt w0 →
    Calls Tryz.prog 78 #[PT b, v] w fun e w' => ∃ v', e = .returned v' ∧ OwnU w' N v' (n + r.key.length) (xs ++ byteV r.key) ∧ Below N w0 w' := by
  refine RE.ind (P := fun r => ∀ (b : Nat) (v : Value) (n N : Nat) (xs : List Value) (w0 w : World), WfK r → ReAt w0 b r → N = w0.heap.size → Below N w0 w → OwnU w N v n xs → n + r.key.length ≤ 1099511627776 → TabAt w0 →
    Calls Tryz.prog 78 #[PT b, v] w fun e w' => ∃ v', e = .returned v' ∧ OwnU w' N v' (n + r.key.length) (xs ++ byteV r.key) ∧ Below N w0 w') ?_ r
  intro o s ks ih b v n N xs w0 w hwf hb hN hW hO hlen hT
  obtain ⟨key, hkey⟩ : ∃ key, key = (RE.mk o s ks).key := ⟨_, rfl⟩
  rw [← hkey] at hlen ⊢
  rw [RE.key_mk] at hkey
  have hkl : key.length = 1 + ((if o = 2 then rnB (runsOf s) else []).length + ((keysL ks).length + 1)) := by rw [hkey]; simp; omega
  have ho7 : o ≤ 7 := by cases hwf; assumption
  have hkw := hwf.kid
  have hNw : N ≤ w.heap.size := by rw [hN]; exact hW.size
  have hG : 0 < N := by rw [hN]; exact World.block_lt_of_cell? _ _ (hT 0 (by omega))
  obtain ⟨a0, cp0, rfl⟩ := hO.slice
  have hbW := fun (W : World) (h : Below N w0 W) => hb.keep (w' := W) (hN ▸ h)
  have c0 := (hbW w hW).cell0
  simp only [RE.op] at c0
  obtain ⟨kv, kb, krow⟩ := hb.row
  have c5 : ∀ W, Below N w0 W → W.cell? ⟨b, 5, none⟩ = some kv := fun W h => by rw [(kb.below (hN ▸ h) kb.lt).cell]; rfl
  have HKEY := hide hkey
  have HT := hide hT
  have HW := hide hW
  have HO := hide hO
  have HBW := hide hbW
  have HC5 := hide c5
  have HKR := hide krow
  have HN := hide hN
  clear hkey hT hW hO hbW c5 krow kb hN hb hwf
  have hcv : IntKind.u8.wrap (o : Int) = o := by simp [IntKind.wrap, IntKind.signed, IntKind.bits]; omega
  have hcv2 : IntKind.u8.wrap (1 + (o : Int)) = ((o + 1 : Nat) : Int) := by simp [IntKind.wrap, IntKind.signed, IntKind.bits]; omega
  obtain ⟨W1, hW1⟩ : ∃ W1, W1 = w.alloc (.cells #[.int .u8 ((o + 1 : Nat) : Int)] 5) := ⟨_, rfl⟩
  have kn : Blk W1 w.heap.size #[.int .u8 ((o + 1 : Nat) : Int)] 5 := by rw [hW1]; exact Blk.newAt rfl _ _
  have hO1 : OwnU W1 N (.slice a0 n cp0) n xs := HO.out.keep fun g hg => by rw [hW1]; exact Below.heap_alloc _ _ _ (HO.out.own_lt hg).2
  have hB1 : Below N w0 W1 := by rw [hW1]; exact HW.out.alloc hNw _
  obtain ⟨v2, W2, hr2, hO2, hg2, -, -⟩ := run_appendU W1 57 N _ _ _ hO1 ⟨w.heap.size, 0, none⟩ 1 1 [.int .u8 ((o + 1 : Nat) : Int)] rfl (World.news_of_block kn) (by intro u hu; simp at hu; subst hu; rfl) (by omega) (by omega) (by rw [hW1]; simp; omega)
  have hB2 := OwnU.below_grown hB1 hg2 hO1 (Nat.le_of_eq HN.out)
  obtain ⟨a2, cp2, rfl⟩ := hO2.slice
  rw [hW1] at hr2
  have c02 := (HBW.out W2 hB2).cell0
  simp only [RE.op] at c02
  have HO2 := hide hO2
  have HB2 := hide hB2
  clear hW1 kn hO1 hB1 hg2 hO2 hB2
  unfold PT
  by_cases ho : o = 2
  · have ho2 : ((o : Int) == 2) = true := by simp [ho]
    obtain ⟨pre, hpre⟩ : ∃ pre, pre = (o + 1) :: rnB (runsOf s) := ⟨_, rfl⟩
    have HPK := hide (show key = pre ++ (keysL ks ++ [0]) from by rw [HKEY.out, if_pos ho, hpre]; rfl)
    have hrl := runs_le s
    have hpl : pre.length = 1 + 2 * (runsOf s).length := by rw [hpre]; simp [rnB_length]; omega
    have hpk : key.length = pre.length + (keysL ks).length + 1 := by rw [HPK.out]; simp; omega
    have HPL := hide hpl
    clear hpl
    have cS := (HBW.out W2 HB2.out).cellS
    have cs0 := cS 0 (by omega); have cs1 := cS 1 (by omega); have cs2 := cS 2 (by omega); have cs3 := cS 3 (by omega)
    simp only [RE.set] at cs0 cs1 cs2 cs3
    have hB2s : N ≤ W2.heap.size := by rw [HN.out]; exact HB2.out.size
    have hruns := appendRuns_any s _ _ N _ W2 HO2.out (by omega) hG hB2s (HT.out.agree (Agree.of_all (K := fun _ => True) (HN.out ▸ HB2.out)) trivial)
    have HRUN := hide hruns
    have HHO := hide hpre
    clear ho hruns cS hpre
    go_enter Tryz.func78, Tryz.ntmps78
    go_wp2_with (refine wpList_append_run rfl _ _ _ rfl _ _ _ rfl rfl hr2 ?_)
    refine HRUN.out.mono ?_
    rintro e W3 ⟨v3, rfl, h3, hg3, -, -⟩
    have HBP := hide (OwnU.below_grown HB2.out hg3 HO2.out (Nat.le_of_eq HN.out))
    have HOP : Hid (OwnU W3 N v3 (n + pre.length) (xs ++ byteV pre)) := by
      show OwnU W3 N v3 (n + pre.length) (xs ++ byteV pre)
      rw [show n + pre.length = n + 1 + 2 * (runsOf s).length from by have := HPL.out; omega, show xs ++ byteV pre = xs ++ [.int .u8 ((o + 1 : Nat) : Int)] ++ byteV (rnB (runsOf s)) from by rw [HHO.out]; simp [byteV]]
      exact h3
    have c53 := HC5.out W3 HBP.out
    clear h3 hg3 HRUN hr2 cs0 cs1 cs2 cs3 c02 c0
    obtain ⟨hkn, ka, kc, rfl, -⟩ := HKR.out.at
    go_wp2
    go_loopw [1, 35] (fun out c wr => ∃ (k : Nat), k ≤ ks.length ∧ c = .int .i64 k ∧ Hid (OwnU wr N out (n + pre.length + (keysL (ks.take k)).length) (xs ++ byteV pre ++ byteV (keysL (ks.take k)))) ∧ Hid (Below N w0 wr)) (fun _ c _ => ks.length - (intOf c).toNat)
    case atStart => exact ⟨0, by omega, rfl, (show OwnU _ _ _ _ _ from by simpa [keysL, byteV] using HOP.out), HBP⟩
    case round =>
      obtain ⟨k, hk, rfl, HOk, HBk⟩ := hrel
      obtain ⟨-, ka', kc', ke, kg⟩ := (HKR.out.below (show Below w0.heap.size w0 wr from HN.out ▸ HBk.out)).at
      obtain ⟨rfl, rfl⟩ : ka = ka' ∧ kc = kc' := by cases ke; exact ⟨rfl, rfl⟩
      obtain ⟨-, ka'', kc'', ke2, kg2⟩ := HKR.out.at
      obtain ⟨rfl, rfl⟩ : ka = ka'' ∧ kc = kc'' := by cases ke2; exact ⟨rfl, rfl⟩
      have hkle := keysL_le ks k
      have hNk : N ≤ wr.heap.size := by rw [HN.out]; exact HBk.out.size
      by_cases hlt : k < ks.length
      · have hkd : decide (k < ks.length) = true := by simp [hlt]
        obtain ⟨kb1, ko1, kp1, rfl, -, kd1, -⟩ := kg k hlt
        obtain ⟨kb2, ko2, kp2, ke3, -, kd2, kr2⟩ := kg2 k hlt
        cases ke3
        have hpp : kp1 = kp2 := by
          have hc := World.cell?_of_block (a := ⟨kb1, ko1 + k, none⟩) (HBk.out.block kb1 (by rw [HN.out]; exact World.block_lt_of_cell? _ _ kd2))
          rw [kd1, kd2] at hc
          simpa [PT] using hc
        subst hpp
        have HTK := hide (keysL_take ks k hlt)
        have hkle2 := keysL_le ks (k + 1)
        rw [HTK.out, List.length_append] at hkle2
        have hrec := ih _ (List.getElem_mem hlt) kp1 u1 (n + pre.length + (keysL (ks.take k)).length) N _ w0 wr (hkw _ (List.getElem_mem hlt)) kr2 HN.out HBk.out HOk.out (by omega) HT.out
        have HREC := hide hrec
        unfold PT at kd1
        clear hrec kg kg2 ke ke2 kd2 kr2
        go_wp2_with fail
        refine HREC.out.mono ?_
        rintro e w5 ⟨v5, rfl, h5, hb5⟩
        have H5 := hide h5
        have HB5 := hide hb5
        clear h5 hb5 HREC
        go_wp2
        refine ⟨⟨k + 1, by omega, by go_num, ?_, HB5⟩, by simp [intOf]; omega⟩
        show OwnU _ _ _ _ _
        rw [HTK.out, List.length_append, byteV_append, ← List.append_assoc, ← Nat.add_assoc]
        exact H5.out
      · obtain rfl : k = ks.length := by omega
        rw [List.take_length] at HOk
        obtain ⟨W6, hW6⟩ : ∃ W6, W6 = wr.alloc (.cells #[.int .u8 0] 5) := ⟨_, rfl⟩
        have kn6 : Blk W6 wr.heap.size #[.int .u8 0] 5 := by rw [hW6]; exact Blk.newAt rfl _ _
        have hO6 : OwnU W6 N u1 (n + pre.length + (keysL ks).length) (xs ++ byteV pre ++ byteV (keysL ks)) := HOk.out.keep fun g hg => by rw [hW6]; exact Below.heap_alloc _ _ _ (HOk.out.own_lt hg).2
        have hB6 : Below N w0 W6 := by rw [hW6]; exact HBk.out.alloc hNk _
        obtain ⟨v7, W7, hr7, hO7, hg7, -, -⟩ := run_appendU W6 57 N _ _ _ hO6 ⟨wr.heap.size, 0, none⟩ 1 1 [.int .u8 0] rfl (World.news_of_block kn6) (by intro u hu; simp at hu; subst hu; rfl) (by omega) (by omega) (by rw [hW6]; simp; omega)
        have hB7 := OwnU.below_grown hB6 hg7 hO6 (Nat.le_of_eq HN.out)
        obtain ⟨a7, cp7, rfl⟩ := hO7.slice
        obtain ⟨au, cu, hu⟩ := HOk.out.slice
        rw [hW6] at hr7
        rw [hu] at hr7
        subst hu
        have HO7 := hide hO7
        have HB7 := hide hB7
        clear hW6 kn6 hO6 hB6 hg7 hO7 hB7 kg kg2 ke ke2
        go_wp2_with (refine wpList_append_run rfl _ _ _ rfl _ _ _ rfl rfl hr7 ?_)
        go_ret
        refine ⟨_, rfl, ?_, HB7.out⟩
        have h7 := HO7.out
        have e1 : n + key.length = n + pre.length + (keysL ks).length + 1 := by rw [HPK.out]; simp; omega
        have e2 : xs ++ byteV key = xs ++ byteV pre ++ byteV (keysL ks) ++ [.int .u8 0] := by rw [HPK.out]; simp [byteV]
        rw [e1, e2]
        exact h7
  · have ho2 : ((o : Int) == 2) = false := beq_eq_false_iff_ne.2 (by omega)
    obtain ⟨pre, hpre⟩ : ∃ pre : List Nat, pre = [o + 1] := ⟨_, rfl⟩
    have HPK := hide (show key = pre ++ (keysL ks ++ [0]) from by rw [HKEY.out, if_neg ho, hpre]; rfl)
    have hpl : pre.length = 1 := by rw [hpre]; rfl
    have hpk : key.length = pre.length + (keysL ks).length + 1 := by rw [HPK.out]; simp; omega
    have HHO := hide hpre
    have HBP := HB2
    have HOP : Hid (OwnU W2 N (.slice a2 (n + 1) cp2) (n + pre.length) (xs ++ byteV pre)) := by
      show OwnU W2 N (.slice a2 (n + 1) cp2) (n + pre.length) (xs ++ byteV pre)
      rw [hpl, HHO.out]
      exact HO2.out
    have c53 := HC5.out W2 HBP.out
    clear ho hpre hpl
    go_enter Tryz.func78, Tryz.ntmps78
    obtain ⟨hkn, ka, kc, rfl, -⟩ := HKR.out.at
    go_wp2_with (refine wpList_append_run rfl _ _ _ rfl _ _ _ rfl rfl hr2 ?_)
    go_loopw [1, 35] (fun out c wr => ∃ (k : Nat), k ≤ ks.length ∧ c = .int .i64 k ∧ Hid (OwnU wr N out (n + pre.length + (keysL (ks.take k)).length) (xs ++ byteV pre ++ byteV (keysL (ks.take k)))) ∧ Hid (Below N w0 wr)) (fun _ c _ => ks.length - (intOf c).toNat)
    case atStart => exact ⟨0, by omega, rfl, (show OwnU _ _ _ _ _ from by simpa [keysL, byteV] using HOP.out), HBP⟩
    case round =>
      obtain ⟨k, hk, rfl, HOk, HBk⟩ := hrel
      obtain ⟨-, ka', kc', ke, kg⟩ := (HKR.out.below (show Below w0.heap.size w0 wr from HN.out ▸ HBk.out)).at
      obtain ⟨rfl, rfl⟩ : ka = ka' ∧ kc = kc' := by cases ke; exact ⟨rfl, rfl⟩
      obtain ⟨-, ka'', kc'', ke2, kg2⟩ := HKR.out.at
      obtain ⟨rfl, rfl⟩ : ka = ka'' ∧ kc = kc'' := by cases ke2; exact ⟨rfl, rfl⟩
      have hkle := keysL_le ks k
      have hNk : N ≤ wr.heap.size := by rw [HN.out]; exact HBk.out.size
      by_cases hlt : k < ks.length
      · have hkd : decide (k < ks.length) = true := by simp [hlt]
        obtain ⟨kb1, ko1, kp1, rfl, -, kd1, -⟩ := kg k hlt
        obtain ⟨kb2, ko2, kp2, ke3, -, kd2, kr2⟩ := kg2 k hlt
        cases ke3
        have hpp : kp1 = kp2 := by
          have hc := World.cell?_of_block (a := ⟨kb1, ko1 + k, none⟩) (HBk.out.block kb1 (by rw [HN.out]; exact World.block_lt_of_cell? _ _ kd2))
          rw [kd1, kd2] at hc
          simpa [PT] using hc
        subst hpp
        have HTK := hide (keysL_take ks k hlt)
        have hkle2 := keysL_le ks (k + 1)
        rw [HTK.out, List.length_append] at hkle2
        have hrec := ih _ (List.getElem_mem hlt) kp1 u1 (n + pre.length + (keysL (ks.take k)).length) N _ w0 wr (hkw _ (List.getElem_mem hlt)) kr2 HN.out HBk.out HOk.out (by omega) HT.out
        have HREC := hide hrec
        unfold PT at kd1
        clear hrec kg kg2 ke ke2 kd2 kr2
        go_wp2_with fail
        refine HREC.out.mono ?_
        rintro e w5 ⟨v5, rfl, h5, hb5⟩
        have H5 := hide h5
        have HB5 := hide hb5
        clear h5 hb5 HREC
        go_wp2
        refine ⟨⟨k + 1, by omega, by go_num, ?_, HB5⟩, by simp [intOf]; omega⟩
        show OwnU _ _ _ _ _
        rw [HTK.out, List.length_append, byteV_append, ← List.append_assoc, ← Nat.add_assoc]
        exact H5.out
      · obtain rfl : k = ks.length := by omega
        rw [List.take_length] at HOk
        obtain ⟨W6, hW6⟩ : ∃ W6, W6 = wr.alloc (.cells #[.int .u8 0] 5) := ⟨_, rfl⟩
        have kn6 : Blk W6 wr.heap.size #[.int .u8 0] 5 := by rw [hW6]; exact Blk.newAt rfl _ _
        have hO6 : OwnU W6 N u1 (n + pre.length + (keysL ks).length) (xs ++ byteV pre ++ byteV (keysL ks)) := HOk.out.keep fun g hg => by rw [hW6]; exact Below.heap_alloc _ _ _ (HOk.out.own_lt hg).2
        have hB6 : Below N w0 W6 := by rw [hW6]; exact HBk.out.alloc hNk _
        obtain ⟨v7, W7, hr7, hO7, hg7, -, -⟩ := run_appendU W6 57 N _ _ _ hO6 ⟨wr.heap.size, 0, none⟩ 1 1 [.int .u8 0] rfl (World.news_of_block kn6) (by intro u hu; simp at hu; subst hu; rfl) (by omega) (by omega) (by rw [hW6]; simp; omega)
        have hB7 := OwnU.below_grown hB6 hg7 hO6 (Nat.le_of_eq HN.out)
        obtain ⟨a7, cp7, rfl⟩ := hO7.slice
        obtain ⟨au, cu, hu⟩ := HOk.out.slice
        rw [hW6] at hr7
        rw [hu] at hr7
        subst hu
        have HO7 := hide hO7
        have HB7 := hide hB7
        clear hW6 kn6 hO6 hB6 hg7 hO7 hB7 kg kg2 ke ke2
        go_wp2_with (refine wpList_append_run rfl _ _ _ rfl _ _ _ rfl rfl hr7 ?_)
        go_ret
        refine ⟨_, rfl, ?_, HB7.out⟩
        have h7 := HO7.out
        have e1 : n + key.length = n + pre.length + (keysL ks).length + 1 := by rw [HPK.out]; simp; omega
        have e2 : xs ++ byteV key = xs ++ byteV pre ++ byteV (keysL ks) ++ [.int .u8 0] := by rw [HPK.out]; simp [byteV]
        rw [e1, e2]
        exact h7

/-- A text of these bytes. -/
def strB (l : List Nat) : ByteArray := strOfNums (l.map fun x : Nat => (x : Int))
theorem key_lt256 (r : RE) : WfK r → ∀ x ∈ r.key, x < 256 := by
  refine RE.ind (P := fun r => WfK r → ∀ x ∈ r.key, x < 256) ?_ r
  intro o s ks ih hw x hx
  rw [RE.key_mk] at hx
  have ho : o ≤ 7 := by cases hw; assumption
  simp only [List.mem_cons, List.mem_append] at hx
  rcases hx with rfl | hx | hx | rfl | hx
  · omega
  · split at hx
    · exact rnB_lt s x hx
    · simp at hx
  · obtain ⟨l, hl, hx⟩ := List.mem_flatten.1 hx
    obtain ⟨k, hk, rfl⟩ := List.mem_map.1 hl
    exact ih k hk (hw.kid k hk) x hx
  · omega
  · simp at hx
theorem strB_inj {a b : List Nat} (ha : ∀ x ∈ a, x < 256) (hb : ∀ x ∈ b, x < 256) (h : strB a = strB b) : a = b := by
  have h1 := congrArg (fun s : ByteArray => s.data.toList.map UInt8.toNat) h
  simp only [strB, strOfNums, List.map_map, Function.comp_def, Int.toNat_natCast] at h1
  have e : ∀ l : List Nat, (∀ x ∈ l, x < 256) → l.map (fun x => (UInt8.ofNat x).toNat) = l := fun l hl => by
    have : l.map (fun x => (UInt8.ofNat x).toNat) = l.map id := List.map_congr_left fun x hx => by
      have := hl x hx
      simp; omega
    rw [this, List.map_id]
  rw [e a ha, e b hb] at h1
  exact h1
set_option maxHeartbeats 1000000 in
theorem key_any (r : RE) (b : Nat) (w : World) (hw : WfK r) (h : ReAt w b r) (hl : r.key.length ≤ 1099511627776) (hT : TabAt w) :
    Calls Tryz.prog 48 #[PT b] w fun e w' => e = .returned (.string (strB r.key)) ∧ Below w.heap.size w w' := by
  have hk := appendKey_any r b (.slice none 0 0) 0 w.heap.size [] w w hw h rfl (Below.refl _ _) ⟨rfl, .inl ⟨rfl, rfl⟩⟩ (by omega) hT
  have HK := hide hk
  clear hk
  go_enter Tryz.func48, Tryz.ntmps48
  go_wp2_with fail
  refine HK.out.mono ?_
  rintro e w1 ⟨v, rfl, ho, hb⟩
  rw [List.nil_append, Nat.zero_add] at ho
  have HB := hide hb
  clear hb HK
  have hcv : (convert 57 9 v).run Tryz.prog w1 = .ok (.string (strB r.key)) w1 := by
    rcases ho.2 with ⟨-, hn⟩ | ⟨g, cap, cur, t, rfl, -⟩
    · exfalso
      cases r
      rw [RE.key_mk] at hn
      simp at hn
    · refine run_convert_bytes_arg _ 57 5 Tryz.underlying57 Tryz.underlying5 g 0 _ cap (r.key.map fun x : Nat => (x : Int)) (by simp) (fun i hi => ?_) 9 Tryz.underlying9
      rw [Nat.zero_add]
      refine ho.cells i _ ?_
      simp [byteV, List.getD_eq_getElem?_getD, hi]
  obtain ⟨a, c, rfl⟩ := ho.slice
  go_wp2
  go_ret
  exact ⟨rfl, HB.out⟩
end Go.Proofs.YthhfpjehamhcbaaGreatDoor
/- What the calls make is in the settled form, and not much greater than what went in. -/
namespace Go.Proofs.YthhfpjehamhcbaaGreatDoor
set_option maxRecDepth 100000
set_option linter.unusedSimpArgs false
set_option linter.unusedVariables false
open Go.RowKit

def RE.cnt : RE → Nat
  | .mk _ _ ks => 1 + (ks.map fun k => k.cnt).sum
def cntL (l : List RE) : Nat := (l.map RE.cnt).sum
theorem RE.cnt_mk (o : Nat) (s : BitVec 256) (ks : List RE) : (RE.mk o s ks).cnt = 1 + cntL ks := by rw [RE.cnt, cntL]
theorem RE.cnt_kids (r : RE) : r.cnt = 1 + cntL r.kids := by cases r; exact RE.cnt_mk _ _ _
theorem cntL_cons (x : RE) (l : List RE) : cntL (x :: l) = x.cnt + cntL l := by simp [cntL]
theorem cntL_append (a b : List RE) : cntL (a ++ b) = cntL a + cntL b := by simp [cntL]
theorem cntL_len (l : List RE) : l.length ≤ cntL l := by
  induction l with
  | nil => simp [cntL]
  | cons x l ih => rw [cntL_cons, RE.cnt_kids]; simp; omega
theorem cntL_flatMap (f : RE → List RE) (hf : ∀ r, cntL (f r) ≤ r.cnt) (l : List RE) : cntL (l.flatMap f) ≤ cntL l := by
  induction l with
  | nil => simp [cntL]
  | cons x l ih => rw [List.flatMap_cons, cntL_append, cntL_cons]; have := hf x; omega
theorem cntL_catL (l : List RE) : cntL (catL l) ≤ cntL l := cntL_flatMap _ (fun r => by
  have := r.cnt_kids
  unfold catK
  split
  · simp [cntL]
  · split
    · omega
    · rw [cntL_cons]; simp [cntL]) l
theorem cntL_flatL (o : Nat) (l : List RE) : cntL (flatL o l) ≤ cntL l := cntL_flatMap _ (fun r => by
  have := r.cnt_kids
  split
  · omega
  · rw [cntL_cons]; simp [cntL]) l
theorem cntL_filter (p : RE → Bool) (l : List RE) : cntL (l.filter p) ≤ cntL l := by
  induction l with
  | nil => simp
  | cons x l ih =>
    rw [List.filter_cons, cntL_cons]
    split
    · rw [cntL_cons]; omega
    · omega
theorem cntL_insK (x : RE) (l : List RE) : cntL (insK x l) ≤ x.cnt + cntL l := by
  induction l with
  | nil => simp [insK, cntL]
  | cons y l ih =>
    simp only [insK]
    split
    · simp only [cntL_cons]; omega
    · split
      · simp only [cntL_cons]; omega
      · simp only [cntL_cons]; omega
theorem cntL_ordL (l : List RE) : cntL (ordL l) ≤ cntL l := by
  induction l with
  | nil => simp [ordL]
  | cons x l ih =>
    have := cntL_insK x (ordL l)
    rw [cntL_cons]
    have e : ordL (x :: l) = insK x (ordL l) := rfl
    rw [e]; omega
theorem cnt_join (o : Nat) (l : List RE) : (rJoin o l).cnt ≤ 1 + cntL l := by
  unfold rJoin
  split
  · simp [cntL]
  · rw [RE.cnt_mk]; omega
theorem cnt_nothing : rNothing.cnt = 1 := by rw [RE.cnt_kids]; rfl
theorem cnt_empty : rEmpty.cnt = 1 := by rw [RE.cnt_kids]; rfl
theorem cnt_one (s : BitVec 256) : (rOne s).cnt = 1 := by rw [RE.cnt_kids, rOne_kids]; rfl
theorem cnt_then (l : List RE) : (rThen l).cnt ≤ 1 + cntL l := by
  unfold rThen
  split
  · rw [cnt_nothing]; omega
  · split
    · rw [cnt_empty]; omega
    · have h1 := cnt_join 3 (catL l); have h2 := cntL_catL l; omega
theorem cnt_any (l : List RE) : (rAny l).cnt ≤ 2 + cntL l := by
  unfold rAny
  simp only
  generalize hk : (orKeep (flatL 4 l) ++ if orSet (flatL 4 l) = 0#256 then [] else [rOne (orSet (flatL 4 l))]) = ks
  split
  · rw [cnt_nothing]; omega
  · have h1 := cnt_join 4 (ordL ks)
    have h2 := cntL_ordL ks
    have h3 := cntL_filter (fun r => !(r.op == 0) && !(r.op == 2)) (flatL 4 l)
    have h4 := cntL_flatL 4 l
    have h5 : cntL ks ≤ cntL (orKeep (flatL 4 l)) + 1 := by
      rw [← hk, cntL_append]
      split
      · simp [cntL]
      · simp [cntL, cnt_one]
    unfold orKeep at h5
    omega
theorem cnt_many (r : RE) : (rMany r).cnt ≤ 1 + r.cnt := by
  unfold rMany
  split
  · rw [cnt_empty]; omega
  · split
    · omega
    · rw [RE.cnt_mk]; simp [cntL]
theorem cnt_both (l : List RE) : (rBoth l).cnt ≤ 2 + cntL l := by
  unfold rBoth
  simp only
  split
  · rw [cnt_nothing]; omega
  · split
    · rw [cnt_nothing]; omega
    · generalize hk : (orKeep (flatL 6 l) ++ if met (flatL 6 l) = true then [rOne (andSet (flatL 6 l))] else []) = ks
      split
      · have := cnt_many (rOne allB); rw [cnt_one] at this; omega
      · have h1 := cnt_join 6 (ordL ks)
        have h2 := cntL_ordL ks
        have h3 := cntL_filter (fun r => !(r.op == 0) && !(r.op == 2)) (flatL 6 l)
        have h4 := cntL_flatL 6 l
        have h5 : cntL ks ≤ cntL (orKeep (flatL 6 l)) + 1 := by
          rw [← hk, cntL_append]
          split
          · simp [cntL, cnt_one]
          · simp [cntL]
        unfold orKeep at h5
        omega
theorem cnt_but (a b : RE) : (rBut a b).cnt ≤ 1 + a.cnt + b.cnt := by
  unfold rBut
  split
  · omega
  · split
    · rw [cnt_one]; omega
    · split
      · rw [cnt_nothing]; omega
      · rw [RE.cnt_mk]; simp [cntL]; omega
theorem cnt_word (t : List Nat) : (rWord t).cnt ≤ 1 + t.length := by
  have h := cnt_then (t.map rLetter)
  have key : ∀ t : List Nat, cntL (t.map rLetter) = t.length := fun t => by
    induction t with
    | nil => rfl
    | cons x t ih => rw [List.map_cons, cntL_cons, show (rLetter x).cnt = 1 from cnt_one _, ih, List.length_cons]; omega
  have := key t
  unfold rWord; omega

theorem wf_catL {l : List RE} (hw : ∀ r ∈ l, Wf r) (h0 : l.any (fun r => r.op == 0) = false) : ∀ k ∈ catL l, Wf k ∧ k.op ≠ 0 ∧ k.op ≠ 1 ∧ k.op ≠ 3 := by
  intro k hk
  obtain ⟨r, hr, hk⟩ := List.mem_flatMap.1 hk
  have hr0 : r.op ≠ 0 := fun e => by
    have := List.any_eq_false.1 h0 r hr
    simp [e] at this
  unfold catK at hk
  split at hk
  · simp at hk
  · split at hk
    · rename_i h3
      have h := ((hw r hr).shp.cat h3).2 k hk
      exact ⟨(hw r hr).kid k hk, h⟩
    · simp at hk; subst hk
      exact ⟨hw _ hr, hr0, by assumption, by assumption⟩
theorem wf_then {l : List RE} (hw : ∀ r ∈ l, Wf r) : Wf (rThen l) := by
  unfold rThen
  split
  · exact wf_nothing
  · rename_i h0
    have hc := wf_catL hw (by simpa using h0)
    split
    · exact wf_empty
    · rename_i hne
      by_cases h1 : (catL l).length = 1
      · match hl : catL l, h1 with
        | [x], _ => exact (hc x (by rw [hl]; simp)).1
      · rw [rJoin_more 3 _ h1]
        have h2 : 2 ≤ (catL l).length := by
          have := List.length_pos_iff.2 hne
          omega
        exact .mk _ _ _ (fun k hk => (hc k hk).1) ⟨by omega, fun _ => rfl, by omega, by omega, fun _ => ⟨h2, fun k hk => (hc k hk).2⟩, by omega, by omega, by omega⟩
/-- The heart of Any and Both. -/
theorem wf_ord {o : Nat} (ho : o = 4 ∨ o = 6) {ks : List RE} {c : BitVec 256} (hw : ∀ k ∈ ks, Wf k ∧ k.op ≠ 0 ∧ k.op ≠ o ∧ (k.op = 2 → k = rOne c)) (hne : ks ≠ []) : Wf (rJoin o (ordL ks)) := by
  obtain ⟨h1, h2⟩ := ordL_spec ks (fun y hy => (hw y hy).1.k)
  have hw' : ∀ k ∈ ordL ks, Wf k ∧ k.op ≠ 0 ∧ k.op ≠ o ∧ (k.op = 2 → k = rOne c) := fun k hk => hw k ((h2 k).1 hk)
  have hne' : ordL ks ≠ [] := fun e => by
    obtain ⟨x, hx⟩ := List.exists_mem_of_ne_nil ks hne
    have := (h2 x).2 hx
    rw [e] at this; simp at this
  by_cases hl : (ordL ks).length = 1
  · match hk : ordL ks, hl with
    | [x], _ => exact (hw' x (by rw [hk]; simp)).1
  · rw [rJoin_more o _ hl]
    have hl2 : 2 ≤ (ordL ks).length := by
      have := List.length_pos_iff.2 hne'
      omega
    have hcl : ((ordL ks).filter fun k => k.op == 2).length ≤ 1 := by
      have hp := h1.filter (fun k => k.op == 2)
      match hf : (ordL ks).filter (fun k => k.op == 2) with
      | [] => rw [hf]; simp
      | [x] => rw [hf]; simp
      | x :: y :: r =>
        exfalso
        rw [hf] at hp
        have hxy := (List.pairwise_cons.1 hp).1 y (by simp)
        have hx : x ∈ (ordL ks).filter (fun k => k.op == 2) := by rw [hf]; simp
        have hy : y ∈ (ordL ks).filter (fun k => k.op == 2) := by rw [hf]; simp
        have ex := (hw' x (List.mem_filter.1 hx).1).2.2.2 (by simpa using (List.mem_filter.1 hx).2)
        have ey := (hw' y (List.mem_filter.1 hy).1).2.2.2 (by simpa using (List.mem_filter.1 hy).2)
        rw [ex, ey] at hxy
        exact ltK_irrefl hxy
    exact .mk _ _ _ (fun k hk => (hw' k hk).1) ⟨by omega, fun _ => rfl, by omega, by omega, by omega, fun _ => ⟨hl2, fun k hk => ⟨(hw' k hk).2.1, (hw' k hk).2.2.1⟩, h1, hcl⟩, by omega, by omega⟩
theorem wf_flatL {o : Nat} (ho : o = 4 ∨ o = 6) {l : List RE} (hw : ∀ r ∈ l, Wf r) : ∀ k ∈ flatL o l, Wf k ∧ k.op ≠ o := by
  intro k hk
  obtain ⟨r, hr, hk⟩ := List.mem_flatMap.1 hk
  split at hk
  · rename_i h3
    have h := ((hw r hr).shp.or (by omega)).2.1 k hk
    exact ⟨(hw r hr).kid k hk, by rw [h3] at h; exact h.2⟩
  · simp at hk; subst hk
    exact ⟨hw _ hr, by assumption⟩
theorem one_op (c : BitVec 256) (h : c ≠ 0#256) : (rOne c).op = 2 := by unfold rOne; rw [if_neg h]; rfl
theorem wf_keepL {o : Nat} (ho : o = 4 ∨ o = 6) {l : List RE} (hw : ∀ r ∈ l, Wf r) (c : BitVec 256) : ∀ k ∈ orKeep (flatL o l), Wf k ∧ k.op ≠ 0 ∧ k.op ≠ o ∧ (k.op = 2 → k = rOne c) := by
  intro k hk
  obtain ⟨h1, h2⟩ := List.mem_filter.1 hk
  obtain ⟨h3, h4⟩ := wf_flatL ho hw k h1
  simp at h2
  exact ⟨h3, h2.1, h4, fun e => absurd e h2.2⟩
theorem wf_any {l : List RE} (hw : ∀ r ∈ l, Wf r) : Wf (rAny l) := by
  unfold rAny
  simp only
  generalize hks : (orKeep (flatL 4 l) ++ if orSet (flatL 4 l) = 0#256 then [] else [rOne (orSet (flatL 4 l))]) = ks
  split
  · exact wf_nothing
  · rename_i hne
    refine wf_ord (.inl rfl) (c := orSet (flatL 4 l)) (fun k hk => ?_) hne
    rw [← hks] at hk
    rcases List.mem_append.1 hk with hk | hk
    · exact wf_keepL (.inl rfl) hw _ k hk
    · split at hk
      · simp at hk
      · rename_i hc
        simp at hk; subst hk
        have := one_op _ hc
        exact ⟨wf_one _, by omega, by omega, fun _ => rfl⟩
theorem wf_many {r : RE} (hw : Wf r) : Wf (rMany r) := by
  unfold rMany
  split
  · exact wf_empty
  · split
    · exact hw
    · rename_i h1 h2
      exact .mk _ _ _ (fun k hk => by simp at hk; subst hk; exact hw) ⟨by omega, fun _ => rfl, by omega, by omega, by omega, by omega, fun _ => ⟨r, rfl, by omega, by omega, h2⟩, by omega⟩
theorem wf_both {l : List RE} (hw : ∀ r ∈ l, Wf r) : Wf (rBoth l) := by
  unfold rBoth
  simp only
  split
  · exact wf_nothing
  · split
    · exact wf_nothing
    · rename_i h0 hc
      generalize hks : (orKeep (flatL 6 l) ++ if met (flatL 6 l) = true then [rOne (andSet (flatL 6 l))] else []) = ks
      split
      · exact wf_many (wf_one _)
      · rename_i hne
        refine wf_ord (.inr rfl) (c := andSet (flatL 6 l)) (fun k hk => ?_) hne
        rw [← hks] at hk
        rcases List.mem_append.1 hk with hk | hk
        · exact wf_keepL (.inr rfl) hw _ k hk
        · split at hk
          · simp at hk; subst hk
            have := one_op _ hc
            exact ⟨wf_one _, by omega, by omega, fun _ => rfl⟩
          · simp at hk
theorem wf_but {a b : RE} (ha : Wf a) (hb : Wf b) : Wf (rBut a b) := by
  unfold rBut
  split
  · exact ha
  · split
    · exact wf_one _
    · split
      · exact wf_nothing
      · rename_i h1 h2 h3
        exact .mk _ _ _ (fun k hk => by simp at hk; rcases hk with rfl | rfl; exact ha; exact hb) ⟨by omega, fun _ => rfl, by omega, by omega, by omega, by omega, by omega, fun _ => ⟨a, b, rfl, by omega, by omega, fun e => h3 (by rw [e]; exact lexN_self _), h2⟩⟩
theorem wf_word (t : List Nat) : Wf (rWord t) := wf_then fun r hr => by
  obtain ⟨x, -, rfl⟩ := List.mem_map.1 hr
  exact wf_one _
end Go.Proofs.YthhfpjehamhcbaaGreatDoor
