/- Key. -/
import Derived.Test.YtkjmjppmpcnejaaGreatDoorReN
namespace Go.Proofs.YtkjmjppmpcnejaaGreatDoor
set_option maxRecDepth 100000
set_option linter.unusedSimpArgs false
set_option linter.unusedVariables false
open Go.RowKit

/-- append whose run is known. -/
theorem wpList_append_run {w w' : World} {ops : Array Oper} {rest : List Oper} {o : Oper} {a : Act} {Q : Exit → Act → World → Prop} (hg : o.guard = none) (s x : Operand) (t : TypeId)
    (hop : o.op = Op.call { callee := Callee.builtin Builtin.append, args := #[s, x], argTypes := #[t, t] }) (v u v' : Value) (hs : a.eval s = v) (hx : a.eval x = u)
    (hrun : (Builtin.append_ #[t, t] o.type #[v, u]).run Tryz.prog w = .ok v' w') (hK : wpList Tryz.prog ops Q rest (a.put o.dst v') w') : wpList Tryz.prog ops Q (o :: rest) a w := by
  refine wpList_plain hg fun K hK' => ?_
  unfold Oper.wp execOp
  simp only [hop, resolve, invoke, builtin, Sem.run_bind, Sem.run_pure, Result.andThen_ok, List.map_toArray, List.map_cons, List.map_nil, hs, hx, hrun]
  exact hK' _ _ hK
theorem OwnU.below_grown {N n : Nat} {w0 W W' : World} {v : Value} {xs : List Value} (h : Below N w0 W) (hg : W.grownBy W' v.ownBlock) (ho : OwnU W N v n xs) (hN : N ≤ w0.heap.size) : Below N w0 W' := by
  have hne : ∀ k, k < N → some k ≠ v.ownBlock := fun k hk e => by have := (ho.own_lt e.symm).1; omega
  exact ⟨hg.os.trans h.os, hg.tape.trans h.tape, hg.output.trans h.output, Nat.le_trans h.size hg.size, fun k hk => (hg.block k (by have := h.size; omega) (hne k hk)).trans (h.block k hk)⟩
theorem OwnU.slice {W : World} {N n : Nat} {v : Value} {xs : List Value} (h : OwnU W N v n xs) : ∃ a c, v = .slice a n c := by
  rcases h.2 with ⟨rfl, rfl⟩ | ⟨g, cap, cur, t, rfl, -⟩ <;> exact ⟨_, _, rfl⟩
theorem byteV_append (a b : List Nat) : byteV (a ++ b) = byteV a ++ byteV b := by simp [byteV]
theorem keysL_take (ks : List RE) (k : Nat) (h : k < ks.length) : keysL (ks.take (k + 1)) = keysL (ks.take k) ++ (ks[k]).key := by
  unfold keysL
  rw [List.take_succ_eq_append_getElem h, List.map_append, List.flatten_append]; simp
theorem keysL_le (ks : List RE) (k : Nat) : (keysL (ks.take k)).length ≤ (keysL ks).length := by
  have : keysL ks = keysL (ks.take k) ++ keysL (ks.drop k) := by
    unfold keysL
    rw [← List.flatten_append, ← List.map_append, List.take_append_drop]
  rw [this, List.length_append]; omega

set_option maxHeartbeats 2000000 in
theorem appendKey_any (r : RE) : ∀ (b : Nat) (v : Value) (n N : Nat) (xs : List Value) (w0 w : World), WfK r → ReAt w0 b r → N = w0.heap.size → Below N w0 w → OwnU w N v n xs → n + r.key.length ≤ 1099511627776 → TabAt w0 →
    Calls Tryz.prog 64 #[PT b, v] w fun e w' => ∃ v', e = .returned v' ∧ OwnU w' N v' (n + r.key.length) (xs ++ byteV r.key) ∧ Below N w0 w' := by
  refine RE.ind (P := fun r => ∀ (b : Nat) (v : Value) (n N : Nat) (xs : List Value) (w0 w : World), WfK r → ReAt w0 b r → N = w0.heap.size → Below N w0 w → OwnU w N v n xs → n + r.key.length ≤ 1099511627776 → TabAt w0 →
    Calls Tryz.prog 64 #[PT b, v] w fun e w' => ∃ v', e = .returned v' ∧ OwnU w' N v' (n + r.key.length) (xs ++ byteV r.key) ∧ Below N w0 w') ?_ r
  intro o s ks ih b v n N xs w0 w hwf hb hN hW hO hlen hT
  obtain ⟨key, hkey⟩ : ∃ key, key = (RE.mk o s ks).key := ⟨_, rfl⟩
  rw [← hkey] at hlen ⊢
  rw [RE.key_mk] at hkey
  have hkl : key.length = 1 + ((if o = 2 then rnB (runsOf s) else []).length + ((keysL ks).length + 1)) := by rw [hkey]; simp; omega
  have ho7 : o ≤ 7 := by cases hwf; assumption
  have hkw := hwf.kid
  have hNw : N ≤ w.heap.size := by rw [hN]; exact hW.size
  have hG : 1 < N := by rw [hN]; exact World.block_lt_of_cell? _ _ (hT 0 (by omega))
  obtain ⟨a0, cp0, rfl⟩ := hO.slice
  have hbW := fun (W : World) (h : Below N w0 W) => hb.keep (w' := W) (hN ▸ h)
  have c0 := (hbW w hW).cell0
  simp only [RE.op] at c0
  obtain ⟨kv, kb, krow⟩ := hb.row
  have c5 : ∀ W, Below N w0 W → W.cell? ⟨b, 5, none⟩ = some kv := fun W h => by rw [(kb.below (hN ▸ h) kb.lt).cell]; rfl
  have HKEY := hide hkey
  have HT := hide hT
  have HW := hide hW
  have HO := hide hO
  have HBW := hide hbW
  have HC5 := hide c5
  have HKR := hide krow
  have HN := hide hN
  clear hkey hT hW hO hbW c5 krow kb hN hb hwf
  have hcv : IntKind.u8.wrap (o : Int) = o := by simp [IntKind.wrap, IntKind.signed, IntKind.bits]; omega
  have hcv2 : IntKind.u8.wrap (1 + (o : Int)) = ((o + 1 : Nat) : Int) := by simp [IntKind.wrap, IntKind.signed, IntKind.bits]; omega
  obtain ⟨W1, hW1⟩ : ∃ W1, W1 = w.alloc (.cells #[.int .u8 ((o + 1 : Nat) : Int)] 5) := ⟨_, rfl⟩
  have kn : Blk W1 w.heap.size #[.int .u8 ((o + 1 : Nat) : Int)] 5 := by rw [hW1]; exact Blk.newAt rfl _ _
  have hO1 : OwnU W1 N (.slice a0 n cp0) n xs := HO.out.keep fun g hg => by rw [hW1]; exact Below.heap_alloc _ _ _ (HO.out.own_lt hg).2
  have hB1 : Below N w0 W1 := by rw [hW1]; exact HW.out.alloc hNw _
  obtain ⟨v2, W2, hr2, hO2, hg2, -, -⟩ := run_appendU W1 61 N _ _ _ hO1 ⟨w.heap.size, 0, none⟩ 1 1 [.int .u8 ((o + 1 : Nat) : Int)] rfl (World.news_of_block kn) (by intro u hu; simp at hu; subst hu; rfl) (by omega) (by omega) (by rw [hW1]; simp; omega)
  have hB2 := OwnU.below_grown hB1 hg2 hO1 (Nat.le_of_eq HN.out)
  obtain ⟨a2, cp2, rfl⟩ := hO2.slice
  rw [hW1] at hr2
  have c02 := (HBW.out W2 hB2).cell0
  simp only [RE.op] at c02
  have HO2 := hide hO2
  have HB2 := hide hB2
  clear hW1 kn hO1 hB1 hg2 hO2 hB2
  unfold PT
  by_cases ho : o = 2
  · have ho2 : ((o : Int) == 2) = true := by simp [ho]
    obtain ⟨pre, hpre⟩ : ∃ pre, pre = (o + 1) :: rnB (runsOf s) := ⟨_, rfl⟩
    have HPK := hide (show key = pre ++ (keysL ks ++ [0]) from by rw [HKEY.out, if_pos ho, hpre]; rfl)
    have hrl := runs_le s
    have hpl : pre.length = 1 + 2 * (runsOf s).length := by rw [hpre]; simp [rnB_length]; omega
    have hpk : key.length = pre.length + (keysL ks).length + 1 := by rw [HPK.out]; simp; omega
    have HPL := hide hpl
    clear hpl
    have cS := (HBW.out W2 HB2.out).cellS
    have cs0 := cS 0 (by omega); have cs1 := cS 1 (by omega); have cs2 := cS 2 (by omega); have cs3 := cS 3 (by omega)
    simp only [RE.set] at cs0 cs1 cs2 cs3
    have hB2s : N ≤ W2.heap.size := by rw [HN.out]; exact HB2.out.size
    have hruns := appendRuns_any s _ _ N _ W2 HO2.out (by omega) hG hB2s (HT.out.agree (Agree.of_all (K := fun _ => True) (HN.out ▸ HB2.out)) trivial)
    have HRUN := hide hruns
    have HHO := hide hpre
    clear ho hruns cS hpre
    go_enter Tryz.func64, Tryz.ntmps64
    go_wp2_with (refine wpList_append_run rfl _ _ _ rfl _ _ _ rfl rfl hr2 ?_)
    refine HRUN.out.mono ?_
    rintro e W3 ⟨v3, rfl, h3, hg3, -, -⟩
    have HBP := hide (OwnU.below_grown HB2.out hg3 HO2.out (Nat.le_of_eq HN.out))
    have HOP : Hid (OwnU W3 N v3 (n + pre.length) (xs ++ byteV pre)) := by
      show OwnU W3 N v3 (n + pre.length) (xs ++ byteV pre)
      rw [show n + pre.length = n + 1 + 2 * (runsOf s).length from by have := HPL.out; omega, show xs ++ byteV pre = xs ++ [.int .u8 ((o + 1 : Nat) : Int)] ++ byteV (rnB (runsOf s)) from by rw [HHO.out]; simp [byteV]]
      exact h3
    have c53 := HC5.out W3 HBP.out
    clear h3 hg3 HRUN hr2 cs0 cs1 cs2 cs3 c02 c0
    obtain ⟨hkn, ka, kc, rfl, -⟩ := HKR.out.at
    go_wp2
    go_loopw [1, 35] (fun out c wr => ∃ (k : Nat), k ≤ ks.length ∧ c = .int .i64 k ∧ Hid (OwnU wr N out (n + pre.length + (keysL (ks.take k)).length) (xs ++ byteV pre ++ byteV (keysL (ks.take k)))) ∧ Hid (Below N w0 wr)) (fun _ c _ => ks.length - (intOf c).toNat)
    case atStart => exact ⟨0, by omega, rfl, (show OwnU _ _ _ _ _ from by simpa [keysL, byteV] using HOP.out), HBP⟩
    case round =>
      obtain ⟨k, hk, rfl, HOk, HBk⟩ := hrel
      obtain ⟨-, ka', kc', ke, kg⟩ := (HKR.out.below (show Below w0.heap.size w0 wr from HN.out ▸ HBk.out)).at
      obtain ⟨rfl, rfl⟩ : ka = ka' ∧ kc = kc' := by cases ke; exact ⟨rfl, rfl⟩
      obtain ⟨-, ka'', kc'', ke2, kg2⟩ := HKR.out.at
      obtain ⟨rfl, rfl⟩ : ka = ka'' ∧ kc = kc'' := by cases ke2; exact ⟨rfl, rfl⟩
      have hkle := keysL_le ks k
      have hNk : N ≤ wr.heap.size := by rw [HN.out]; exact HBk.out.size
      by_cases hlt : k < ks.length
      · have hkd : decide (k < ks.length) = true := by simp [hlt]
        obtain ⟨kb1, ko1, kp1, rfl, -, kd1, -⟩ := kg k hlt
        obtain ⟨kb2, ko2, kp2, ke3, -, kd2, kr2⟩ := kg2 k hlt
        cases ke3
        have hpp : kp1 = kp2 := by
          have hc := World.cell?_of_block (a := ⟨kb1, ko1 + k, none⟩) (HBk.out.block kb1 (by rw [HN.out]; exact World.block_lt_of_cell? _ _ kd2))
          rw [kd1, kd2] at hc
          simpa [PT] using hc
        subst hpp
        have HTK := hide (keysL_take ks k hlt)
        have hkle2 := keysL_le ks (k + 1)
        rw [HTK.out, List.length_append] at hkle2
        have hrec := ih _ (List.getElem_mem hlt) kp1 u1 (n + pre.length + (keysL (ks.take k)).length) N _ w0 wr (hkw _ (List.getElem_mem hlt)) kr2 HN.out HBk.out HOk.out (by omega) HT.out
        have HREC := hide hrec
        unfold PT at kd1
        clear hrec kg kg2 ke ke2 kd2 kr2
        go_wp2_with fail
        refine HREC.out.mono ?_
        rintro e w5 ⟨v5, rfl, h5, hb5⟩
        have H5 := hide h5
        have HB5 := hide hb5
        clear h5 hb5 HREC
        go_wp2
        refine ⟨⟨k + 1, by omega, by go_num, ?_, HB5⟩, by simp [intOf]; omega⟩
        show OwnU _ _ _ _ _
        rw [HTK.out, List.length_append, byteV_append, ← List.append_assoc, ← Nat.add_assoc]
        exact H5.out
      · obtain rfl : k = ks.length := by omega
        rw [List.take_length] at HOk
        obtain ⟨W6, hW6⟩ : ∃ W6, W6 = wr.alloc (.cells #[.int .u8 0] 5) := ⟨_, rfl⟩
        have kn6 : Blk W6 wr.heap.size #[.int .u8 0] 5 := by rw [hW6]; exact Blk.newAt rfl _ _
        have hO6 : OwnU W6 N u1 (n + pre.length + (keysL ks).length) (xs ++ byteV pre ++ byteV (keysL ks)) := HOk.out.keep fun g hg => by rw [hW6]; exact Below.heap_alloc _ _ _ (HOk.out.own_lt hg).2
        have hB6 : Below N w0 W6 := by rw [hW6]; exact HBk.out.alloc hNk _
        obtain ⟨v7, W7, hr7, hO7, hg7, -, -⟩ := run_appendU W6 61 N _ _ _ hO6 ⟨wr.heap.size, 0, none⟩ 1 1 [.int .u8 0] rfl (World.news_of_block kn6) (by intro u hu; simp at hu; subst hu; rfl) (by omega) (by omega) (by rw [hW6]; simp; omega)
        have hB7 := OwnU.below_grown hB6 hg7 hO6 (Nat.le_of_eq HN.out)
        obtain ⟨a7, cp7, rfl⟩ := hO7.slice
        obtain ⟨au, cu, hu⟩ := HOk.out.slice
        rw [hW6] at hr7
        rw [hu] at hr7
        subst hu
        have HO7 := hide hO7
        have HB7 := hide hB7
        clear hW6 kn6 hO6 hB6 hg7 hO7 hB7 kg kg2 ke ke2
        go_wp2_with (refine wpList_append_run rfl _ _ _ rfl _ _ _ rfl rfl hr7 ?_)
        go_ret
        refine ⟨_, rfl, ?_, HB7.out⟩
        have h7 := HO7.out
        have e1 : n + key.length = n + pre.length + (keysL ks).length + 1 := by rw [HPK.out]; simp; omega
        have e2 : xs ++ byteV key = xs ++ byteV pre ++ byteV (keysL ks) ++ [.int .u8 0] := by rw [HPK.out]; simp [byteV]
        rw [e1, e2]
        exact h7
  · have ho2 : ((o : Int) == 2) = false := beq_eq_false_iff_ne.2 (by omega)
    obtain ⟨pre, hpre⟩ : ∃ pre : List Nat, pre = [o + 1] := ⟨_, rfl⟩
    have HPK := hide (show key = pre ++ (keysL ks ++ [0]) from by rw [HKEY.out, if_neg ho, hpre]; rfl)
    have hpl : pre.length = 1 := by rw [hpre]; rfl
    have hpk : key.length = pre.length + (keysL ks).length + 1 := by rw [HPK.out]; simp; omega
    have HHO := hide hpre
    have HBP := HB2
    have HOP : Hid (OwnU W2 N (.slice a2 (n + 1) cp2) (n + pre.length) (xs ++ byteV pre)) := by
      show OwnU W2 N (.slice a2 (n + 1) cp2) (n + pre.length) (xs ++ byteV pre)
      rw [hpl, HHO.out]
      exact HO2.out
    have c53 := HC5.out W2 HBP.out
    clear ho hpre hpl
    go_enter Tryz.func64, Tryz.ntmps64
    obtain ⟨hkn, ka, kc, rfl, -⟩ := HKR.out.at
    go_wp2_with (refine wpList_append_run rfl _ _ _ rfl _ _ _ rfl rfl hr2 ?_)
    go_loopw [1, 35] (fun out c wr => ∃ (k : Nat), k ≤ ks.length ∧ c = .int .i64 k ∧ Hid (OwnU wr N out (n + pre.length + (keysL (ks.take k)).length) (xs ++ byteV pre ++ byteV (keysL (ks.take k)))) ∧ Hid (Below N w0 wr)) (fun _ c _ => ks.length - (intOf c).toNat)
    case atStart => exact ⟨0, by omega, rfl, (show OwnU _ _ _ _ _ from by simpa [keysL, byteV] using HOP.out), HBP⟩
    case round =>
      obtain ⟨k, hk, rfl, HOk, HBk⟩ := hrel
      obtain ⟨-, ka', kc', ke, kg⟩ := (HKR.out.below (show Below w0.heap.size w0 wr from HN.out ▸ HBk.out)).at
      obtain ⟨rfl, rfl⟩ : ka = ka' ∧ kc = kc' := by cases ke; exact ⟨rfl, rfl⟩
      obtain ⟨-, ka'', kc'', ke2, kg2⟩ := HKR.out.at
      obtain ⟨rfl, rfl⟩ : ka = ka'' ∧ kc = kc'' := by cases ke2; exact ⟨rfl, rfl⟩
      have hkle := keysL_le ks k
      have hNk : N ≤ wr.heap.size := by rw [HN.out]; exact HBk.out.size
      by_cases hlt : k < ks.length
      · have hkd : decide (k < ks.length) = true := by simp [hlt]
        obtain ⟨kb1, ko1, kp1, rfl, -, kd1, -⟩ := kg k hlt
        obtain ⟨kb2, ko2, kp2, ke3, -, kd2, kr2⟩ := kg2 k hlt
        cases ke3
        have hpp : kp1 = kp2 := by
          have hc := World.cell?_of_block (a := ⟨kb1, ko1 + k, none⟩) (HBk.out.block kb1 (by rw [HN.out]; exact World.block_lt_of_cell? _ _ kd2))
          rw [kd1, kd2] at hc
          simpa [PT] using hc
        subst hpp
        have HTK := hide (keysL_take ks k hlt)
        have hkle2 := keysL_le ks (k + 1)
        rw [HTK.out, List.length_append] at hkle2
        have hrec := ih _ (List.getElem_mem hlt) kp1 u1 (n + pre.length + (keysL (ks.take k)).length) N _ w0 wr (hkw _ (List.getElem_mem hlt)) kr2 HN.out HBk.out HOk.out (by omega) HT.out
        have HREC := hide hrec
        unfold PT at kd1
        clear hrec kg kg2 ke ke2 kd2 kr2
        go_wp2_with fail
        refine HREC.out.mono ?_
        rintro e w5 ⟨v5, rfl, h5, hb5⟩
        have H5 := hide h5
        have HB5 := hide hb5
        clear h5 hb5 HREC
        go_wp2
        refine ⟨⟨k + 1, by omega, by go_num, ?_, HB5⟩, by simp [intOf]; omega⟩
        show OwnU _ _ _ _ _
        rw [HTK.out, List.length_append, byteV_append, ← List.append_assoc, ← Nat.add_assoc]
        exact H5.out
      · obtain rfl : k = ks.length := by omega
        rw [List.take_length] at HOk
        obtain ⟨W6, hW6⟩ : ∃ W6, W6 = wr.alloc (.cells #[.int .u8 0] 5) := ⟨_, rfl⟩
        have kn6 : Blk W6 wr.heap.size #[.int .u8 0] 5 := by rw [hW6]; exact Blk.newAt rfl _ _
        have hO6 : OwnU W6 N u1 (n + pre.length + (keysL ks).length) (xs ++ byteV pre ++ byteV (keysL ks)) := HOk.out.keep fun g hg => by rw [hW6]; exact Below.heap_alloc _ _ _ (HOk.out.own_lt hg).2
        have hB6 : Below N w0 W6 := by rw [hW6]; exact HBk.out.alloc hNk _
        obtain ⟨v7, W7, hr7, hO7, hg7, -, -⟩ := run_appendU W6 61 N _ _ _ hO6 ⟨wr.heap.size, 0, none⟩ 1 1 [.int .u8 0] rfl (World.news_of_block kn6) (by intro u hu; simp at hu; subst hu; rfl) (by omega) (by omega) (by rw [hW6]; simp; omega)
        have hB7 := OwnU.below_grown hB6 hg7 hO6 (Nat.le_of_eq HN.out)
        obtain ⟨a7, cp7, rfl⟩ := hO7.slice
        obtain ⟨au, cu, hu⟩ := HOk.out.slice
        rw [hW6] at hr7
        rw [hu] at hr7
        subst hu
        have HO7 := hide hO7
        have HB7 := hide hB7
        clear hW6 kn6 hO6 hB6 hg7 hO7 hB7 kg kg2 ke ke2
        go_wp2_with (refine wpList_append_run rfl _ _ _ rfl _ _ _ rfl rfl hr7 ?_)
        go_ret
        refine ⟨_, rfl, ?_, HB7.out⟩
        have h7 := HO7.out
        have e1 : n + key.length = n + pre.length + (keysL ks).length + 1 := by rw [HPK.out]; simp; omega
        have e2 : xs ++ byteV key = xs ++ byteV pre ++ byteV (keysL ks) ++ [.int .u8 0] := by rw [HPK.out]; simp [byteV]
        rw [e1, e2]
        exact h7

/-- A text of these bytes. -/
def strB (l : List Nat) : ByteArray := strOfNums (l.map fun x : Nat => (x : Int))
theorem key_lt256 (r : RE) : WfK r → ∀ x ∈ r.key, x < 256 := by
  refine RE.ind (P := fun r => WfK r → ∀ x ∈ r.key, x < 256) ?_ r
  intro o s ks ih hw x hx
  rw [RE.key_mk] at hx
  have ho : o ≤ 7 := by cases hw; assumption
  simp only [List.mem_cons, List.mem_append] at hx
  rcases hx with rfl | hx | hx | rfl | hx
  · omega
  · split at hx
    · exact rnB_lt s x hx
    · simp at hx
  · obtain ⟨l, hl, hx⟩ := List.mem_flatten.1 hx
    obtain ⟨k, hk, rfl⟩ := List.mem_map.1 hl
    exact ih k hk (hw.kid k hk) x hx
  · omega
  · simp at hx
theorem strB_inj {a b : List Nat} (ha : ∀ x ∈ a, x < 256) (hb : ∀ x ∈ b, x < 256) (h : strB a = strB b) : a = b := by
  have h1 := congrArg (fun s : ByteArray => s.data.toList.map UInt8.toNat) h
  simp only [strB, strOfNums, List.map_map, Function.comp_def, Int.toNat_natCast] at h1
  have e : ∀ l : List Nat, (∀ x ∈ l, x < 256) → l.map (fun x => (UInt8.ofNat x).toNat) = l := fun l hl => by
    have : l.map (fun x => (UInt8.ofNat x).toNat) = l.map id := List.map_congr_left fun x hx => by
      have := hl x hx
      simp; omega
    rw [this, List.map_id]
  rw [e a ha, e b hb] at h1
  exact h1
set_option maxHeartbeats 1000000 in
theorem key_any (r : RE) (b : Nat) (w : World) (hw : WfK r) (h : ReAt w b r) (hl : r.key.length ≤ 1099511627776) (hT : TabAt w) :
    Calls Tryz.prog 43 #[PT b] w fun e w' => e = .returned (.string (strB r.key)) ∧ Below w.heap.size w w' := by
  have hk := appendKey_any r b (.slice none 0 0) 0 w.heap.size [] w w hw h rfl (Below.refl _ _) ⟨rfl, .inl ⟨rfl, rfl⟩⟩ (by omega) hT
  have HK := hide hk
  clear hk
  go_enter Tryz.func43, Tryz.ntmps43
  go_wp2_with fail
  refine HK.out.mono ?_
  rintro e w1 ⟨v, rfl, ho, hb⟩
  rw [List.nil_append, Nat.zero_add] at ho
  have HB := hide hb
  clear hb HK
  have hcv : (convert 61 9 v).run Tryz.prog w1 = .ok (.string (strB r.key)) w1 := by
    rcases ho.2 with ⟨-, hn⟩ | ⟨g, cap, cur, t, rfl, -⟩
    · exfalso
      cases r
      rw [RE.key_mk] at hn
      simp at hn
    · refine run_convert_bytes_arg _ 61 5 Tryz.underlying61 Tryz.underlying5 g 0 _ cap (r.key.map fun x : Nat => (x : Int)) (by simp) (fun i hi => ?_) 9 Tryz.underlying9
      rw [Nat.zero_add]
      refine ho.cells i _ ?_
      simp [byteV, List.getD_eq_getElem?_getD, hi]
  obtain ⟨a, c, rfl⟩ := ho.slice
  go_wp2
  go_ret
  exact ⟨rfl, HB.out⟩
end Go.Proofs.YtkjmjppmpcnejaaGreatDoor
