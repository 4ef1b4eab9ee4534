/- Texts of this claim put together: DvA, RowG, MathSame, MathDv, DvB, MathDw, DvC. -/
import Derived.Test.YtjcfnmjjkadaeaaGreatDoorJoinShE
import Derived.Deep.Upon
import Derived.Test.YtjcfnmjjkadaeaaGreatDoorJoinShD
import Derived.Laws.OwnMore
import Derived.OwnWalk
import Derived.Test.YtjcfnmjjkadaeaaGreatDoorJoinSetG
/- Rows of expressions that one may append to; what package deriv asks of rows. -/
namespace Go.Proofs.YtjcfnmjjkadaeaaGreatDoor
set_option maxRecDepth 100000
set_option linter.unusedSimpArgs false
set_option linter.unusedVariables false
open Go.RowKit

/-- A row that may be appended to: it has no room behind its end, or it is one's own. -/
structure Fine [Forb] (W : World) (base : Nat) (v : Value) (ps : List (Nat × RE)) : Prop where
  row : RowAt W v ps
  own : (∃ a, v = .slice a ps.length ps.length) ∨ OwnZ W base v ps
theorem Fine.keep [Forb] {W W' : World} {base : Nat} {v : Value} {ps : List (Nat × RE)} (h : Fine W base v ps) (hb : Below W.heap.size W W') : Fine W' base v ps :=
  ⟨h.row.below hb, h.own.elim .inl fun h => .inr (h.keep hb)⟩
theorem Fine.nil [Forb] (W : World) (base : Nat) (hf : FL W.heap.size) : Fine W base (.slice none 0 0) [] :=
  ⟨⟨⟨by simp, .zero hf⟩, none, 0, rfl, fun j p hp => by simp at hp⟩, .inl ⟨none, rfl⟩⟩
theorem OwnZ.lower {W : World} {base base' : Nat} {v : Value} {ps : List (Nat × RE)} (h : OwnZ W base v ps) (hb : base' ≤ base) : OwnZ W base' v ps := by
  obtain ⟨g, cap, cur, e, h1, h2⟩ := h.own
  exact ⟨g, cap, cur, e, Nat.le_trans hb h1, h2⟩
theorem Fine.lower [Forb] {W : World} {base base' : Nat} {v : Value} {ps : List (Nat × RE)} (h : Fine W base v ps) (hb : base' ≤ base) : Fine W base' v ps :=
  ⟨h.row, h.own.elim .inl fun h => .inr (h.lower hb)⟩

theorem own_grown {W W' : World} {base K : Nat} {ps : List (Nat × RE)} (hW : W' = W.drew.alloc (.cells ((ptrs ps).toArray ++ Builtin.zeroCells (Value.pointer none).cells (K - ps.length)) 30)) (hK : ps.length ≤ K) (hm : K ≤ maxLen) (hbase : base ≤ W.heap.size) :
    OwnZ W' base (.slice (some ⟨W.heap.size, 0, none⟩) ps.length K) ps ∧ Below W.heap.size W W' := by
  have hblk : Blk W' W.heap.size ((ptrs ps).toArray ++ Builtin.zeroCells (Value.pointer none).cells (K - ps.length)) 30 := by rw [hW]; exact heap_alloc_new W.drew _
  refine ⟨⟨W.heap.size, _, _, rfl, hbase, hblk, hK, hm, ?_⟩, by rw [hW]; exact ⟨rfl, rfl, rfl, by simp, fun k hk => heap_alloc_old W.drew _ hk⟩⟩
  rw [Array.toList_append]
  congr 1
  simp [Builtin.zeroCells, Value.cells]
  apply List.ext_getElem
  · simp
  · intro j h1 h2
    simp [Nat.mod_one]

set_option maxHeartbeats 1000000 in
/-- append of a row. -/
theorem run_appendF [Forb] {W : World} {base : Nat} {v u : Value} {ps qs : List (Nat × RE)} (h : Fine W base v ps) (hu : RowAt W u qs) (ty : TypeId) (hl : ps.length + qs.length ≤ 1099511627776) (hbase : base ≤ W.heap.size) (hfb : FL base) :
    ∃ v' W', (Builtin.append_ #[59, 59] ty #[v, u]).run Tryz.prog W = .ok v' W' ∧ Fine W' base v' (ps ++ qs) ∧ Below base W W' ∧ ∀ b' r', ReAt W b' r' → ReAt W' b' r' := by
  obtain ⟨i, hi, hz0, hz1, hz2⟩ := info_parts infoP
  have hpp : ptrs (ps ++ qs) = ptrs ps ++ ptrs qs := by simp [ptrs]
  have hpl := ptrs_length ps
  have hql := ptrs_length qs
  obtain ⟨⟨hpn, hpc⟩, va, vc, rfl, hcells⟩ := h.row
  have hvc : ps.length ≤ vc := hpc.cap _ _ _ rfl
  by_cases hq : qs = []
  · subst hq
    obtain ⟨⟨-, -⟩, ua, uc, rfl, -⟩ := hu
    have hs : Src Tryz.prog i.size 59 (.slice ua ([] : List (Nat × RE)).length uc) 0 [] W := by
      cases ua with
      | none => exact Src.ofNil (w := W) Tryz.underlying59 uc
      | some a => exact Src.ofSlice (w := W) Tryz.underlying59 a 0 uc [] (by simp) (by simp) (by simp)
    refine ⟨_, W, run_append_nothing W _ _ _ 30 i Tryz.underlying59 hi va ps.length vc hvc _ hs, ?_, Below.refl _ _, fun _ _ h => h⟩
    rw [List.append_nil]; exact h
  · have hq0 : 0 < qs.length := List.length_pos_iff.2 hq
    obtain ⟨ad, cap, rfl, hnews⟩ := hu.news hq0
    have hlen : (ps ++ qs).length = ps.length + qs.length := List.length_append
    have fin : ∀ (K : Nat) W', ps.length + qs.length ≤ K → K ≤ maxLen → W' = W.drew.alloc (.cells ((ptrs (ps ++ qs)).toArray ++ Builtin.zeroCells (Value.pointer none).cells (K - (ps.length + qs.length))) 30) →
        Fine W' base (.slice (some ⟨W.heap.size, 0, none⟩) (ps.length + qs.length) K) (ps ++ qs) ∧ Below base W W' ∧ ∀ b' r', ReAt W b' r' → ReAt W' b' r' := by
      intro K W' hK hm hW
      rw [← hlen] at hW hK ⊢
      obtain ⟨h1, h2⟩ := own_grown hW hK hm hbase
      exact ⟨⟨h1.row hfb (by omega), .inr h1⟩, h2.mono hbase, fun b r hr => hr.keep h2⟩
    have hcm : ∀ c, grownCap W (ps.length + qs.length) c 30 ≤ maxLen ∨ True := fun c => .inr trivial
    have holds : ∀ b, va = some b → ∀ j u, (ptrs ps)[j]? = some u → W.cell? (b.add j) = some u := by
      intro b hb j u hju
      rw [ptrs, List.getElem?_map] at hju
      cases e : ps[j]? with
      | none => rw [e] at hju; cases hju
      | some p =>
        rw [e] at hju; simp at hju
        obtain ⟨b', off', e', -, hc⟩ := hcells j p e
        rw [hb] at e'; cases e'
        rw [Go.WideShapes.add_plain, hc, ← hju]
    by_cases hroom : ps.length + qs.length ≤ vc
    · rcases h.own with ⟨a, e⟩ | h
      · injection e with _ _ e; omega
      · obtain ⟨g, cp, cur, e, hbg, hg, hn, hcap, hcur⟩ := h.own
        injection e with e1 e2 e3
        subst e1 e3
        have hcs : cur.size = vc := by rw [← Array.length_toList, hcur]; simp [hpl]; omega
        have hfit : ps.length * i.size + (ptrs qs).length ≤ cur.size := by rw [hcs, hz1, hql]; omega
        have hr := run_append_room (P := Tryz.prog) W 59 ty 30 i Tryz.underlying59 hi g ps.length vc cur hg ad qs.length cap (ptrs qs) (by rw [hz1, hql]; omega) hnews (ptrs_one qs) hroom hfit
        rw [hz1, Nat.mul_one, hql] at hr
        obtain ⟨c', hc'⟩ : ∃ c' : Array Value, c' = (cur.toList.take ps.length ++ ptrs qs ++ cur.toList.drop (ps.length + qs.length)).toArray := ⟨_, rfl⟩
        rw [← hc'] at hr
        have hblk' : Blk (W.setRow g c') g c' 30 := setRow_heap W g cur _ 30 _ hg
        have hother : ∀ k, k ≠ g → (W.setRow g c').heap[k]? = W.heap[k]? := fun k hk => setRow_other W g k _ hk
        have hsz : (W.setRow g c').heap.size = W.heap.size := by simp
        have htake : cur.toList.take ps.length = ptrs ps := by rw [hcur, ← hpl]; exact List.take_left
        have hdrop : cur.toList.drop (ps.length + qs.length) = List.replicate (vc - (ps.length + qs.length)) (.pointer none) := by
          rw [hcur, List.drop_append, List.drop_eq_nil_of_le (by rw [hpl]; omega), hpl, List.nil_append, List.drop_replicate]
          congr 1
          omega
        have hown : OwnZ (W.setRow g c') base (.slice (some ⟨g, 0, none⟩) (ps ++ qs).length vc) (ps ++ qs) := by
          refine ⟨g, vc, c', rfl, hbg, hblk', by rw [hlen]; exact hroom, hcap, ?_⟩
          rw [hc', hpp, htake, hdrop, hlen]
        refine ⟨_, _, hr, ?_, ⟨rfl, rfl, rfl, by rw [hsz]; exact Nat.le_refl _, fun k hk => hother k (by omega)⟩, fun b' r' hr' => hr'.past (g := g) (by rw [hsz]; exact Nat.le_refl _) (fun k _ hk => hother k hk) hg hblk' ?_⟩
        · rw [← hlen]; exact ⟨hown.row hfb (by omega), .inr hown⟩
        · intro j u hj hu
          have hj' : cur.toList[j]? = some u := by rw [Array.getElem?_toList]; exact hj
          have hjl : j < ps.length := by
            rw [hcur] at hj'
            rcases Nat.lt_or_ge j ps.length with h | h
            · exact h
            · exfalso
              rw [List.getElem?_append_right (by rw [hpl]; exact h), List.getElem?_replicate] at hj'
              split at hj'
              · injection hj' with e; exact hu e.symm
              · cases hj'
          rw [hc', ← Array.getElem?_toList, List.append_assoc, List.getElem?_append_left (by rw [htake, hpl]; exact hjl), List.getElem?_take, if_pos hjl]
          exact hj'
    · cases va with
      | none =>
        have hp0 : ps.length = 0 := by
          rcases Nat.eq_zero_or_pos ps.length with h | h
          · exact h
          · obtain ⟨b, off, e, -⟩ := hcells 0 ps[0] (List.getElem?_eq_getElem h); cases e
        have hvc0 : vc = 0 := by
          rcases h.own with ⟨a, e⟩ | h
          · injection e with _ _ e; omega
          · obtain ⟨g, cp, cur, e, -⟩ := h.own; cases e
        have hpn : ps = [] := List.length_eq_zero_iff.1 hp0
        subst hvc0 hpn
        have hr := run_append_nil (P := Tryz.prog) (w := W) 59 ty 30 i (.pointer none) Tryz.underlying59 hi hz0 ad qs.length cap (ptrs qs) (by rw [hz1, hql]; omega) hnews hq0 (by omega) (by rw [hz2]; omega)
        have hge := grownCap_ge W qs.length 0 30
        have hcm : grownCap W qs.length 0 30 ≤ maxLen := grownCap_le_maxLen W qs.length 0 _ (by unfold maxLen; omega)
        refine ⟨_, _, hr, ?_⟩
        have := fin _ _ (by simpa using hge) hcm rfl
        simpa using this
      | some b =>
        have hr := run_append_grow (P := Tryz.prog) W 59 ty 30 i (.pointer none) Tryz.underlying59 hi hz0 b ps.length vc (ptrs ps) (by rw [hz1, hpl]; omega) (holds b rfl) ad qs.length cap (ptrs qs) (by rw [hz1, hql]; omega) hnews (by omega) (by omega) (by rw [hz2]; exact growslice_fits (by omega) (by omega))
        have hge := grownCap_ge W (ps.length + qs.length) vc 30
        have hcm : grownCap W (ps.length + qs.length) vc 30 ≤ maxLen := grownCap_le_maxLen W (ps.length + qs.length) vc _ (by unfold maxLen; omega)
        refine ⟨_, _, hr, ?_⟩
        have := fin _ _ hge hcm rfl
        rw [hpp] at this
        simpa using this

theorem needsByte_any [Forb] (b : Nat) (r : RE) (w : World) (h : ReAt w b r) :
    Calls Tryz.prog 168 #[PT b] w fun e w' => e = .returned (.bool (!r.null)) ∧ w' = w := by
  go_enter Tryz.func168, Tryz.ntmps168
  go_wp2_with fail
  refine (null_any b r w h).mono ?_
  rintro e w1 ⟨rfl, rfl⟩
  go_wp2
  go_ret
  exact ⟨rfl, rfl⟩

/-- slices.IndexFunc, and where it is. -/
theorem indexFunc_at [Forb] (fid : FuncId) (ent : ∀ args w, (callFunc fid args).run Tryz.prog w = .ok (.enter fid args) w) (p : RE → Bool) (l : List RE) (v : Value) (w : World) (h : ResRow w v l)
    (hp : ∀ b r, ReAt w b r → Calls Tryz.prog fid #[PT b] w fun e w' => e = .returned (.bool (p r)) ∧ w' = w) :
    Calls Tryz.prog 157 #[v, .func (.func fid) #[] #[]] w fun e w' => ∃ i : Int, e = .returned (.int .i64 i) ∧ w' = w ∧
      ((i = -1 ∧ l.any p = false) ∨ ∃ k : Nat, ∃ hk : k < l.length, i = k ∧ (l.take k).any p = false ∧ p l[k] = true) := by
  obtain ⟨hn, ad, cap, rfl, hc⟩ := h.at
  go_enter Tryz.func157, Tryz.ntmps157
  go_wp2
  go_loopw [8] (fun i wr => ∃ k : Nat, k ≤ l.length ∧ i = .int .i64 k ∧ (l.take k).any p = false ∧ wr = w) (fun i _ => l.length - (intOf i).toNat)
  case atStart => exact ⟨0, by omega, rfl, rfl, rfl⟩
  case round =>
    obtain ⟨k, hk, rfl, hany, rfl⟩ := hrel
    by_cases hlt : k < l.length
    · obtain ⟨b, off, bk, rfl, hb, hcell, hre⟩ := hc k hlt
      unfold PT at hcell
      have hkd : decide (k < l.length) = true := by simp [hlt]
      have hany2 : (l.take (k + 1)).any p = p l[k] := by
        rw [List.take_succ_eq_append_getElem hlt, List.any_append, hany]; simp
      have HK := hide (show p l[k] = true → ∃ k' : Nat, ∃ hk : k' < l.length, ((k : Nat) : Int) = k' ∧ (l.take k').any p = false ∧ p l[k'] = true from fun e => ⟨k, hlt, rfl, hany, e⟩)
      generalize hr : l[k] = r at *
      have HA := hide hany2
      clear hany hany2
      go_wp2_with fail
      refine (hp bk _ hre).mono ?_
      rintro e w1 ⟨rfl, rfl⟩
      cases hpr : p r with
      | true =>
        go_wp2
        go_ret
        exact ⟨_, rfl, rfl, .inr (HK.out hpr)⟩
      | false =>
        rw [hpr] at HA
        go_wp2
        exact ⟨⟨k + 1, by omega, by go_num, HA.out, trivial⟩, by simp [intOf]; omega⟩
    · obtain rfl : k = l.length := by omega
      rw [List.take_length] at hany
      have HA := hide hany
      clear hany
      go_wp2
      go_ret
      exact ⟨_, rfl, rfl, .inl ⟨rfl, HA.out⟩⟩

/-- How many of a row a first byte can lie in. -/
def leadN : List RE → Nat
  | [] => 0
  | r :: l => if r.null then 1 + leadN l else 1
theorem leadN_le (l : List RE) : leadN l ≤ l.length := by
  induction l with
  | nil => simp [leadN]
  | cons r l ih => simp only [leadN, List.length_cons]; split <;> omega
theorem leadN_all (l : List RE) (h : l.any (fun r => !r.null) = false) : leadN l = l.length := by
  induction l with
  | nil => rfl
  | cons r l ih =>
    rw [List.any_cons, Bool.or_eq_false_iff] at h
    rw [leadN, if_pos (by simpa using h.1), ih h.2, List.length_cons]; omega
theorem leadN_at (l : List RE) (k : Nat) (hk : k < l.length) (h : (l.take k).any (fun r => !r.null) = false) (h2 : (!l[k].null) = true) : leadN l = k + 1 := by
  induction l generalizing k with
  | nil => simp at hk
  | cons r l ih =>
    cases k with
    | zero => rw [leadN, if_neg (by simpa using h2)]
    | succ k =>
      rw [List.take_succ_cons, List.any_cons, Bool.or_eq_false_iff] at h
      rw [leadN, if_pos (by simpa using h.1), ih k (by simpa using hk) h.2 (by simpa using h2)]; omega

theorem RowAt.take [Forb] {w : World} {a : Option Addr} {m c k : Nat} {qs : List (Nat × RE)} (h : RowAt w (.slice a m c) qs) (hk : k ≤ qs.length) : RowAt w (.slice a k c) (qs.take k) := by
  obtain ⟨⟨h0, h1⟩, a', c', e, h2⟩ := h
  injection e with e1 e2 e3
  subst e1 e2 e3
  have := h1.cap _ _ _ rfl
  refine ⟨⟨by simp; omega, .of (by omega) h1.fl (fun ad e h0 => h1.out ad _ _ (by rw [e]) (by omega))⟩, a, c, by simp [hk], fun j p hp => ?_⟩
  rw [List.getElem?_take] at hp
  split at hp
  · exact h2 j p hp
  · cases hp

theorem leading_any [Forb] (v : Value) (qs : List (Nat × RE)) (w : World) (h : RowAt w v qs) (hr : ∀ p ∈ qs, ReAt w p.1 p.2) :
    Calls Tryz.prog 139 #[v] w fun e w' => w' = w ∧ ∃ v', e = .returned v' ∧ RowAt w v' (qs.take (leadN (qs.map Prod.snd))) := by
  have HW := hide h
  have HRes := hide (h.res hr)
  obtain ⟨⟨h0, h1⟩, a, cap, rfl, -⟩ := h
  have hcap : qs.length ≤ cap := h1.cap _ _ _ rfl
  clear h1 hr
  have hix := indexFunc_at 168 (enters_of Tryz.func168 (by kernel_rfl) rfl) (fun r => !r.null) _ _ w HRes.out (fun b r hb => needsByte_any b r w hb)
  have HL := hide (show ∀ i : Int, ((i = -1 ∧ (qs.map Prod.snd).any (fun r => !r.null) = false) ∨ ∃ k : Nat, ∃ hk : k < (qs.map Prod.snd).length, i = k ∧ ((qs.map Prod.snd).take k).any (fun r => !r.null) = false ∧ (!(qs.map Prod.snd)[k].null) = true) →
      (i = -1 ∧ leadN (qs.map Prod.snd) = qs.length) ∨ ∃ k : Nat, k < qs.length ∧ i = k ∧ leadN (qs.map Prod.snd) = k + 1 from by
    rintro i (⟨h1, h2⟩ | ⟨k, h1, h2, h3, h4⟩)
    · exact .inl ⟨h1, by rw [leadN_all _ h2]; simp⟩
    · exact .inr ⟨k, by simpa using h1, h2, leadN_at _ k h1 h3 h4⟩)
  obtain ⟨n, hn⟩ : ∃ n, n = qs.length := ⟨_, rfl⟩
  rw [← hn] at HL h0 hcap hix ⊢
  have HN := hide hn
  clear hn
  generalize leadN (qs.map Prod.snd) = m at *
  go_enter Tryz.func139, Tryz.ntmps139
  go_wp2_with fail
  refine hix.mono ?_
  rintro e w1 ⟨i, rfl, rfl, hi⟩
  rcases HL.out i hi with ⟨rfl, hm⟩ | ⟨k, hk, rfl, hm⟩
  · have HM := hide hm
    clear hm hi
    go_wp2
    go_ret
    refine ⟨rfl, _, rfl, ?_⟩
    rw [HM.out, HN.out, List.take_length, ← HN.out]
    have := HW.out
    rwa [← HN.out] at this
  · have HM := hide hm
    clear hm hi
    have hkd : decide ((0 : Int) ≤ (k : Int)) = true := by simp
    go_wp2
    go_ret
    refine ⟨rfl, _, rfl, ?_⟩
    rw [HM.out]
    have := (HW.out).take (k := k + 1) (by rw [← HN.out]; omega)
    simpa using this
end Go.Proofs.YtjcfnmjjkadaeaaGreatDoor
/- Rows of one's own, of elements of one cell: what append leaves as it was. -/
namespace Go.Proofs.YtjcfnmjjkadaeaaGreatDoor
set_option maxRecDepth 100000
set_option linter.unusedSimpArgs false
set_option linter.unusedVariables false
open Go.RowKit

/-- A row of its own, with zero values alone behind its end; or none. -/
def OwnG (W : World) (base : Nat) (E : TypeId) (z : Value) (v : Value) (xs : List Value) : Prop :=
  (v = .slice none 0 0 ∧ xs = []) ∨ ∃ g cap cur, v = .slice (some ⟨g, 0, none⟩) xs.length cap ∧ base ≤ g ∧ Blk W g cur E ∧ xs.length ≤ cap ∧ cap ≤ maxLen ∧ cur.toList = xs ++ List.replicate (cap - xs.length) z
theorem OwnG.nil (W : World) (base : Nat) (E : TypeId) (z : Value) : OwnG W base E z (.slice none 0 0) [] := .inl ⟨rfl, rfl⟩
theorem OwnG.other {W W' : World} {base : Nat} {E : TypeId} {z v : Value} {xs : List Value} (h : OwnG W base E z v xs) (hk : ∀ g, v.ownBlock = some g → g < W.heap.size → W'.heap[g]? = W.heap[g]?) : OwnG W' base E z v xs := by
  rcases h with h | ⟨g, cap, cur, rfl, h1, h2, h3⟩
  · exact .inl h
  · exact .inr ⟨g, cap, cur, rfl, h1, (hk g rfl h2.lt).trans h2, h3⟩
theorem OwnG.keep {W W' : World} {base : Nat} {E : TypeId} {z v : Value} {xs : List Value} (h : OwnG W base E z v xs) (hb : Below W.heap.size W W') : OwnG W' base E z v xs := h.other fun g _ hg => hb.block g hg
theorem OwnG.lower {W : World} {base base' : Nat} {E : TypeId} {z v : Value} {xs : List Value} (h : OwnG W base E z v xs) (hb : base' ≤ base) : OwnG W base' E z v xs := by
  rcases h with h | ⟨g, cap, cur, e, h1, h2⟩
  · exact .inl h
  · exact .inr ⟨g, cap, cur, e, Nat.le_trans hb h1, h2⟩
theorem OwnG.slice {W : World} {base : Nat} {E : TypeId} {z v : Value} {xs : List Value} (h : OwnG W base E z v xs) : ∃ a cap, v = .slice a xs.length cap ∧ xs.length ≤ cap := by
  rcases h with ⟨rfl, rfl⟩ | ⟨g, cap, cur, e, -, -, h, -⟩
  · exact ⟨none, 0, rfl, by simp⟩
  · exact ⟨_, _, e, h⟩
theorem OwnG.cell {W : World} {base : Nat} {E : TypeId} {z v : Value} {xs : List Value} (h : OwnG W base E z v xs) {j : Nat} {x : Value} (hj : xs[j]? = some x) :
    ∃ g cap, v = .slice (some ⟨g, 0, none⟩) xs.length cap ∧ base ≤ g ∧ g < W.heap.size ∧ W.cell? ⟨g, j, none⟩ = some x := by
  rcases h with ⟨rfl, rfl⟩ | ⟨g, cap, cur, e, h1, h2, h3, h4, h5⟩
  · simp at hj
  · refine ⟨g, cap, e, h1, h2.lt, ?_⟩
    rw [h2.cell, ← Array.getElem?_toList, h5, List.getElem?_append_left (List.getElem?_eq_some_iff.1 hj).1, hj]
theorem OwnG.at {W : World} {base : Nat} {E : TypeId} {z v : Value} {xs : List Value} (h : OwnG W base E z v xs) (h0 : 0 < xs.length) :
    ∃ g cap, v = .slice (some ⟨g, 0, none⟩) xs.length cap ∧ base ≤ g ∧ g < W.heap.size ∧ xs.length ≤ cap ∧ ∀ (j : Nat) x, xs[j]? = some x → W.cell? ⟨g, j, none⟩ = some x := by
  rcases h with ⟨rfl, rfl⟩ | ⟨g, cap, cur, e, h1, h2, h3, h4, h5⟩
  · simp at h0
  · refine ⟨g, cap, e, h1, h2.lt, h3, fun j x hj => ?_⟩
    rw [h2.cell, ← Array.getElem?_toList, h5, List.getElem?_append_left (List.getElem?_eq_some_iff.1 hj).1, hj]

/-- From W to W' such a row grew. -/
structure AppG (W W' : World) (base : Nat) (E : TypeId) (z v v' : Value) : Prop where
  below : Below base W W'
  size : W.heap.size ≤ W'.heap.size
  block : ∀ k, k < W.heap.size → v.ownBlock ≠ some k → W'.heap[k]? = W.heap[k]?
  old : ∀ g, v.ownBlock = some g → ∃ c c', Blk W g c E ∧ Blk W' g c' E ∧ ∀ (j : Nat) x, c[j]? = some x → x ≠ z → c'[j]? = some x
  own : v'.ownBlock = v.ownBlock ∨ v'.ownBlock = some W.heap.size

theorem AppG.cell {W W' : World} {base : Nat} {E : TypeId} {z v v' : Value} (h : AppG W W' base E z v v') {b i : Nat} {x : Value} (hx : W.cell? ⟨b, i, none⟩ = some x) (hz : x ≠ z) : W'.cell? ⟨b, i, none⟩ = some x := by
  by_cases e : v.ownBlock = some b
  · obtain ⟨c, c', h1, h2, h3⟩ := h.old _ e
    rw [h1.cell] at hx
    rw [h2.cell]
    exact h3 i x hx hz
  · rw [← hx]
    exact World.cell?_of_block (w := W) (h.block _ (World.block_lt_of_cell? _ _ hx) e)
theorem AppG.blk {W W' : World} {base b : Nat} {E t : TypeId} {z v v' : Value} {c : Array Value} (h : AppG W W' base E z v v') (hb : Blk W b c t) (ht : t ≠ E) : Blk W' b c t := by
  refine (h.block b hb.lt fun e => ?_).trans hb
  obtain ⟨c0, -, h1, -⟩ := h.old b e
  have e2 := hb.of_cells.symm.trans h1.of_cells
  injection e2 with e2; injection e2 with _ e3
  exact ht e3
theorem ReAt.app [Forb] {W W' : World} {base b : Nat} {r : RE} {E : TypeId} {z v v' : Value} (h : ReAt W b r) (ha : AppG W W' base E z v v') (hE : 110 ≠ E) (hz : ∀ p, PT p ≠ z) : ReAt W' b r := by
  induction h with
  | mk b o s ks v bs blk row kid ih =>
    refine .mk b o s ks v bs (ha.blk blk hE) ?_ ih
    obtain ⟨h1, a, cap, rfl, h2⟩ := row
    refine ⟨⟨h1.1, h1.2.keep ha.size⟩, a, cap, rfl, fun k hk' => ?_⟩
    obtain ⟨b', off, e, hlt, hcell⟩ := h2 k hk'
    exact ⟨b', off, e, Nat.lt_of_lt_of_le hlt ha.size, ha.cell hcell (hz _)⟩
theorem RowAt.app [Forb] {W W' : World} {base : Nat} {u : Value} {qs : List (Nat × RE)} {E : TypeId} {z v v' : Value} (h : RowAt W u qs) (ha : AppG W W' base E z v v') (hz : ∀ p, PT p ≠ z) : RowAt W' u qs := by
  obtain ⟨h1, a, cap, rfl, h2⟩ := h
  refine ⟨⟨h1.1, h1.2.keep ha.size⟩, a, cap, rfl, fun j p hp => ?_⟩
  obtain ⟨b', off, e, hlt, hcell⟩ := h2 j p hp
  exact ⟨b', off, e, Nat.lt_of_lt_of_le hlt ha.size, ha.cell hcell (hz _)⟩
theorem OwnZ.app {W W' : World} {base b0 : Nat} {u : Value} {qs : List (Nat × RE)} {E : TypeId} {z v v' : Value} (h : OwnZ W b0 u qs) (ha : AppG W W' base E z v v') (hE : 30 ≠ E) : OwnZ W' b0 u qs := by
  obtain ⟨g, cap, cur, e, h1, h2, h3⟩ := h.own
  exact ⟨g, cap, cur, e, h1, ha.blk h2 hE, h3⟩
theorem Fine.app [Forb] {W W' : World} {base b0 : Nat} {u : Value} {qs : List (Nat × RE)} {E : TypeId} {z v v' : Value} (h : Fine W b0 u qs) (ha : AppG W W' base E z v v') (hE : 30 ≠ E) (hz : ∀ p, PT p ≠ z) : Fine W' b0 u qs :=
  ⟨h.row.app ha hz, h.own.elim .inl fun h => .inr (h.app ha hE)⟩
theorem OwnG.app {W W' : World} {base b0 : Nat} {E E' : TypeId} {z z' u v v' : Value} {xs : List Value} (h : OwnG W b0 E' z' u xs) (ha : AppG W W' base E z v v') (hE : E' ≠ E) : OwnG W' b0 E' z' u xs := by
  rcases h with h | ⟨g, cap, cur, e, h1, h2, h3⟩
  · exact .inl h
  · exact .inr ⟨g, cap, cur, e, h1, ha.blk h2 hE, h3⟩

theorem zeros_list (z : Value) (hz : z.cells = #[z]) (k : Nat) : (Builtin.zeroCells z.cells k).toList = List.replicate k z := by
  rw [hz]
  apply List.ext_getElem
  · simp [Builtin.zeroCells]
  · intro j h1 h2
    simp [Builtin.zeroCells, Nat.mod_one]

set_option maxHeartbeats 1000000 in
/-- append, where the elements are of one cell. -/
theorem run_appendG {W : World} {base : Nat} {v : Value} {xs : List Value} (T E ty : TypeId) (z : Value) (by0 : Nat) (hT : Tryz.prog.underlying T = some (.slice E)) (hI : (Tryz.prog.info? E).map (fun i => (i.zero, i.size, i.bytes)) = some (some z, 1, by0)) (hby : by0 ≤ 64) (hzc : z.cells = #[z])
    (h : OwnG W base E z v xs) (ad : Addr) (c : Nat) (news : List Value) (h0 : 0 < news.length) (hnews : ∀ j u, news[j]? = some u → W.cell? (ad.add j) = some u) (h1 : ∀ u ∈ news, u.oneCell' = true) (hl : xs.length + news.length ≤ 1099511627776) (hbase : base ≤ W.heap.size) :
    ∃ v' W', (Builtin.append_ #[T, T] ty #[v, .slice (some ad) news.length c]).run Tryz.prog W = .ok v' W' ∧ OwnG W' base E z v' (xs ++ news) ∧ AppG W W' base E z v v' := by
  obtain ⟨i, hi, hz0, hz1, hz2⟩ := info_parts hI
  have hlen : (xs ++ news).length = xs.length + news.length := List.length_append
  have hfit : ∀ old, old < xs.length + news.length → Builtin.nextslicecap (xs.length + news.length) old * i.bytes ≤ 281474976710656 := fun old ho => growslice_fits ho (by
    rw [hz2]
    have := Nat.mul_le_mul hl hby
    omega)
  have fin : ∀ (K : Nat) W', xs.length + news.length ≤ K → K ≤ maxLen → W' = W.drew.alloc (.cells ((xs ++ news).toArray ++ Builtin.zeroCells z.cells (K - (xs.length + news.length))) E) → (v.ownBlock = none ∨ ∃ g, v.ownBlock = some g ∧ ∃ c, Blk W g c E) →
      OwnG W' base E z (.slice (some ⟨W.heap.size, 0, none⟩) (xs.length + news.length) K) (xs ++ news) ∧ AppG W W' base E z v (.slice (some ⟨W.heap.size, 0, none⟩) (xs.length + news.length) K) := by
    intro K W' hK hm hW hown
    have hblk : Blk W' W.heap.size ((xs ++ news).toArray ++ Builtin.zeroCells z.cells (K - (xs.length + news.length))) E := by rw [hW]; exact heap_alloc_new W.drew _
    have hold : ∀ k, k < W.heap.size → W'.heap[k]? = W.heap[k]? := fun k hk => by rw [hW]; exact heap_alloc_old W.drew _ hk
    have hsz : W.heap.size ≤ W'.heap.size := by rw [hW]; simp
    refine ⟨.inr ⟨_, K, _, by rw [hlen], hbase, hblk, by rw [hlen]; exact hK, hm, ?_⟩, ⟨?_, hsz, fun k hk _ => hold k hk, fun g hg => ?_, .inr rfl⟩⟩
    · rw [Array.toList_append, zeros_list z hzc, hlen]
    · exact ⟨by rw [hW]; rfl, by rw [hW]; rfl, by rw [hW]; rfl, hsz, fun k hk => hold k (by omega)⟩
    · rcases hown with e | ⟨g', e, c, hc⟩
      · rw [e] at hg; cases hg
      · rw [e] at hg; injection hg with hg; subst hg
        exact ⟨c, c, hc, (hold _ hc.lt).trans hc, fun _ _ h _ => h⟩
  rcases h with ⟨rfl, rfl⟩ | ⟨g, cap, cur, rfl, hbg, hg, hn, hcap, hcur⟩
  · have hr := run_append_nil (P := Tryz.prog) (w := W) T ty E i z hT hi hz0 ad news.length c news (by rw [hz1, Nat.mul_one]) hnews h0 (by simp at hl; omega) (by
      rw [hz2]
      have := Nat.mul_le_mul hl hby
      simp at this ⊢
      omega)
    have hge := grownCap_ge W news.length 0 E
    have hcm : grownCap W news.length 0 E ≤ maxLen := grownCap_le_maxLen W news.length 0 _ (by unfold maxLen; simp at hl; omega)
    refine ⟨_, _, hr, ?_⟩
    have := fin _ _ (by simpa using hge) hcm rfl (.inl rfl)
    simpa using this
  · by_cases hroom : xs.length + news.length ≤ cap
    · have hcs : cur.size = cap := by rw [← Array.length_toList, hcur]; simp; omega
      have hr := run_append_room (P := Tryz.prog) W T ty E i hT hi g xs.length cap cur hg ad news.length c news (by rw [hz1, Nat.mul_one]) hnews h1 hroom (by rw [hcs, hz1]; omega)
      rw [hz1, Nat.mul_one] at hr
      obtain ⟨c', hc'⟩ : ∃ c' : Array Value, c' = (cur.toList.take xs.length ++ news ++ cur.toList.drop (xs.length + news.length)).toArray := ⟨_, rfl⟩
      rw [← hc'] at hr
      have hblk' : Blk (W.setRow g c') g c' E := setRow_heap W g cur _ E _ hg
      have hother : ∀ k, k ≠ g → (W.setRow g c').heap[k]? = W.heap[k]? := fun k hk => setRow_other W g k _ hk
      have hsz : (W.setRow g c').heap.size = W.heap.size := by simp
      have htake : cur.toList.take xs.length = xs := by rw [hcur]; exact List.take_left
      have hdrop : cur.toList.drop (xs.length + news.length) = List.replicate (cap - (xs.length + news.length)) z := by
        rw [hcur, List.drop_append, List.drop_eq_nil_of_le (by omega), List.nil_append, List.drop_replicate]
        congr 1
        omega
      refine ⟨_, _, hr, .inr ⟨g, cap, c', by rw [hlen], hbg, hblk', by rw [hlen]; exact hroom, hcap, ?_⟩, ⟨⟨rfl, rfl, rfl, by rw [hsz]; exact Nat.le_refl _, fun k hk => hother k (by omega)⟩, by rw [hsz]; exact Nat.le_refl _, fun k _ hne => hother k (fun e => hne (by rw [e]; rfl)), fun g' hg' => ?_, .inl rfl⟩⟩
      · rw [hc', htake, hdrop, hlen]
      · have e : g = g' := by simpa [Value.ownBlock] using hg'
        subst e
        refine ⟨cur, c', hg, hblk', fun j x hj hx => ?_⟩
        have hj' : cur.toList[j]? = some x := by rw [Array.getElem?_toList]; exact hj
        have hjl : j < xs.length := by
          rw [hcur] at hj'
          rcases Nat.lt_or_ge j xs.length with h | h
          · exact h
          · exfalso
            rw [List.getElem?_append_right h, List.getElem?_replicate] at hj'
            split at hj'
            · injection hj' with e; exact hx e.symm
            · cases hj'
        rw [hc', ← Array.getElem?_toList, List.append_assoc, List.getElem?_append_left (by rw [htake]; exact hjl), List.getElem?_take, if_pos hjl]
        exact hj'
    · have hr := run_append_grow (P := Tryz.prog) W T ty E i z hT hi hz0 ⟨g, 0, none⟩ xs.length cap xs (by rw [hz1, Nat.mul_one]) (fun j x hj => by
        rw [Go.WideShapes.add_plain, Nat.zero_add, hg.cell, ← Array.getElem?_toList, hcur, List.getElem?_append_left (List.getElem?_eq_some_iff.1 hj).1, hj]) ad news.length c news (by rw [hz1, Nat.mul_one]) hnews (by omega) (by omega) (hfit cap (by omega))
      have hge := grownCap_ge W (xs.length + news.length) cap E
      have hcm : grownCap W (xs.length + news.length) cap E ≤ maxLen := grownCap_le_maxLen W (xs.length + news.length) cap _ (by unfold maxLen; omega)
      refine ⟨_, _, hr, ?_⟩
      have := fin _ _ hge hcm rfl (.inr ⟨g, rfl, cur, hg⟩)
      simpa using this
end Go.Proofs.YtjcfnmjjkadaeaaGreatDoor
/- An expression in the settled form, with its own kids, is itself. -/
namespace Go.Proofs.YtjcfnmjjkadaeaaGreatDoor
set_option maxRecDepth 100000
set_option linter.unusedSimpArgs false
set_option linter.unusedVariables false
open Go.RowKit

theorem flatL_same {o : Nat} {l : List RE} (h : ∀ k ∈ l, k.op ≠ o) : flatL o l = l := by
  induction l with
  | nil => rfl
  | cons x l ih =>
    have hx := h x (by simp)
    have hl := ih fun k hk => h k (by simp [hk])
    unfold flatL at *
    rw [List.flatMap_cons, if_neg hx, hl]; rfl
theorem catL_same {l : List RE} (h : ∀ k ∈ l, k.op ≠ 1 ∧ k.op ≠ 3) : catL l = l := by
  induction l with
  | nil => rfl
  | cons x l ih =>
    have hx := h x (by simp)
    have hl := ih fun k hk => h k (by simp [hk])
    unfold catL at *
    rw [List.flatMap_cons, hl]
    unfold catK
    rw [if_neg hx.1, if_neg hx.2]; rfl
theorem rOne_set (c : BitVec 256) (h : c ≠ 0#256) : rOne c = .mk 2 c [] := by unfold rOne; rw [if_neg h]
theorem wf_class {r : RE} (hw : Wf r) (h : r.op = 2) : r = rOne r.set ∧ r.set ≠ 0#256 := by
  obtain ⟨h1, h2⟩ := hw.shp.cls h
  refine ⟨?_, h2⟩
  rw [rOne_set _ h2, ← h, ← h1]; exact r.eta
/-- At most one Class: what is gathered of them. -/
theorem orSet_one {l : List RE} : (∀ k ∈ l, k.op ≠ 2) → ∀ s, l.foldl (fun s r => if r.op = 2 then s ||| r.set else s) s = s := by
  induction l with
  | nil => intro _ s; rfl
  | cons x l ih =>
    intro h s
    rw [List.foldl_cons, if_neg (h x (by simp))]
    exact ih (fun k hk => h k (by simp [hk])) s
/-- A list with one Class at most, apart. -/
theorem one_class {l : List RE} (hc : (l.filter fun k => k.op == 2).length ≤ 1) : (∀ k ∈ l, k.op ≠ 2) ∨ ∃ a x b, l = a ++ x :: b ∧ x.op = 2 ∧ (∀ k ∈ a, k.op ≠ 2) ∧ ∀ k ∈ b, k.op ≠ 2 := by
  induction l with
  | nil => left; simp
  | cons x l ih =>
    by_cases hx : x.op = 2
    · right
      refine ⟨[], x, l, rfl, hx, by simp, fun k hk e => ?_⟩
      rw [List.filter_cons, if_pos (by simp [hx])] at hc
      have : k ∈ l.filter (fun k => k.op == 2) := List.mem_filter.2 ⟨hk, by simp [e]⟩
      have := List.length_pos_of_mem this
      rw [List.length_cons] at hc
      omega
    · rw [List.filter_cons, if_neg (by simp [hx])] at hc
      rcases ih hc with h | ⟨a, y, b, rfl, h1, h2, h3⟩
      · left
        intro k hk
        rcases List.mem_cons.1 hk with rfl | hk
        · exact hx
        · exact h k hk
      · right
        refine ⟨x :: a, y, b, rfl, h1, fun k hk => ?_, h3⟩
        rcases List.mem_cons.1 hk with rfl | hk
        · exact hx
        · exact h2 k hk
theorem mem_orKeep {l : List RE} (h0 : ∀ k ∈ l, k.op ≠ 0) (r : RE) : r ∈ orKeep l ↔ r ∈ l ∧ r.op ≠ 2 := by
  unfold orKeep
  rw [List.mem_filter]
  constructor
  · rintro ⟨h1, h2⟩; simp at h2; exact ⟨h1, h2.2⟩
  · rintro ⟨h1, h2⟩; exact ⟨h1, by simp [h0 r h1, h2]⟩
theorem any_same {r : RE} (hw : Wf r) (h4 : r.op = 4) : rAny r.kids = r := by
  obtain ⟨h2, hk, hup, hc⟩ := hw.shp.or (.inl h4)
  have hset := hw.shp.set (by omega)
  have hkw := hw.kid
  have hf : flatL 4 r.kids = r.kids := flatL_same fun k hk' => by have := (hk k hk').2; rwa [h4] at this
  have h0 : ∀ k ∈ r.kids, k.op ≠ 0 := fun k hk' => (hk k hk').1
  have key : ∀ ks, (∀ x, x ∈ ks ↔ x ∈ r.kids) → (∀ x ∈ ks, WfK x) → ordL ks = r.kids := fun ks h1 h3 => (ordL_eq h3 hup fun x => (h1 x).symm).symm
  have hne : r.kids ≠ [] := fun e => by rw [e] at h2; simp at h2
  have fin : ∀ ks, (∀ x, x ∈ ks ↔ x ∈ r.kids) → (∀ x ∈ ks, WfK x) → (if ks = [] then rNothing else rJoin 4 (ordL ks)) = r := fun ks h1 h3 => by
    rw [if_neg (fun e => hne (List.eq_nil_iff_forall_not_mem.2 fun x hx => by have := (h1 x).2 hx; rw [e] at this; simp at this)), key ks h1 h3, rJoin_more _ _ (by omega)]
    rw [← hset, ← h4]; exact r.eta.symm
  unfold rAny
  simp only [hf]
  rcases one_class hc with hn | ⟨a, x, b, e, hx, ha, hb⟩
  · have hs : orSet r.kids = 0#256 := orSet_one hn _
    rw [if_pos hs, List.append_nil]
    refine fin _ (fun y => ?_) (fun y hy => (hkw y ((mem_orKeep h0 y).1 hy).1).k)
    rw [mem_orKeep h0]
    exact ⟨fun h => h.1, fun h => ⟨h, hn y h⟩⟩
  · have hxm : x ∈ r.kids := by rw [e]; simp
    obtain ⟨hx1, hx2⟩ := wf_class (hkw x hxm) hx
    have hs : orSet r.kids = x.set := by
      unfold orSet
      rw [e, List.foldl_append, orSet_one ha, List.foldl_cons, if_pos hx, orSet_one hb]; simp
    rw [hs, if_neg hx2, ← hx1]
    have hm : ∀ y, y ∈ orKeep r.kids ++ [x] ↔ y ∈ r.kids := fun y => by
      rw [List.mem_append, mem_orKeep h0]
      constructor
      · rintro (h | h)
        · exact h.1
        · simp at h; subst h; exact hxm
      · intro h
        by_cases hy : y.op = 2
        · right
          rw [e] at h
          rcases List.mem_append.1 h with h | h
          · exact absurd hy (ha y h)
          · rcases List.mem_cons.1 h with rfl | h
            · simp
            · exact absurd hy (hb y h)
        · exact .inl ⟨h, hy⟩
    exact fin _ hm (fun y hy => (hkw y ((hm y).1 hy)).k)
theorem wf_with {r : RE} (hw : Wf r) {l : List RE} (hl : ∀ x ∈ l, Wf x) : Wf (rWith r l) := by
  have hg : ∀ i, Wf (l.getD i rNothing) := fun i => by
    by_cases hi : i < l.length
    · rw [show l.getD i rNothing = l[i] from by simp [List.getD_eq_getElem?_getD, hi]]; exact hl _ (List.getElem_mem hi)
    · rw [show l.getD i rNothing = rNothing from by simp [List.getD_eq_getElem?_getD, hi]]; exact wf_nothing
  unfold rWith
  split
  · exact wf_then hl
  · split
    · exact wf_any hl
    · split
      · exact wf_both hl
      · split
        · exact wf_many (hg 0)
        · split
          · exact wf_but (hg 0) (hg 1)
          · exact hw
end Go.Proofs.YtjcfnmjjkadaeaaGreatDoor
/- What stands behind a byte, as package deriv finds it: rows of expressions; how great they are. -/
namespace Go.Proofs.YtjcfnmjjkadaeaaGreatDoor
set_option maxRecDepth 100000
set_option linter.unusedSimpArgs false
set_option linter.unusedVariables false
open Go.RowKit

/-- A row, put together. -/
def byOf (d : List RE × Bool) : RE := if d.2 then rThen d.1 else rNothing
/-- The ways in which a first byte can lie in a row. -/
def wayL : List RE → List (List RE × Bool) → List (List RE)
  | k :: ks, d :: ds => (if d.2 then [d.1 ++ ks] else []) ++ (if k.null then wayL ks ds else [])
  | _, _ => []
def pack (ws : List (List RE)) : List RE × Bool :=
  if ws.length = 0 then ([], false) else if ws.length = 1 then (ws.getD 0 [], true) else ([rAny (ws.map rThen)], true)
def RE.beh (b : Nat) : RE → List RE × Bool
  | .mk o s ks =>
    let ds := ks.map fun k => k.beh b
    if o = 2 then ([], s.getLsbD b) else if o = 3 then pack (wayL ks ds) else if o = 5 then ((ds.getD 0 ([], false)).1 ++ [RE.mk o s ks], (ds.getD 0 ([], false)).2)
    else if o = 4 ∨ o = 6 ∨ o = 7 then ([rWith (RE.mk o s ks) (ds.map byOf)], !((rWith (RE.mk o s ks) (ds.map byOf)).op == 0)) else ([], false)
theorem RE.beh_mk (b o : Nat) (s : BitVec 256) (ks : List RE) : (RE.mk o s ks).beh b =
    if o = 2 then ([], s.getLsbD b) else if o = 3 then pack (wayL ks (ks.map (RE.beh b))) else if o = 5 then (((ks.map (RE.beh b)).getD 0 ([], false)).1 ++ [RE.mk o s ks], ((ks.map (RE.beh b)).getD 0 ([], false)).2)
    else if o = 4 ∨ o = 6 ∨ o = 7 then ([rWith (RE.mk o s ks) ((ks.map (RE.beh b)).map byOf)], !((rWith (RE.mk o s ks) ((ks.map (RE.beh b)).map byOf)).op == 0)) else ([], false) := by rw [RE.beh]
/-- By. -/
def rBy (b : Nat) (r : RE) : RE := byOf (r.beh b)
def behRow (b : Nat) (l : List RE) : List RE × Bool := pack (wayL l (l.map (RE.beh b)))
theorem beh2 (b : Nat) (s : BitVec 256) (ks : List RE) : (RE.mk 2 s ks).beh b = ([], s.getLsbD b) := by rw [RE.beh_mk, if_pos rfl]
theorem beh3 (b : Nat) (s : BitVec 256) (ks : List RE) : (RE.mk 3 s ks).beh b = behRow b ks := by rw [RE.beh_mk, if_neg (by decide), if_pos rfl]; rfl
theorem beh5 (b : Nat) (s : BitVec 256) (k : RE) : (RE.mk 5 s [k]).beh b = ((k.beh b).1 ++ [RE.mk 5 s [k]], (k.beh b).2) := by rw [RE.beh_mk, if_neg (by decide), if_neg (by decide), if_pos rfl]; rfl
theorem beh467 (b o : Nat) (s : BitVec 256) (ks : List RE) (h : o = 4 ∨ o = 6 ∨ o = 7) : (RE.mk o s ks).beh b = ([rWith (RE.mk o s ks) (ks.map (rBy b))], !((rWith (RE.mk o s ks) (ks.map (rBy b))).op == 0)) := by
  rw [RE.beh_mk, if_neg (by omega), if_neg (by omega), if_neg (by omega), if_pos h, List.map_map]; rfl
theorem beh01 (b o : Nat) (s : BitVec 256) (ks : List RE) (h : o = 0 ∨ o = 1) : (RE.mk o s ks).beh b = ([], false) := by
  rw [RE.beh_mk, if_neg (by omega), if_neg (by omega), if_neg (by omega), if_neg (by omega)]

theorem pack_0 {ws : List (List RE)} (h : ws.length = 0) : pack ws = ([], false) := by rw [pack, if_pos h]
theorem pack_1 {ws : List (List RE)} (h : ws.length = 1) : pack ws = (ws.getD 0 [], true) := by rw [pack, if_neg (by omega), if_pos h]
theorem pack_2 {ws : List (List RE)} (h : 1 < ws.length) : pack ws = ([rAny (ws.map rThen)], true) := by rw [pack, if_neg (by omega), if_neg (by omega)]

/-- All that is in the ways is in the rows or in the list. -/
theorem mem_wayL {P : RE → Prop} : ∀ (ks : List RE) (ds : List (List RE × Bool)), (∀ k ∈ ks, P k) → (∀ d ∈ ds, ∀ x ∈ d.1, P x) → ∀ w ∈ wayL ks ds, ∀ x ∈ w, P x
  | [], _, _, _ => by simp [wayL]
  | _ :: _, [], _, _ => by simp [wayL]
  | k :: ks, d :: ds, hk, hd => by
    have ih := mem_wayL ks ds (fun x hx => hk x (by simp [hx])) (fun x hx => hd x (by simp [hx]))
    intro w hw x hx
    simp only [wayL, List.mem_append] at hw
    rcases hw with hw | hw
    · split at hw
      · simp only [List.mem_singleton] at hw
        subst hw
        rcases List.mem_append.1 hx with h | h
        · exact hd d (by simp) x h
        · exact hk x (by simp [h])
      · simp at hw
    · split at hw
      · exact ih w hw x hx
      · simp at hw
theorem wf_pack {ws : List (List RE)} (h : ∀ w ∈ ws, ∀ x ∈ w, Wf x) : ∀ x ∈ (pack ws).1, Wf x := by
  rcases Nat.lt_or_ge 1 ws.length with h1 | h1
  · rw [pack_2 h1]
    intro x hx
    simp only [List.mem_singleton] at hx
    subst hx
    refine wf_any fun r hr => ?_
    obtain ⟨w, hw, rfl⟩ := List.mem_map.1 hr
    exact wf_then (h w hw)
  · rcases Nat.lt_or_ge 0 ws.length with h0 | h0
    · rw [pack_1 (by omega)]
      cases ws with
      | nil => simp at h0
      | cons w l => exact h w (by simp)
    · rw [pack_0 (by omega)]; simp
theorem wf_byOf {d : List RE × Bool} (h : ∀ x ∈ d.1, Wf x) : Wf (byOf d) := by
  unfold byOf
  split
  · exact wf_then h
  · exact wf_nothing
theorem wf_beh (b : Nat) (r : RE) : Wf r → ∀ x ∈ (r.beh b).1, Wf x := by
  induction r using RE.ind with
  | h o s ks ih =>
    intro hw
    have hk : ∀ k ∈ ks, Wf k := hw.kid
    have hd : ∀ d ∈ ks.map (RE.beh b), ∀ x ∈ d.1, Wf x := by
      intro d hd
      obtain ⟨k, hkk, rfl⟩ := List.mem_map.1 hd
      exact ih k hkk (hk k hkk)
    rw [RE.beh_mk]
    split
    · simp
    · split
      · exact wf_pack (mem_wayL ks _ hk hd)
      · split
        · intro x hx
          rcases List.mem_append.1 hx with h | h
          · cases hks : ks.map (RE.beh b) with
            | nil => rw [hks] at h; simp at h
            | cons d ds => rw [hks] at h; exact hd d (by rw [hks]; simp) x h
          · simp only [List.mem_singleton] at h
            subst h; exact hw
        · split
          · intro x hx
            simp only [List.mem_singleton] at hx
            subst hx
            refine wf_with hw fun x hx => ?_
            obtain ⟨d, hdd, rfl⟩ := List.mem_map.1 hx
            exact wf_byOf (hd d hdd)
          · simp
theorem wf_by (b : Nat) {r : RE} (h : Wf r) : Wf (rBy b r) := wf_byOf (wf_beh b r h)
theorem wf_behRow (b : Nat) {l : List RE} (h : ∀ r ∈ l, Wf r) : ∀ x ∈ (behRow b l).1, Wf x := by
  refine wf_pack (mem_wayL l _ h ?_)
  intro d hd
  obtain ⟨k, hkk, rfl⟩ := List.mem_map.1 hd
  exact wf_beh b k (h k hkk)

/-! ## How great -/
def waySum (ws : List (List RE)) : Nat := 2 + (ws.map fun w => 1 + cntL w).sum
/-- All that is put together on the way is of a size that memory can hold. -/
inductive Fits (b : Nat) : RE → Prop where
  | mk (o : Nat) (s : BitVec 256) (ks : List RE) (hk : ∀ k ∈ ks, Fits b k) (h3 : o = 3 → waySum (wayL ks (ks.map (RE.beh b))) ≤ 1099511627776)
      (h4 : o = 4 ∨ o = 6 ∨ o = 7 → 1 + cntL (ks.map (rBy b)) ≤ 1099511627776) (h5 : cntL ((RE.mk o s ks).beh b).1 + 1 ≤ 1099511627776) (hc : (RE.mk o s ks).cnt ≤ 1099511627776) : Fits b (.mk o s ks)
structure FitsRow (b : Nat) (l : List RE) : Prop where
  el : ∀ r ∈ l, Fits b r
  sum : waySum (wayL l (l.map (RE.beh b))) ≤ 1099511627776
  len : cntL l ≤ 1099511627776

theorem cntL_one (x : RE) : cntL [x] = x.cnt := by simp [cntL]
theorem waySum_append (a c : List (List RE)) : waySum (a ++ c) + 2 = waySum a + waySum c := by simp [waySum]; omega
theorem cnt_pack (ws : List (List RE)) : cntL (pack ws).1 + 1 ≤ waySum ws + 1 ∧ (cntL (pack ws).1 ≤ waySum ws) := by
  have key : cntL (pack ws).1 ≤ waySum ws := by
    rcases Nat.lt_or_ge 1 ws.length with h1 | h1
    · rw [pack_2 h1]
      have h2 := cnt_any (ws.map rThen)
      have h3 : ∀ ws : List (List RE), cntL (ws.map rThen) ≤ (ws.map fun w => 1 + cntL w).sum := by
        intro ws
        induction ws with
        | nil => simp [cntL]
        | cons w l ih =>
          have := cnt_then w
          rw [List.map_cons, cntL_cons, List.map_cons, List.sum_cons]
          omega
      have := h3 ws
      simp only [cntL_one, waySum]
      omega
    · rcases Nat.lt_or_ge 0 ws.length with h0 | h0
      · rw [pack_1 (by omega)]
        cases ws with
        | nil => simp at h0
        | cons w l => simp [waySum]; omega
      · rw [pack_0 (by omega)]; simp [cntL]
  omega
theorem cnt_byOf (d : List RE × Bool) : (byOf d).cnt ≤ 1 + cntL d.1 := by
  unfold byOf
  split
  · exact cnt_then _
  · rw [cnt_nothing]; omega

theorem sq_add (a c : Nat) : (a + c) * (a + c) = a * a + 2 * (a * c) + c * c := by
  rw [Nat.add_mul, Nat.mul_add, Nat.mul_add, Nat.mul_comm c a]; omega
/-- The ways of a row, each of whose rows is at most as great as the square of what it came of. -/
theorem waySum_sq : ∀ (ks : List RE) (ds : List (List RE × Bool)), ds.length = ks.length → (∀ i (h : i < ks.length) (h' : i < ds.length), cntL ds[i].1 ≤ ks[i].cnt * ks[i].cnt) →
    waySum (wayL ks ds) ≤ 2 + cntL ks * cntL ks + cntL ks
  | [], ds, hl, _ => by simp [wayL, waySum, cntL]
  | k :: ks, [], hl, _ => by simp at hl
  | k :: ks, d :: ds, hl, h => by
    have ih := waySum_sq ks ds (by simpa using hl) (fun i h1 h2 => h (i + 1) (Nat.succ_lt_succ h1) (Nat.succ_lt_succ h2))
    have h0 := h 0 (by simp) (by simp)
    simp only [List.getElem_cons_zero] at h0
    have hk1 : 1 ≤ k.cnt := by rw [k.cnt_kids]; omega
    have hs := sq_add k.cnt (cntL ks)
    have hp : cntL ks ≤ k.cnt * cntL ks := Nat.le_mul_of_pos_left _ hk1
    have ha := waySum_append (if d.2 then [d.1 ++ ks] else []) (if k.null then wayL ks ds else [])
    have h1 : waySum (if d.2 then [d.1 ++ ks] else []) ≤ 3 + (cntL d.1 + cntL ks) := by
      split
      · simp [waySum, cntL_append]; omega
      · simp [waySum]; omega
    have h2 : waySum (if k.null then wayL ks ds else []) ≤ 2 + cntL ks * cntL ks + cntL ks := by
      split
      · exact ih
      · simp [waySum]; omega
    rw [wayL, cntL_cons]
    generalize cntL ks * cntL ks = A at *
    generalize k.cnt * cntL ks = C at *
    generalize k.cnt * k.cnt = D at *
    omega

theorem cnt_with (o : Nat) (s : BitVec 256) (ks l : List RE) (ho : o = 4 ∨ o = 6 ∨ o = 7) (hl : l.length = ks.length) (h7 : o = 7 → ks.length = 2) : (rWith (.mk o s ks) l).cnt ≤ 2 + cntL l := by
  rcases ho with rfl | rfl | rfl
  · have := cnt_any l
    simpa [rWith, RE.op] using this
  · have := cnt_both l
    simpa [rWith, RE.op] using this
  · have h2 := h7 rfl
    rw [h2] at hl
    obtain ⟨x, y, rfl⟩ : ∃ x y, l = [x, y] := by
      match l, hl with
      | [x, y], _ => exact ⟨x, y, rfl⟩
    have := cnt_but x y
    have e : rWith (.mk 7 s ks) [x, y] = rBut x y := by simp [rWith, RE.op]
    rw [e]
    simp [cntL_cons, cntL]
    omega
theorem sum_sq (b : Nat) : ∀ (ks : List RE), (∀ k ∈ ks, cntL (k.beh b).1 ≤ k.cnt * k.cnt) → cntL (ks.map (rBy b)) ≤ ks.length + cntL ks * cntL ks
  | [], _ => by simp [cntL]
  | k :: ks, h => by
    have ih := sum_sq b ks (fun x hx => h x (by simp [hx]))
    have h0 := h k (by simp)
    have h1 := cnt_byOf (k.beh b)
    have hs := sq_add k.cnt (cntL ks)
    rw [List.map_cons, cntL_cons, cntL_cons, List.length_cons]
    unfold rBy at *
    omega
theorem beh_sq (b : Nat) (r : RE) : Wf r → cntL (r.beh b).1 ≤ r.cnt * r.cnt := by
  induction r using RE.ind with
  | h o s ks ih =>
    intro hw
    have hk : ∀ k ∈ ks, Wf k := hw.kid
    have hsh : Shp o s ks := hw.shp
    have ho := hsh.op
    have ihk : ∀ k ∈ ks, cntL (k.beh b).1 ≤ k.cnt * k.cnt := fun k h => ih k h (hk k h)
    have hlen := cntL_len ks
    rw [RE.cnt_mk]
    have hs := sq_add 1 (cntL ks)
    by_cases h2 : o = 2
    · subst h2; rw [beh2]; simp [cntL]
    · by_cases h3 : o = 3
      · subst h3
        rw [beh3]
        obtain ⟨h20, -⟩ := hsh.cat rfl
        have h1 := (cnt_pack (wayL ks (ks.map (RE.beh b)))).2
        have h2 := waySum_sq ks (ks.map (RE.beh b)) (by simp) (fun i h1 h2 => by simpa using ihk ks[i] (List.getElem_mem h1))
        unfold behRow
        omega
      · by_cases h5 : o = 5
        · subst h5
          obtain ⟨k, rfl, -⟩ := hsh.star rfl
          rw [beh5, cntL_append, cntL_one]
          have := ihk k (by simp)
          rw [RE.cnt_mk]
          simp only [cntL_one] at *
          omega
        · by_cases h4 : o = 4 ∨ o = 6 ∨ o = 7
          · rw [beh467 b o s ks h4]
            have h1 := cnt_with o s ks (ks.map (rBy b)) h4 (by simp) (fun e => by obtain ⟨a, c, rfl, -⟩ := hsh.minus e; rfl)
            have h2 := sum_sq b ks ihk
            have h20 : 2 ≤ ks.length := by
              rcases h4 with e | e | e
              · exact (hsh.or (.inl e)).1
              · exact (hsh.or (.inr e)).1
              · obtain ⟨a, c, rfl, -⟩ := hsh.minus e; simp
            simp only [cntL_one]
            omega
          · rw [beh01 b o s ks (by omega)]; simp [cntL]
theorem cntL_mem {l : List RE} {x : RE} (h : x ∈ l) : x.cnt ≤ cntL l := by
  induction l with
  | nil => simp at h
  | cons y l ih =>
    rw [cntL_cons]
    rcases List.mem_cons.1 h with rfl | h
    · omega
    · have := ih h; omega
theorem sq_mono {a c : Nat} (h : a ≤ c) : a * a ≤ c * c := Nat.mul_le_mul h h
/-- What has a million parts at most fits. -/
theorem fits_cnt (b : Nat) (r : RE) : Wf r → r.cnt ≤ 1000000 → Fits b r := by
  induction r using RE.ind with
  | h o s ks ih =>
    intro hw hc
    have hk : ∀ k ∈ ks, Wf k := hw.kid
    have hc' := RE.cnt_mk o s ks
    have hb := beh_sq b _ hw
    have hm := sq_mono hc
    have hm2 := sq_mono (show cntL ks ≤ 1000000 by omega)
    have hlen := cntL_len ks
    refine .mk o s ks (fun k h => ih k h (hk k h) ?_) (fun h3 => ?_) (fun h4 => ?_) ?_ (by omega)
    · have := cntL_mem h; omega
    · have := waySum_sq ks (ks.map (RE.beh b)) (by simp) (fun i h1 h2 => by simpa using beh_sq b ks[i] (hk _ (List.getElem_mem h1)))
      omega
    · have := sum_sq b ks (fun k h => beh_sq b k (hk k h))
      omega
    · omega
end Go.Proofs.YtjcfnmjjkadaeaaGreatDoor
/- package deriv: rows joined; rows of expressions that are filled one by one. -/
namespace Go.Proofs.YtjcfnmjjkadaeaaGreatDoor
set_option maxRecDepth 100000
set_option linter.unusedSimpArgs false
set_option linter.unusedVariables false
open Go.RowKit

theorem infoR : (Tryz.prog.info? 59).map (fun i => (i.zero, i.size, i.bytes)) = some (some (.slice none 0 0), 1, 24) := by kernel_rfl

theorem clip_any [Forb] (v : Value) (qs : List (Nat × RE)) (w : World) (h : RowAt w v qs) :
    Calls Tryz.prog 199 #[v] w fun e w' => w' = w ∧ ∃ a, e = .returned (.slice a qs.length qs.length) ∧ RowAt w (.slice a qs.length qs.length) qs := by
  have HW := hide h
  obtain ⟨⟨h0, h1⟩, a, cap, rfl, -⟩ := h
  have hcap : qs.length ≤ cap := h1.cap _ _ _ rfl
  have HOK := hide h1
  clear h1
  obtain ⟨n, hn⟩ : ∃ n, n = qs.length := ⟨_, rfl⟩
  rw [← hn] at h0 hcap ⊢
  have HN := hide hn
  clear hn
  have hd : decide ((0 : Int) ≤ (n : Int)) = true := by simp
  go_enter Tryz.func199, Tryz.ntmps199
  go_wp2
  go_ret
  have h2 := HW.out
  obtain ⟨-, a', c', e, h3⟩ := h2
  injection e with e1 e2 e3
  subst e1
  refine ⟨rfl, a, rfl, ⟨by rw [← HN.out]; exact h0, .of (Nat.le_refl _) HOK.out.fl (fun ad e h0 => HOK.out.out ad qs.length cap (by rw [e]) (by rw [← HN.out]; exact h0))⟩, a, n, by rw [HN.out], h3⟩

theorem joined_any [Forb] (base : Nat) (u v : Value) (ps qs : List (Nat × RE)) (w : World) (hu : Fine w base u ps) (hv : RowAt w v qs) (hl : ps.length + qs.length ≤ 1099511627776) (hbase : base ≤ w.heap.size) (hfb : FL base) :
    Calls Tryz.prog 189 #[u, v] w fun e w' => ∃ v', e = .returned v' ∧ Fine w' base v' (ps ++ qs) ∧ Below base w w' ∧ ∀ b r, ReAt w b r → ReAt w' b r := by
  have HU := hide hu
  have HV := hide hv
  obtain ⟨⟨u0, -⟩, a, cap, rfl, -⟩ := hu.row
  obtain ⟨⟨v0, -⟩, a', cap', rfl, -⟩ := hv
  go_enter Tryz.func189, Tryz.ntmps189
  by_cases h0 : ps.length = 0
  · have hd : ((ps.length : Int) == 0) = true := by simp [h0]
    have hps : ps = [] := List.length_eq_zero_iff.1 h0
    have HP := hide hps
    clear hps h0 hu
    go_wp2_with fail
    refine (clip_any _ _ w HV.out).mono ?_
    rintro e w1 ⟨rfl, a2, rfl, h1⟩
    have H1 := hide h1
    clear h1
    go_wp2
    go_ret
    refine ⟨_, rfl, ?_, Below.refl _ _, fun _ _ h => h⟩
    rw [HP.out, List.nil_append]
    exact ⟨H1.out, .inl ⟨a2, rfl⟩⟩
  · have hd : ((ps.length : Int) == 0) = false := beq_eq_false_iff_ne.2 (by omega)
    obtain ⟨v', W', hr, h1, h2, h3⟩ := run_appendF HU.out HV.out 59 hl hbase hfb
    have H1 := hide h1
    have H2 := hide h2
    have H3 := hide h3
    clear h1 h2 h3 hu
    go_wp2_with (refine wpList_append_run rfl _ _ _ rfl _ _ _ rfl rfl hr ?_)
    go_ret
    exact ⟨_, rfl, H1.out, H2.out, H3.out⟩

/-- A row of expressions that is filled from its begin on. -/
structure MkR [Forb] (w : World) (B g n : Nat) (ps : List (Nat × RE)) (W : World) : Prop where
  blk : ∃ cur, Blk W g cur 30 ∧ cur.toList = ptrs ps ++ List.replicate (n - ps.length) (.pointer none)
  base : B ≤ g
  len : ps.length ≤ n
  el : ∀ p ∈ ps, ReAt W p.1 p.2
  below : Below B w W
theorem MkR.step [Forb] {w W W' : World} {B g n : Nat} {ps : List (Nat × RE)} (h : MkR w B g n ps W) (hb : Below W.heap.size W W') (hB : B ≤ W.heap.size) : MkR w B g n ps W' := by
  obtain ⟨cur, h1, h2⟩ := h.blk
  exact ⟨⟨cur, h1.below hb h1.lt, h2⟩, h.base, h.len, fun p hp => (h.el p hp).keep hb, h.below.trans (hb.mono hB)⟩
theorem MkR.start [Forb] {w w1 : World} {n : Nat} (ho : w1.ownsRow w.heap.size 30 1 (.slice (some ⟨w.heap.size, 0, none⟩) n n) n (madeCells (Value.pointer none).cells (n * 1)).toList) (hg : w.grownBy w1 none) : MkR w w.heap.size w.heap.size n [] w1 := by
  rcases ho.2 with ⟨e, -⟩ | ⟨g', cap, cur, e, h1, h2, h3, h4, h5, h6⟩
  · cases e
  · injection e with e1 e2 e3
    injection e1 with e1
    injection e1 with e1
    subst e1 e3
    refine ⟨⟨cur, h2, ?_⟩, Nat.le_refl _, by simp, fun p hp => by simp at hp, grown_none hg⟩
    have : cur.toList.take (n * 1) = cur.toList := List.take_of_length_le (by rw [Array.length_toList]; omega)
    rw [this] at h6
    rw [h6, show (Value.pointer none).cells = #[.pointer none] from rfl, toList_madeCells_one]
    simp [ptrs]
theorem MkR.cell [Forb] {w W : World} {B g n : Nat} {ps : List (Nat × RE)} (h : MkR w B g n ps W) (hl : ps.length < n) : W.cell? ⟨g, ps.length, none⟩ = some (.pointer none) ∧ W.frozen? ⟨g, ps.length, none⟩ = false := by
  obtain ⟨cur, h1, h2⟩ := h.blk
  refine ⟨?_, h1.frozen _⟩
  rw [h1.cell, ← Array.getElem?_toList, h2, List.getElem?_append_right (by rw [ptrs_length]; exact Nat.le_refl _), ptrs_length, Nat.sub_self, List.getElem?_replicate, if_pos (by omega)]
theorem MkR.grows [Forb] {w W : World} {B g n b : Nat} {ps : List (Nat × RE)} (h : MkR w B g n ps W) (hl : ps.length < n) : AppG W (W.setCell ⟨g, ps.length, none⟩ (PT b)) B 30 (.pointer none) (.slice (some ⟨g, 0, none⟩) n n) (.slice (some ⟨g, 0, none⟩) n n) := by
  obtain ⟨cur, h1, h2⟩ := h.blk
  have hne : ∀ k, k ≠ g → (W.setCell ⟨g, ps.length, none⟩ (PT b)).heap[k]? = W.heap[k]? := fun k hk => Below.heap_setCell _ _ _ _ hk
  refine ⟨(Below.refl B W).setCell h.base _, by simp [World.setCell], fun k _ hk => hne k (fun e => hk (by rw [e]; rfl)), fun g' hg' => ?_, .inl rfl⟩
  have e : g = g' := by simpa [Value.ownBlock] using hg'
  subst e
  refine ⟨cur, _, h1, h1.set _ _, fun j x hj hx => ?_⟩
  rw [Array.getElem?_setIfInBounds_ne]
  · exact hj
  · rintro rfl
    rw [← Array.getElem?_toList, h2, List.getElem?_append_right (by rw [ptrs_length]; exact Nat.le_refl _), ptrs_length, Nat.sub_self, List.getElem?_replicate, if_pos (by omega)] at hj
    injection hj with hj
    exact hx hj.symm
theorem pt_ne_nil (p : Nat) : PT p ≠ .pointer none := by simp [PT]
theorem MkR.store [Forb] {w W : World} {B g n b : Nat} {ps : List (Nat × RE)} {r : RE} (h : MkR w B g n ps W) (hr : ReAt W b r) (hl : ps.length < n) : MkR w B g n (ps ++ [(b, r)]) (W.setCell ⟨g, ps.length, none⟩ (PT b)) := by
  have ha := h.grows (b := b) hl
  obtain ⟨cur, h1, h2⟩ := h.blk
  have hpl := ptrs_length ps
  refine ⟨⟨_, h1.set _ _, ?_⟩, h.base, by simp; omega, fun p hp => ?_, h.below.setCell h.base _⟩
  · rw [Array.toList_setIfInBounds, h2, List.set_append_right _ _ (by omega), hpl, Nat.sub_self]
    rw [show n - ps.length = (n - (ps ++ [(b, r)]).length) + 1 from by simp; omega, List.replicate_succ, List.set_cons_zero]
    simp [ptrs]
  · rcases List.mem_append.1 hp with hp | hp
    · exact (h.el p hp).app ha (by decide) pt_ne_nil
    · simp at hp; subst hp
      exact hr.app ha (by decide) pt_ne_nil
theorem MkR.row [Forb] {w W : World} {B g n : Nat} {ps : List (Nat × RE)} (h : MkR w B g n ps W) (hf : FL B) (hn : ps.length = n) (hl : n ≤ 4611686018427387904) : RowAt W (.slice (some ⟨g, 0, none⟩) n n) ps := by
  obtain ⟨cur, h1, h2⟩ := h.blk
  refine ⟨⟨by omega, .new (Nat.le_refl _) (hf.mono (Nat.le_trans h.base (Nat.le_of_lt h1.lt))) hf h.base⟩, _, n, by rw [hn], fun j p hp => ⟨g, 0, rfl, h1.lt, ?_⟩⟩
  have hj : j < ps.length := (List.getElem?_eq_some_iff.1 hp).1
  rw [h1.cell, Nat.zero_add, ← Array.getElem?_toList, h2, List.getElem?_append_left (by rw [ptrs_length]; exact hj), ptrs, List.getElem?_map, hp]; rfl

theorem RowAt.drop [Forb] {w : World} {a : Option Addr} {b off m c k : Nat} {qs : List (Nat × RE)} (h : RowAt w (.slice (some ⟨b, off, none⟩) m c) qs) (hk : k ≤ qs.length) : RowAt w (.slice (some ⟨b, off + k, none⟩) (qs.length - k) (c - k)) (qs.drop k) := by
  obtain ⟨⟨h0, h1⟩, a', c', e, h2⟩ := h
  injection e with e1 e2 e3
  subst e1 e2 e3
  have := h1.cap _ _ _ rfl
  refine ⟨⟨by simp; omega, .of (by omega) h1.fl (fun ad e h0 => by injection e with e; subst e; exact h1.out ⟨b, off, none⟩ _ _ rfl (by omega))⟩, some ⟨b, off + k, none⟩, c - k, by simp, fun j p hp => ?_⟩
  rw [List.getElem?_drop] at hp
  obtain ⟨b', off', e, h3, h4⟩ := h2 _ p hp
  injection e with e; injection e with e1 e2
  subst e1 e2
  exact ⟨_, _, rfl, h3, by rw [Nat.add_assoc]; exact h4⟩
theorem RowAt.dropAll [Forb] {w : World} {a : Option Addr} {k : Nat} {qs : List (Nat × RE)} (hf : FL w.heap.size) (hk : qs.length ≤ k) (c : Nat) : RowAt w (.slice a (qs.length - k) c) (qs.drop k) := by
  have e : qs.drop k = [] := List.drop_eq_nil_of_le hk
  have e2 : qs.length - k = 0 := by omega
  rw [e, e2]
  exact ⟨⟨by simp, .zero hf⟩, a, c, rfl, fun j p hp => by simp at hp⟩
end Go.Proofs.YtjcfnmjjkadaeaaGreatDoor
/- The ways of a row, from the first on. -/
namespace Go.Proofs.YtjcfnmjjkadaeaaGreatDoor
set_option maxRecDepth 100000
set_option linter.unusedSimpArgs false
set_option linter.unusedVariables false
open Go.RowKit

/-- The ways that begin in the first k. -/
def wayI (l : List RE) (ds : List (List RE × Bool)) : Nat → List (List RE)
  | 0 => []
  | k + 1 => wayI l ds k ++ (if (ds.getD k ([], false)).2 then [(ds.getD k ([], false)).1 ++ l.drop (k + 1)] else [])
theorem wayI_cons (x : RE) (l : List RE) (d : List RE × Bool) (ds : List (List RE × Bool)) : ∀ k, wayI (x :: l) (d :: ds) (k + 1) = (if d.2 then [d.1 ++ l] else []) ++ wayI l ds k
  | 0 => by simp [wayI]
  | k + 1 => by
    rw [wayI, wayI_cons x l d ds k, wayI]
    simp
theorem wayL_I : ∀ (l : List RE) (ds : List (List RE × Bool)), ds.length = l.length → wayL l ds = wayI l ds (leadN l)
  | [], ds, _ => by simp [wayL, leadN, wayI]
  | x :: l, [], h => by simp at h
  | x :: l, d :: ds, h => by
    have ih := wayL_I l ds (by simpa using h)
    rw [wayL, leadN]
    by_cases hn : x.null = true
    · rw [if_pos hn, if_pos hn, Nat.add_comm, wayI_cons, ih]
    · rw [if_neg hn, if_neg hn, wayI_cons]; simp [wayI]
theorem wayI_le (l : List RE) (ds : List (List RE × Bool)) : ∀ m k, ∃ t, wayI l ds (k + m) = wayI l ds k ++ t
  | 0, k => ⟨[], by simp⟩
  | m + 1, k => by
    obtain ⟨t, ht⟩ := wayI_le l ds m k
    exact ⟨t ++ (if (ds.getD (k + m) ([], false)).2 then [(ds.getD (k + m) ([], false)).1 ++ l.drop (k + m + 1)] else []), by
      rw [← Nat.add_assoc, wayI, ht, List.append_assoc]⟩
theorem wayI_sum {l : List RE} {ds : List (List RE × Bool)} (h : ds.length = l.length) {k : Nat} (hk : k ≤ leadN l) : waySum (wayI l ds k) ≤ waySum (wayL l ds) := by
  obtain ⟨t, ht⟩ := wayI_le l ds (leadN l - k) k
  rw [show k + (leadN l - k) = leadN l from by omega] at ht
  rw [wayL_I l ds h, ht]
  simp [waySum]
theorem waySum_mem {ws : List (List RE)} {w : List RE} (h : w ∈ ws) : cntL w + 3 ≤ waySum ws := by
  obtain ⟨a, c, rfl⟩ := List.append_of_mem h
  simp [waySum]; omega
theorem wayI_len (l : List RE) (ds : List (List RE × Bool)) : ∀ k, (wayI l ds k).length ≤ k
  | 0 => by simp [wayI]
  | k + 1 => by
    have := wayI_len l ds k
    rw [wayI, List.length_append]
    split <;> simp <;> omega
theorem cntL_then_map (ws : List (List RE)) : cntL (ws.map rThen) + 2 ≤ waySum ws := by
  induction ws with
  | nil => simp [waySum, cntL]
  | cons w ws ih =>
    have := cnt_then w
    simp only [List.map_cons, cntL_cons, waySum, List.sum_cons] at *
    omega
end Go.Proofs.YtjcfnmjjkadaeaaGreatDoor
/- package deriv: by and behindEach, where behind of the kids is known. -/
namespace Go.Proofs.YtjcfnmjjkadaeaaGreatDoor
set_option maxRecDepth 100000
set_option linter.unusedSimpArgs false
set_option linter.unusedVariables false
open Go.RowKit

/-- What a call told of a row. -/
def BPost [Forb] (d : List RE × Bool) (W : World) (e : Ending) (w' : World) : Prop :=
  ∃ v ps, e = .returned (.tuple #[v, .bool d.2]) ∧ ps.map Prod.snd = d.1 ∧ Fine w' W.heap.size v ps ∧ (∀ p ∈ ps, ReAt w' p.1 p.2) ∧ Below W.heap.size W w'
/-- What behind does. -/
def BehC [Forb] (b : Nat) (r : RE) : Prop := ∀ (p : Nat) (W : World), ReAt W p r → TabAt W → Calls Tryz.prog 140 #[PT p, .int .u8 b] W (BPost (r.beh b) W)

theorem RowAt.cntL [Forb] {w : World} {v : Value} {ps : List (Nat × RE)} (h : RowAt w v ps) : ps.length = (ps.map Prod.snd).length := by simp

theorem by_of [Forb] (b : Nat) (r : RE) (p : Nat) (w : World) (hB : BehC b r) (hw : Wf r) (hf : Fits b r) (h : ReAt w p r) (hT : TabAt w) :
    Calls Tryz.prog 117 #[PT p, .int .u8 b] w fun e w' => ∃ c, e = .returned (PT c) ∧ ReAt w' c (rBy b r) ∧ Below w.heap.size w w' := by
  have hcnt : cntL (r.beh b).1 ≤ 1099511627776 := by
    cases hf with
    | mk o s ks hk h3 h4 h5 hc => omega
  have hwf := wf_beh b r hw
  have HC := hide (hB p w h hT)
  clear hf h hT hB
  have hres : rBy b r = byOf (r.beh b) := rfl
  rw [hres]
  clear hres
  generalize r.beh b = d at *
  unfold PT at HC ⊢
  go_enter Tryz.func117, Tryz.ntmps117
  go_wp2_with fail
  refine HC.out.mono ?_
  rintro e w1 ⟨v, ps, rfl, hps, hfine, hel, hb⟩
  have HB := hide hb
  have HROW := hide (hfine.row.res hel)
  clear hb hfine hel HC
  rw [hps] at HROW
  clear hps
  cases hd : d.2 with
  | true =>
    go_wp2_with fail
    refine (then_any d.1 v w1 HROW.out hwf (Nat.le_trans (cntL_len _) hcnt) (Nat.le_trans (cntL_len _) (Nat.le_trans (cntL_catL _) hcnt))).mono ?_
    rintro e w2 ⟨c, rfl, h1, h2⟩
    have H1 := hide h1
    have H2 := hide h2
    clear h1 h2
    unfold PT
    go_wp2
    go_ret
    refine ⟨c, rfl, ?_, HB.out.trans (H2.out.mono HB.out.size)⟩
    unfold byOf
    rw [if_pos hd]
    exact H1.out
  | false =>
    go_wp2_with fail
    refine (nothing_any w1 HROW.out.fl).mono ?_
    rintro e w2 ⟨c, rfl, h1, h2⟩
    have H1 := hide h1
    have H2 := hide h2
    clear h1 h2
    unfold PT
    go_wp2
    go_ret
    refine ⟨c, rfl, ?_, HB.out.trans (H2.out.mono HB.out.size)⟩
    unfold byOf
    rw [if_neg (by rw [hd]; simp)]
    exact H1.out

theorem x_bs1 (ρ : Operand → Value) (d : Option Tmp) (x : Operand) (ty : TypeId) (pos : String) (af : Array Edge) (g : Option (Nat × Bool)) (b : Nat) (hx : ρ x = PT b) (w : World) :
    (execOp ρ { dst := d, op := .buildSlice 59 1 #[(0, x)], type := ty, pos := pos, after := af, guard := g }).run Tryz.prog w = .ok (.value (.slice (some ⟨w.heap.size, 0, none⟩) 1 1)) (w.alloc (.cells #[PT b] 30)) := by
  unfold PT at hx ⊢
  simp [go_sem, hx]

theorem cellK [Forb] {w : World} {b : Nat} {r : RE} (h : ReAt w b r) : ∃ v, w.cell? ⟨b, 5, none⟩ = some v ∧ ResRow w v r.kids := by
  obtain ⟨v, h1, h2⟩ := h.row
  exact ⟨v, h1.cell 5, h2⟩

set_option maxHeartbeats 2000000 in
theorem behindEach_any [Forb] (b : Nat) (r : RE) (p : Nat) (w : World) (hB : ∀ k ∈ r.kids, BehC b k) (hw : Wf r) (hf : ∀ k ∈ r.kids, Fits b k) (hsum : 1 + cntL (r.kids.map (rBy b)) ≤ 1099511627776) (hkl : r.kids.length ≤ 1099511627776) (h : ReAt w p r) (hT : TabAt w) :
    Calls Tryz.prog 171 #[PT p, .int .u8 b] w (BPost ([rWith r (r.kids.map (rBy b))], !((rWith r (r.kids.map (rBy b))).op == 0)) w) := by
  obtain ⟨i, hi, hz0, hz1, hz2⟩ := info_parts infoP
  have HR := hide h
  have HT := hide hT
  obtain ⟨kv, c5, hrow⟩ := cellK h
  obtain ⟨-, ad, cap, rfl, -⟩ := hrow.at
  have HROW := hide hrow
  have hwk := hw.kid
  obtain ⟨ks, hks⟩ : ∃ ks, ks = r.kids := ⟨_, rfl⟩
  rw [← hks] at hkl hsum HROW hwk hf hB c5 ⊢
  have HWF := hide hw
  have HBE := hide hB
  have HFI := hide hf
  have HWK := hide hwk
  have HSUM := hide hsum
  clear h hT hrow hw hB hf hwk hsum hks
  unfold PT
  go_enter Tryz.func171, Tryz.ntmps171
  go_wp2_with (refine wpList_make_full _ rfl _ _ _ rfl w.heap.size _ i _ 1 Tryz.underlying59 hi hz0 hz1 .i64 .i64 _ _ ks.length rfl rfl rfl rfl (by rw [hz2]; omega) (by unfold maxLen; omega) (Nat.le_refl _) ?_; intro w1 ho1 hg1; have hM0 : MkR w w.heap.size w.heap.size ks.length [] w1 := .start ho1 hg1; have c5' : w1.cell? ⟨p, 5, none⟩ = some (.slice ad ks.length cap) := by rw [← c5]; exact World.cell?_of_block (w := w) (hM0.below.block p HR.out.lt))
  clear ho1 hg1 c5
  obtain ⟨B, hBd⟩ : ∃ B, B = w.heap.size := ⟨_, rfl⟩
  rw [← hBd] at hM0 ⊢
  have HBD := hide hBd
  clear hBd
  go_loopw [21] (fun c wr => ∃ (k : Nat) (ps : List (Nat × RE)), k ≤ ks.length ∧ c = .int .i64 k ∧ Hid (ps.length = k) ∧ Hid (ps.map Prod.snd = (ks.take k).map (rBy b)) ∧ Hid (MkR w B B ks.length ps wr)) (fun c _ => ks.length - (intOf c).toNat)
  case atStart => exact ⟨0, [], by omega, rfl, rfl, rfl, hM0⟩
  case round =>
    clear hM0
    obtain ⟨k, ps, hk, rfl, HL, HS, HM⟩ := hrel
    have hbw : Below w.heap.size w wr := HBD.out ▸ HM.out.below
    obtain ⟨-, a', cap', e1, g1⟩ := (HROW.out.below hbw).at
    obtain ⟨rfl, rfl⟩ : ad = a' ∧ cap = cap' := by cases e1; exact ⟨rfl, rfl⟩
    have hBs : B ≤ wr.heap.size := by rw [HBD.out]; exact hbw.size
    have hTW : TabAt wr := HT.out.agree (Agree.of_all (K := fun _ => True) hbw) trivial
    by_cases hlt : k < ks.length
    · have hkd : decide (k < ks.length) = true := by simp [hlt]
      obtain ⟨b1, o1, p1, rfl, -, d1, r1⟩ := g1 k hlt
      have hmem := List.getElem_mem hlt
      have HC := hide (by_of b ks[k] p1 wr (HBE.out _ hmem) (HWK.out _ hmem) (HFI.out _ hmem) r1 hTW)
      have HTK := hide (show ks.take (k + 1) = ks.take k ++ [ks[k]] from List.take_succ_eq_append_getElem hlt)
      generalize ks[k] = x at *
      clear g1 e1 hbw r1 hTW hmem
      unfold PT at d1 HC
      go_wp2_with fail
      refine HC.out.mono ?_
      rintro e w2 ⟨c, rfl, h1, h2⟩
      have hM2 := HM.out.step h2 hBs
      have hln : ps.length < ks.length := by rw [HL.out]; exact hlt
      obtain ⟨cK, fK⟩ := hM2.cell hln
      rw [HL.out] at cK fK
      have HST := hide (hM2.store h1 hln)
      clear h1 h2 hM2 HC d1
      try unfold PT
      go_wp2
      refine ⟨⟨k + 1, ps ++ [(c, rBy b x)], by omega, by go_num, ?_, ?_, ?_⟩, by simp [intOf]; omega⟩
      · show (ps ++ [_]).length = k + 1
        rw [List.length_append, HL.out]; rfl
      · show (ps ++ [_]).map Prod.snd = _
        rw [HTK.out, List.map_append, List.map_append, HS.out]; rfl
      · show MkR _ _ _ _ _ _
        have := HST.out
        rw [HL.out] at this
        exact this
    · obtain rfl : k = ks.length := by omega
      rw [List.take_length] at HS
      clear g1 e1
      have hlp := HL.out
      have hrow := (HM.out.row (by rw [HBD.out]; exact HR.out.fl) HL.out (by omega)).res HM.out.el
      rw [HS.out] at hrow
      have hwl : ∀ x ∈ ks.map (rBy b), Wf x := fun x hx => by
        obtain ⟨k, hk, rfl⟩ := List.mem_map.1 hx
        exact wf_by b (HWK.out k hk)
      have hc := HSUM.out
      have HC := hide (with_any p r (ks.map (rBy b)) _ wr (HR.out.keep hbw) hrow hwl (by have := cntL_len (ks.map (rBy b)); omega) (by have := cntL_len (catL (ks.map (rBy b))); have := cntL_catL (ks.map (rBy b)); omega)
        (by have := cntL_len (flatL 4 (ks.map (rBy b))); have := cntL_flatL 4 (ks.map (rBy b)); omega) (by have := cntL_len (flatL 6 (ks.map (rBy b))); have := cntL_flatL 6 (ks.map (rBy b)); omega) hTW)
      have HBW := hide hbw
      have HWW := hide (wf_with HWF.out hwl)
      clear hrow hwl hc hbw hTW HSUM HS HL HBE HFI
      generalize rWith r (ks.map (rBy b)) = x at *
      unfold PT at HC
      go_wp2_with fail
      refine HC.out.mono ?_
      rintro e w2 ⟨c, rfl, h1, h2⟩
      have HX := hide h1
      have HB2 := hide (HBW.out.trans (h2.mono HBW.out.size))
      have c0 := h1.cell0
      clear h1 h2 HC HM
      try unfold PT
      go_wp2
      rw [show Value.pointer (some ⟨c, 0, none⟩) = PT c from rfl]
      obtain ⟨S, hSd⟩ : ∃ S : World → Prop, S = fun W => Below w2.heap.size w2 W := ⟨_, rfl⟩
      have hSb : ∀ W, S W → Below w2.heap.size w2 W := fun W h => by rw [hSd] at h; exact h
      have hbS : ∀ W, Below w2.heap.size w2 W → S W := fun W h => by rw [hSd]; exact h
      have hSr : ∀ W, S W → ReAt W c x := fun W h => HX.out.keep (hSb W h)
      have hS : S { w2 with drawn := w2.drawn + 1 } := hbS _ ⟨rfl, rfl, rfl, Nat.le_refl _, fun _ _ => rfl⟩
      clear hSd c0
      refine wp_region_noPanic (wp_region_held (S := S) (by kernel_rfl) ?_)
      show wpAnyH _ _ _ _ _ 9 #[false, false, false, false, false, false, false, false, false] _ _
      generalize ({ w2 with drawn := w2.drawn + 1 } : World) = W at hS ⊢
      refine h_take 0 (PT c) rfl (by kernel_rfl) (by kernel_rfl) (by kernel_rfl) rfl (fun w hw => x_move _ _ _ _ _ _ _ _ rfl w) hS ?_
      simp only [Act.put, List.setIfInBounds_toArray, List.set_cons_succ, List.set_cons_zero]
      refine h_take 2 (PT c) rfl (by kernel_rfl) (by kernel_rfl) (by kernel_rfl) rfl (fun w hw => x_move _ _ _ _ _ _ _ _ rfl w) hS ?_
      simp only [Act.put, List.setIfInBounds_toArray, List.set_cons_succ, List.set_cons_zero]
      refine h_take 3 (PT c) rfl (by kernel_rfl) (by kernel_rfl) (by kernel_rfl) rfl (fun w hw => x_nilCheck _ _ _ _ _ _ _ _ rfl w) hS ?_
      simp only [Act.put, List.setIfInBounds_toArray, List.set_cons_succ, List.set_cons_zero]
      refine h_take 4 (PT c) rfl (by kernel_rfl) (by kernel_rfl) (by kernel_rfl) rfl (fun w hw => x_field0 _ _ _ _ _ _ _ _ rfl w) hS ?_
      simp only [Act.put, List.setIfInBounds_toArray, List.set_cons_succ, List.set_cons_zero]
      refine h_take 5 (.int .i64 x.op) rfl (by kernel_rfl) (by kernel_rfl) (by kernel_rfl) rfl (fun w hw => x_loadOp _ _ _ _ _ _ _ _ _ rfl w (hSr w hw).cell0) hS ?_
      simp only [Act.put, List.setIfInBounds_toArray, List.set_cons_succ, List.set_cons_zero]
      refine h_take 6 (.bool ((x.op : Int) != 0)) rfl (by kernel_rfl) (by kernel_rfl) (by kernel_rfl) rfl (fun w hw => x_neqOp _ _ _ _ _ _ _ _ _ _ rfl rfl w) hS ?_
      simp only [Act.put, List.setIfInBounds_toArray, List.set_cons_succ, List.set_cons_zero]
      have hb3 := (Below.refl W.heap.size W).alloc (Nat.le_refl _) (.cells #[PT c] 30)
      have hbw2 : Below w2.heap.size w2 W := hSb W hS
      have hS3 : S (W.alloc (.cells #[PT c] 30)) := hbS _ (hbw2.trans (hb3.mono hbw2.size))
      refine h_alloc 1 (.slice (some ⟨W.heap.size, 0, none⟩) 1 1) (W.alloc (.cells #[PT c] 30)) rfl (by kernel_rfl) rfl (x_bs1 _ _ _ _ _ _ _ _ rfl W) hS3 ?_
      simp only [Act.put, List.setIfInBounds_toArray, List.set_cons_succ, List.set_cons_zero]
      refine h_take 7 (.slice (some ⟨W.heap.size, 0, none⟩) 1 1) rfl (by kernel_rfl) (by kernel_rfl) (by kernel_rfl) rfl (fun w hw => x_assign _ _ _ _ _ _ _ _ rfl w) hS3 ?_
      simp only [Act.put, List.setIfInBounds_toArray, List.set_cons_succ, List.set_cons_zero]
      refine h_take 8 (.bool ((x.op : Int) != 0)) rfl (by kernel_rfl) (by kernel_rfl) (by kernel_rfl) rfl (fun w hw => x_assign _ _ _ _ _ _ _ _ rfl w) hS3 ?_
      simp only [Act.put, List.setIfInBounds_toArray, List.set_cons_succ, List.set_cons_zero]
      refine wpAnyH_done (by kernel_rfl) ?_ _
      refine NoPanic.normal ?_
      have HX3 := hide (hSr _ hS3)
      have HB3 := hide (HB2.out.trans ((hSb _ hS3).mono HB2.out.size))
      have HBK := hide (Blk.newAt (w := W) rfl #[PT c] 30)
      have hWs : w.heap.size ≤ W.heap.size := Nat.le_trans HB2.out.size hbw2.size
      clear hS hS3 hSb hbS hSr hb3 hbw2
      go_wp2
      refine bodyPost_ret (v := .tuple #[.slice (some ⟨W.heap.size, 0, none⟩) 1 1, .bool ((x.op : Int) != 0)]) (by simp [results, Tryz.results171, go_sem]) rfl ?_
      have hrow : RowAt (W.alloc (.cells #[PT c] 30)) (.slice (some ⟨W.heap.size, 0, none⟩) 1 1) [(c, x)] := by
        refine ⟨⟨by simp, .new (Nat.le_refl _) HX3.out.fl HR.out.fl hWs⟩, some ⟨W.heap.size, 0, none⟩, 1, rfl, fun j q hq => ⟨W.heap.size, 0, rfl, by simp, ?_⟩⟩
        obtain rfl : j = 0 := by
          have := (List.getElem?_eq_some_iff.1 hq).1
          simp at this; exact this
        simp at hq; subst hq
        exact HBK.out.cell 0
      refine ⟨.slice (some ⟨W.heap.size, 0, none⟩) 1 1, [(c, x)], ?_, rfl, ⟨hrow, .inl ⟨_, rfl⟩⟩, fun q hq => ?_, HB3.out⟩
      · have e : (((x.op : Int) != 0)) = !(x.op == 0) := by
          by_cases h0 : x.op = 0
          · simp [h0]
          · have h1 : (x.op == 0) = false := by simp [h0]
            rw [h1]; simp [h0]
        rw [← e]
      · simp at hq; subst hq; exact HX3.out
end Go.Proofs.YtjcfnmjjkadaeaaGreatDoor
