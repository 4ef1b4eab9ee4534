/- Texts of this claim put together: ShE, ShF. -/
import Derived.Test.YtfoamihjmmgnlaaDoorJoinShD
/- A row of pointers that grows while what they point at is made: behind its end it holds nil alone. -/
namespace Go.Proofs.YtfoamihjmmgnlaaDoor
set_option maxRecDepth 100000
set_option linter.unusedSimpArgs false
set_option linter.unusedVariables false
open Go.RowKit

/-- What reads no nil cell of block g stays, where all else stays. -/
theorem ReAt.past {W W' : World} {g b : Nat} {r : RE} {c c' : Array Value} (h : ReAt W b r) (hs : W.heap.size ≤ W'.heap.size) (hk : ∀ k, k < W.heap.size → k ≠ g → W'.heap[k]? = W.heap[k]?)
    (hg : Blk W g c 58) (hg' : Blk W' g c' 58) (hc : ∀ (j : Nat) (u : Value), c[j]? = some u → u ≠ .pointer none → c'[j]? = some u) : ReAt W' b r := by
  induction h with
  | mk b o s ks v bs blk row kid ih =>
    have hne : b ≠ g := by
      rintro rfl
      have e := blk.of_cells.symm.trans hg.of_cells
      injection e with e; injection e with _ e2
      exact absurd e2 (by decide)
    refine .mk b o s ks v bs ((hk b blk.lt hne).trans blk) ?_ ih
    obtain ⟨h1, a, cap, rfl, h2⟩ := row
    refine ⟨h1, a, cap, rfl, fun k hk' => ?_⟩
    obtain ⟨b', off, e, hlt, hcell⟩ := h2 k hk'
    refine ⟨b', off, e, Nat.lt_of_lt_of_le hlt hs, ?_⟩
    by_cases e' : b' = g
    · subst e'
      rw [hg.cell] at hcell
      rw [hg'.cell]
      exact hc _ _ hcell (by simp [PT])
    · rw [← hcell]
      exact World.cell?_of_block (w := W) (hk b' hlt e')

structure OwnZ (W : World) (base : Nat) (v : Value) (ps : List (Nat × RE)) : Prop where
  own : ∃ g cap cur, v = .slice (some ⟨g, 0, none⟩) ps.length cap ∧ base ≤ g ∧ Blk W g cur 58 ∧ ps.length ≤ cap ∧ cap ≤ maxLen ∧ cur.toList = ptrs ps ++ List.replicate (cap - ps.length) (.pointer none)
theorem ptrs_length (ps : List (Nat × RE)) : (ptrs ps).length = ps.length := by simp [ptrs]
theorem OwnZ.start {W : World} {base g : Nat} (hg : Blk W g #[] 58) (hb : base ≤ g) : OwnZ W base (.slice (some ⟨g, 0, none⟩) 0 0) [] :=
  ⟨g, 0, #[], rfl, hb, hg, by simp, by unfold maxLen; omega, rfl⟩
theorem OwnZ.keep {W W' : World} {base : Nat} {v : Value} {ps : List (Nat × RE)} (h : OwnZ W base v ps) (hb : Below W.heap.size W W') : OwnZ W' base v ps := by
  obtain ⟨g, cap, cur, e, h1, h2, h3⟩ := h.own
  exact ⟨g, cap, cur, e, h1, h2.below hb h2.lt, h3⟩
theorem OwnZ.row {W : World} {base : Nat} {v : Value} {ps : List (Nat × RE)} (h : OwnZ W base v ps) (hl : ps.length ≤ 4611686018427387904) : RowAt W v ps := by
  obtain ⟨g, cap, cur, rfl, h1, h2, h3, h4, h5⟩ := h.own
  refine ⟨hl, _, cap, rfl, fun j p hp => ⟨g, 0, rfl, h2.lt, ?_⟩⟩
  have hj : j < ps.length := (List.getElem?_eq_some_iff.1 hp).1
  rw [h2.cell, Nat.zero_add, ← Array.getElem?_toList, h5, List.getElem?_append_left (by rw [ptrs_length]; exact hj), ptrs, List.getElem?_map, hp]; rfl
/-- append of one pointer. -/
theorem run_appendZ {W : World} {base : Nat} {v : Value} {ps : List (Nat × RE)} (h : OwnZ W base v ps) (ty : TypeId) (sb b : Nat) (r : RE) (hs : Blk W sb #[PT b] 58) (hl : ps.length ≤ 1000000) (hbase : base ≤ W.heap.size) :
    ∃ v' W', (Builtin.append_ #[69, 69] ty #[v, .slice (some ⟨sb, 0, none⟩) 1 1]).run Tryd.prog W = .ok v' W' ∧ OwnZ W' base v' (ps ++ [(b, r)]) ∧ Below base W W' ∧ ∀ b' r', ReAt W b' r' → ReAt W' b' r' := by
  obtain ⟨i, hi, hz0, hz1, hz2⟩ := info_parts infoP
  obtain ⟨g, cap, cur, rfl, hbg, hg, hn, hcap, hcur⟩ := h.own
  have hnews := World.news_of_block hs
  have hpp : ptrs (ps ++ [(b, r)]) = ptrs ps ++ [PT b] := by simp [ptrs]
  have hpl := ptrs_length ps
  by_cases hroom : ps.length + 1 ≤ cap
  · have hcs : cur.size = cap := by rw [← Array.length_toList, hcur]; simp [hpl]; omega
    have hfit : ps.length * i.size + [PT b].length ≤ cur.size := by rw [hcs, hz1]; simp; omega
    have hr := run_append_room (P := Tryd.prog) W 69 ty 58 i Tryd.underlying69 hi g ps.length cap cur hg ⟨sb, 0, none⟩ 1 1 [PT b] (by rw [hz1]; rfl) hnews (by intro u hu; simp at hu; subst hu; rfl) hroom hfit
    rw [hz1, Nat.mul_one] at hr
    obtain ⟨c', hc'⟩ : ∃ c' : Array Value, c' = (cur.toList.take ps.length ++ [PT b] ++ cur.toList.drop (ps.length + [PT b].length)).toArray := ⟨_, rfl⟩
    rw [← hc'] at hr
    have hblk' : Blk (W.setRow g c') g c' 58 := setRow_heap W g cur _ 58 _ hg
    have hother : ∀ k, k ≠ g → (W.setRow g c').heap[k]? = W.heap[k]? := fun k hk => setRow_other W g k _ hk
    have hsz : (W.setRow g c').heap.size = W.heap.size := by simp
    have htake : cur.toList.take ps.length = ptrs ps := by rw [hcur, ← hpl]; exact List.take_left
    have hdrop : cur.toList.drop (ps.length + 1) = List.replicate (cap - (ps.length + 1)) (.pointer none) := by
      rw [hcur, List.drop_append, List.drop_eq_nil_of_le (by rw [hpl]; omega), hpl, List.nil_append, List.drop_replicate]
      congr 1
      omega
    refine ⟨_, _, hr, ⟨g, cap, c', by simp, hbg, hblk', by simpa using hroom, hcap, ?_⟩, ⟨rfl, rfl, rfl, by rw [hsz]; exact Nat.le_refl _, fun k hk => hother k (by omega)⟩, fun b' r' hr' => hr'.past (g := g) (by rw [hsz]; exact Nat.le_refl _) (fun k _ hk => hother k hk) hg hblk' ?_⟩
    · rw [hc', hpp]
      simp only [List.length_append, List.length_cons, List.length_nil]
      rw [htake, hdrop]
    · intro j u hj hu
      have hj' : cur.toList[j]? = some u := by rw [Array.getElem?_toList]; exact hj
      have hjl : j < ps.length := by
        rw [hcur] at hj'
        rcases Nat.lt_or_ge j ps.length with h | h
        · exact h
        · exfalso
          rw [List.getElem?_append_right (by rw [hpl]; exact h), List.getElem?_replicate] at hj'
          split at hj'
          · injection hj' with e; exact hu e.symm
          · cases hj'
      rw [hc', ← Array.getElem?_toList, List.append_assoc, List.getElem?_append_left (by rw [htake, hpl]; exact hjl), List.getElem?_take, if_pos hjl]
      exact hj'
  · have hce : cap = ps.length := by omega
    have holds : ∀ j u, (ptrs ps)[j]? = some u → W.cell? ((⟨g, 0, none⟩ : Addr).add j) = some u := fun j u hu => by
      rw [Go.WideShapes.add_plain, Nat.zero_add, hg.cell, ← Array.getElem?_toList, hcur, List.getElem?_append_left (List.getElem?_eq_some_iff.1 hu).1]
      exact hu
    have hr := run_append_grow (P := Tryd.prog) W 69 ty 58 i (.pointer none) Tryd.underlying69 hi hz0 ⟨g, 0, none⟩ ps.length cap (ptrs ps) (by rw [hz1, hpl]; omega) holds ⟨sb, 0, none⟩ 1 1 [PT b] (by rw [hz1]; rfl) hnews (by omega) (by omega) (by rw [hz2]; exact growslice_fits (by omega) (by omega))
    have hge := grownCap_ge W (ps.length + 1) cap 58
    have hcm : grownCap W (ps.length + 1) cap 58 ≤ maxLen := grownCap_le_maxLen W (ps.length + 1) cap _ (by unfold maxLen; omega)
    obtain ⟨W', hW'⟩ : ∃ W', W' = W.drew.alloc (.cells ((ptrs ps).toArray ++ [PT b].toArray ++ Builtin.zeroCells (Value.pointer none).cells (grownCap W (ps.length + 1) cap 58 - (ps.length + 1))) 58) := ⟨_, rfl⟩
    rw [← hW'] at hr
    have hbel : Below W.heap.size W W' := by rw [hW']; exact ⟨rfl, rfl, rfl, by simp, fun k hk => heap_alloc_old W.drew _ hk⟩
    have hblk : Blk W' W.heap.size ((ptrs ps).toArray ++ [PT b].toArray ++ Builtin.zeroCells (Value.pointer none).cells (grownCap W (ps.length + 1) cap 58 - (ps.length + 1))) 58 := by rw [hW']; exact heap_alloc_new W.drew _
    refine ⟨_, _, hr, ⟨W.heap.size, _, _, by simp, hbase, hblk, by simpa using hge, hcm, ?_⟩, hbel.mono hbase, fun b' r' hr' => hr'.keep hbel⟩
    rw [hpp]
    simp only [Array.toList_append, List.append_assoc, List.length_append, List.length_cons, List.length_nil]
    congr 2
    simp [Builtin.zeroCells, Value.cells]
    apply List.ext_getElem
    · simp
    · intro j h1 h2
      simp [Nat.mod_one]

theorem nodes_kid {o : Int} {l u : Nat} {t : ByteArray} {ks : List SHP} {k : SHP} (hk : k ∈ ks) : k.nodes + 1 ≤ (SHP.mk o l u t ks).nodes := by
  rw [SHP.nodes_mk]
  have : k.nodes ≤ (ks.map SHP.nodes).sum := by
    induction ks with
    | nil => simp at hk
    | cons x ks ih =>
      rw [List.map_cons, List.sum_cons]
      rcases List.mem_cons.1 hk with rfl | hk
      · omega
      · have := ih hk; omega
  omega
theorem kids_len (ks : List SHP) : ks.length ≤ (ks.map SHP.nodes).sum := by
  induction ks with
  | nil => simp
  | cons x ks ih =>
    rw [List.map_cons, List.sum_cons]
    have : 1 ≤ x.nodes := by cases x; rw [SHP.nodes_mk]; omega
    simp; omega
/-- Expressions of a few short shapes: bounds that the calls want. -/
theorem res_bounds (ks : List SHP) (ht : ∀ k ∈ ks, Tx k) (hn : (ks.map SHP.nodes).sum ≤ 1000) : ks.length ≤ 1000 ∧ (catL (ks.map SHP.re)).length ≤ 22000 ∧ (flatL 4 (ks.map SHP.re)).length ≤ 22000 ∧ (flatL 6 (ks.map SHP.re)).length ≤ 22000 := by
  have h0 := kids_len ks
  have h1 : cntL (ks.map SHP.re) ≤ 22 * (ks.map SHP.nodes).sum := by
    clear h0 hn
    induction ks with
    | nil => simp [cntL]
    | cons x ks ih =>
      have e1 := x.cnt (ht x (by simp))
      have e2 := ih (fun k hk => ht k (by simp [hk]))
      rw [List.map_cons, cntL_cons, List.map_cons, List.sum_cons]
      omega
  have a1 := cntL_len (catL (ks.map SHP.re)); have a2 := cntL_catL (ks.map SHP.re)
  have b1 := cntL_len (flatL 4 (ks.map SHP.re)); have b2 := cntL_flatL 4 (ks.map SHP.re)
  have c1 := cntL_len (flatL 6 (ks.map SHP.re)); have c2 := cntL_flatL 6 (ks.map SHP.re)
  omega

/-- What Make keeps. -/
structure MkW (w : World) (B : Nat) (c : Array Value) (out : Value) (ps : List (Nat × RE)) (W : World) : Prop where
  own : OwnZ W (B + 1) out ps
  elem : ∀ p ∈ ps, ReAt W p.1 p.2
  box : Blk W B c 56
  below : Below B w W
theorem MkW.step {w W W' : World} {B : Nat} {c : Array Value} {out : Value} {ps : List (Nat × RE)} (h : MkW w B c out ps W) (hb : Below W.heap.size W W') : MkW w B c out ps W' :=
  ⟨h.own.keep hb, fun p hp => (h.elem p hp).keep hb, h.box.below hb h.box.lt, h.below.trans (hb.mono (by have := h.box.lt; omega))⟩
theorem MkW.append {w W : World} {B : Nat} {c : Array Value} {out : Value} {ps : List (Nat × RE)} (h : MkW w B c out ps W) (ty : TypeId) (sb b : Nat) (r : RE) (hs : Blk W sb #[PT b] 58) (hr : ReAt W b r) (hl : ps.length ≤ 1000000) :
    ∃ v' W', (Builtin.append_ #[69, 69] ty #[out, .slice (some ⟨sb, 0, none⟩) 1 1]).run Tryd.prog W = .ok v' W' ∧ MkW w B c v' (ps ++ [(b, r)]) W' := by
  obtain ⟨v', W', h1, h2, h3, h4⟩ := run_appendZ h.own ty sb b r hs hl (by have := h.box.lt; omega)
  refine ⟨v', W', h1, h2, fun p hp => ?_, h.box.below h3 (by omega), h.below.trans (h3.mono (by omega))⟩
  rcases List.mem_append.1 hp with hp | hp
  · exact h4 _ _ (h.elem p hp)
  · simp at hp; subst hp; exact h4 _ _ hr
theorem OwnZ.slice {W : World} {base : Nat} {v : Value} {ps : List (Nat × RE)} (h : OwnZ W base v ps) : ∃ g cap, v = .slice (some ⟨g, 0, none⟩) ps.length cap := by
  obtain ⟨g, cap, cur, rfl, -⟩ := h.own
  exact ⟨g, cap, rfl⟩

theorem wf_getD {l : List RE} (h : ∀ r ∈ l, Wf r) (i : Nat) : Wf (l.getD i rNothing) := by
  by_cases hi : i < l.length
  · rw [show l.getD i rNothing = l[i] from by simp [List.getD_eq_getElem?_getD, hi]]; exact h _ (List.getElem_mem hi)
  · rw [show l.getD i rNothing = rNothing from by simp [List.getD_eq_getElem?_getD, hi]]; exact wf_nothing

set_option maxHeartbeats 4000000 in
theorem make_any (s : SHP) : ∀ (cs : List Value) (w : World), ShC w cs s → Tx s → s.nodes ≤ 30 → TabAt w →
    Calls Tryd.prog 35 #[ShVal cs] w fun e w' => ∃ b, e = .returned (PT b) ∧ ReAt w' b s.re ∧ Below w.heap.size w w' := by
  refine SHP.ind (P := fun s => ∀ (cs : List Value) (w : World), ShC w cs s → Tx s → s.nodes ≤ 30 → TabAt w →
    Calls Tryd.prog 35 #[ShVal cs] w fun e w' => ∃ b, e = .returned (PT b) ∧ ReAt w' b s.re ∧ Below w.heap.size w w') ?_ s
  intro o l u t ks ih cs w h htx hnd hT
  have hkt : ∀ k ∈ ks, Tx k := by cases htx; assumption
  have ht20 : t.size ≤ 20 := by cases htx; assumption
  have hkn : ∀ k ∈ ks, k.nodes ≤ 30 := fun k hk => by have := nodes_kid (o := o) (l := l) (u := u) (t := t) hk; omega
  have hsum : (ks.map SHP.nodes).sum ≤ 1000 := by rw [SHP.nodes_mk] at hnd; omega
  obtain ⟨hb0, hb3, hb4, hb6⟩ := res_bounds ks hkt hsum
  have hC := h
  obtain ⟨v, rfl, hrow, ho, hlo, hhi, -⟩ := h.open
  simp only [SHP.op, SHP.lo, SHP.hi, SHP.text, SHP.kids] at hrow ho hlo hhi hC ⊢
  obtain ⟨-, a, cap, rfl, -⟩ := hrow.at
  obtain ⟨res, hres⟩ : ∃ res, res = (SHP.mk o l u t ks).re := ⟨_, rfl⟩
  rw [← hres]
  rw [SHP.re_mk] at hres
  have HRES := hide hres
  have HR := hide hrow
  have HC := hide hC
  have HT := hide hT
  clear h hrow hC hT hres htx hnd hsum
  obtain ⟨B, hB⟩ : ∃ B, B = w.heap.size := ⟨_, rfl⟩
  have HB := hide hB
  unfold ShVal
  go_enter Tryd.func35, Tryd.ntmps35
  go_wp2
  have hM0 : MkW w B #[.int .i64 o, .int .u8 l, .int .u8 u, .string t, .slice a ks.length cap] (.slice (some ⟨B + 1, 0, none⟩) 0 0) [] ((w.alloc (.cells #[.int .i64 o, .int .u8 l, .int .u8 u, .string t, .slice a ks.length cap] 56)).alloc (.cells #[] 58)) :=
    ⟨OwnZ.start (Blk.newAt (by simp [hB]) _ _) (Nat.le_refl _), fun p hp => by simp at hp, (Blk.newAt hB _ _).alloc _, ((Below.refl B w).alloc (Nat.le_of_eq hB) _).alloc (by simp; omega) _⟩
  rw [← hB]
  clear hB
  go_loopw [3, 14] (fun out c wr => ∃ (k : Nat) (ps : List (Nat × RE)), k ≤ ks.length ∧ c = .int .i64 k ∧ Hid (ps.length = k) ∧ Hid (ps.map Prod.snd = (ks.take k).map SHP.re) ∧ Hid (MkW w B #[.int .i64 o, .int .u8 l, .int .u8 u, .string t, .slice a ks.length cap] out ps wr)) (fun _ c _ => ks.length - (intOf c).toNat)
  case atStart => exact ⟨0, [], by omega, rfl, rfl, rfl, hM0⟩
  case round =>
    clear hM0
    obtain ⟨k, ps, hk, rfl, HL, HS, HM⟩ := hrel
    obtain ⟨-, a', cap', e1, g1⟩ := (HR.out.keep (show Below w.heap.size w wr from HB.out ▸ HM.out.below)).at
    obtain ⟨rfl, rfl⟩ : a = a' ∧ cap = cap' := by cases e1; exact ⟨rfl, rfl⟩
    clear e1
    have hTW : TabAt wr := HT.out.agree (Agree.of_all (K := fun _ => True) (HB.out ▸ HM.out.below)) trivial
    by_cases hlt : k < ks.length
    · have hkd : decide (k < ks.length) = true := by simp [hlt]
      obtain ⟨b, off, kv, rfl, -, ⟨c0, c1, c2, c3, c4⟩, hC⟩ := g1 k hlt
      have hb1 := (Below.refl wr.heap.size wr).alloc (Nat.le_refl _) (.cells #[.int .i64 ks[k].op, .int .u8 ks[k].lo, .int .u8 ks[k].hi, .string ks[k].text, kv] 56)
      have hmem := List.getElem_mem hlt
      have hrec := ih _ hmem _ _ (hC.keep hb1) (hkt _ hmem) (hkn _ hmem) (hTW.agree (Agree.of_all (K := fun _ => True) hb1) trivial)
      have HTK := hide (show ks.take (k + 1) = ks.take k ++ [ks[k]] from List.take_succ_eq_append_getElem hlt)
      obtain ⟨-, kf, kcap, hkv, -⟩ : True ∧ ∃ a c, kv = .slice a (ks[k]).kids.length c ∧ True := by
        obtain ⟨v', e', hr', -⟩ := hC.open
        obtain ⟨-, a', c', e'', -⟩ := hr'.at
        have : kv = v' := by simpa using e'
        exact ⟨trivial, a', c', this.trans e'', trivial⟩
      have HREC := hide hrec
      have HM1 := hide (HM.out.step hb1)
      have hps1000 : ps.length ≤ 1000000 := by rw [HL.out]; omega
      subst hkv
      generalize hks : ks[k] = sk at *
      clear hrec hC g1 hb1 hmem
      unfold ShVal at HREC
      go_wp2_with fail
      refine HREC.out.mono ?_
      rintro e w2 ⟨kb, rfl, hkr, hb2⟩
      have HM2 := hide (HM1.out.step hb2)
      have hb3 := (Below.refl w2.heap.size w2).alloc (Nat.le_refl _) (.cells #[PT kb] 58)
      obtain ⟨v3, W3, hr3, hM3⟩ := (HM2.out.step hb3).append 69 w2.heap.size kb sk.re (Blk.newAt rfl _ _) (hkr.keep hb3) hps1000
      have HM3 := hide hM3
      obtain ⟨g3, cp3, rfl⟩ := hM3.own.slice
      obtain ⟨g2, cp2, hu⟩ := HM.out.own.slice
      subst hu
      unfold PT at hr3 ⊢
      clear hkr hb2 hb3 hM3 HREC HM1 c0 c1 c2 c3 c4
      go_wp2_with (refine wpList_append_run rfl _ _ _ rfl _ _ _ rfl rfl hr3 ?_)
      refine ⟨⟨k + 1, ps ++ [(kb, sk.re)], by omega, by go_num, ?_, ?_, ?_⟩, by simp [intOf]; omega⟩
      · show (ps ++ [_]).length = k + 1
        rw [List.length_append, HL.out]; rfl
      · show (ps ++ [_]).map Prod.snd = _
        rw [HTK.out, List.map_append, List.map_append, HS.out]; rfl
      · have h3 := HM3.out
        rw [show (ps ++ [(kb, sk.re)]).length = ps.length + 1 from by simp] at h3
        exact h3
    · obtain rfl : k = ks.length := by omega
      rw [List.take_length] at HS
      clear g1
      have hlp := HL.out
      have hrow := (HM.out.own.row (by omega)).res HM.out.elem
      rw [HS.out] at hrow
      have HROW := hide hrow
      have hwf : ∀ r ∈ ks.map SHP.re, Wf r := fun r hr => by
        obtain ⟨x, -, rfl⟩ := List.mem_map.1 hr
        exact x.wf
      have hlm : (ks.map SHP.re).length ≤ 1000 := by simpa using hb0
      have hsB : B ≤ wr.heap.size := by have := HM.out.box.lt; omega
      obtain ⟨g2, cp2, hu⟩ := HM.out.own.slice
      rw [hlp] at hu
      subst hu
      have hkv : (SHP.mk o l u t ks).k < 9 := by unfold SHP.k; omega
      generalize hkk : (SHP.mk o l u t ks).k = kk at *
      clear hrow hTW hlp HL HS ih hkt hkn
      by_cases hz0 : 0 < ks.length
      · have hd0 : decide ((0 : Int) < ks.length) = true := decide_eq_true (by omega)
        by_cases hz1 : 1 < ks.length
        · have hd1 : decide ((1 : Int) < ks.length) = true := decide_eq_true (by omega)
          have hd1' : decide (1 < ks.length) = true := by simp [hz1]
          go_wp2_with fail
          refine (nothing_any _).mono ?_
          rintro e w2 ⟨nb, rfl, hnb, hb2⟩
          have HM2 := hide (HM.out.step hb2)
          have HN2 := hide hnb
          have HROW2 := hide (HROW.out.below hb2)
          clear hnb hb2
          obtain ⟨-, aq, cq, eq, gq⟩ := HROW2.out.at
          obtain ⟨qb, qo, p0, qe, -, d0, r0⟩ := gq 0 (by rw [List.length_map]; omega)
          have hqq : qb = g2 ∧ qo = 0 := by injection eq with e1 e2 e3; rw [← e1] at qe; injection qe with qe; injection qe with q1 q2; exact ⟨q1.symm, q2.symm⟩
          obtain ⟨rfl, rfl⟩ := hqq
          have H10 := hide r0
          unfold PT at d0
          rw [Nat.add_zero] at d0
          have hl0 : 0 < ks.length := by omega
          clear eq gq qe r0
          unfold PT
          go_wp2_with fail
          refine (nothing_any _).mono ?_
          rintro e w4 ⟨nb2, rfl, hnb2, hb4⟩
          have HM4 := hide (HM2.out.step hb4)
          have HROW4 := hide (HROW2.out.below hb4)
          have hone : (ks.map SHP.re).getD 0 rNothing = (ks.map SHP.re)[0]'(by rw [List.length_map]; omega) := by rw [List.getD_eq_getElem?_getD, List.getElem?_eq_getElem (by rw [List.length_map]; omega)]; rfl
          have H14 : Hid (ReAt w4 p0 ((ks.map SHP.re).getD 0 rNothing)) := by show ReAt _ _ _; rw [hone]; exact H10.out.keep hb4
          have htwo : (ks.map SHP.re).getD 1 rNothing = (ks.map SHP.re)[1]'(by rw [List.length_map]; omega) := by rw [List.getD_eq_getElem?_getD, List.getElem?_eq_getElem (by rw [List.length_map]; omega)]; rfl
          obtain ⟨-, aq, cq, eq, gq⟩ := HROW4.out.at
          obtain ⟨qb2, qo2, p1, qe, -, d1, r1⟩ := gq 1 (by rw [List.length_map]; omega)
          have hqq : qb2 = qb ∧ qo2 = 0 := by injection eq with e1 e2 e3; rw [← e1] at qe; injection qe with qe; injection qe with q1 q2; exact ⟨q1.symm, q2.symm⟩
          obtain ⟨rfl, rfl⟩ := hqq
          unfold PT at d1
          rw [Nat.zero_add] at d1
          have H24 : Hid (ReAt w4 p1 ((ks.map SHP.re).getD 1 rNothing)) := by show ReAt _ _ _; rw [htwo]; exact r1
          have hl1 : 1 < ks.length := by omega
          clear eq gq qe r1
          have hwone : WfK ((ks.map SHP.re).getD 0 rNothing) := (wf_getD hwf 0).k
          have hwtwo : WfK ((ks.map SHP.re).getD 1 rNothing) := (wf_getD hwf 1).k
          clear hone htwo hnb2 hb4 HM2 HROW2 HN2 d0 H10
          unfold PT
          have hb4s : Below w.heap.size w w4 := HB.out ▸ HM4.out.below
          have xB := HM4.out.box
          have x0 := xB.cell 0; have x1 := xB.cell 1; have x2 := xB.cell 2; have x3 := xB.cell 3; have x4 := xB.cell 4
          simp only [List.getElem?_toArray, List.getElem?_cons_zero, List.getElem?_cons_succ] at x0 x1 x2 x3 x4
          clear xB
          have hopc := op_any _ _ w4 (HC.out.keep hb4s)
          rw [hkk] at hopc
          have HOP := hide hopc
          clear hopc hb4s
          unfold ShVal at HOP
          go_wp2_with fail
          refine HOP.out.mono ?_
          rintro e w5 ⟨rfl, hb5⟩
          have HM5 := hide (HM4.out.step hb5)
          have H15 := hide (H14.out.keep hb5)
          have H25 := hide (H24.out.keep hb5)
          have HROW5 := hide (HROW4.out.below hb5)
          have hsB5 : B ≤ w5.heap.size := by have := HM5.out.box.lt; omega
          have hb5s : Below w.heap.size w w5 := HB.out ▸ HM5.out.below
          have HT5 := hide (HT.out.agree (Agree.of_all (K := fun _ => True) hb5s) trivial)
          have HC5 := hide (HC.out.keep hb5s)
          clear hb5 HM4 H14 H24 HROW4 HOP x0 x1 x2 x3 x4 hb5s
          have hkc : kk = 0 ∨ kk = 1 ∨ kk = 2 ∨ kk = 3 ∨ kk = 4 ∨ kk = 5 ∨ kk = 6 ∨ kk = 7 ∨ kk = 8 := by omega
          clear hkv
          rcases hkc with rfl | rfl | rfl | rfl | rfl | rfl | rfl | rfl | rfl
          · have HRES2 : Hid (res = rNothing) := HRES.out
            clear HRES
            go_wp2_with fail
            refine (nothing_any _).mono ?_
            rintro e w6 ⟨rb, rfl, hr, hb⟩
            go_wp2
            go_ret
            refine ⟨rb, rfl, by rw [HRES2.out]; exact hr, ?_⟩
            rw [← HB.out]
            exact HM5.out.below.trans (hb.mono hsB5)
          · have HRES2 : Hid (res = rEmpty) := HRES.out
            clear HRES
            go_wp2_with fail
            refine (empty_re _).mono ?_
            rintro e w6 ⟨rb, rfl, hr, hb⟩
            go_wp2
            go_ret
            refine ⟨rb, rfl, by rw [HRES2.out]; exact hr, ?_⟩
            rw [← HB.out]
            exact HM5.out.below.trans (hb.mono hsB5)
          · have HRES2 : Hid (res = rOne (span (97 + l % 4) (97 + u % 4 + 1))) := HRES.out
            clear HRES
            have xB := HM5.out.box
            have x0 := xB.cell 0; have x1 := xB.cell 1; have x2 := xB.cell 2; have x3 := xB.cell 3; have x4 := xB.cell 4
            simp only [List.getElem?_toArray, List.getElem?_cons_zero, List.getElem?_cons_succ] at x0 x1 x2 x3 x4
            clear xB
            have hlow := low_any _ _ w5 HC5.out
            have HLOW := hide hlow
            clear hlow
            simp only [ShVal, SHP.lo, SHP.hi] at HLOW
            go_wp2_with fail
            refine HLOW.out.mono ?_
            rintro e w6 ⟨rfl, hb6⟩
            have HB6 := hide (HM5.out.below.trans (hb6.mono hsB5))
            have hsB6 : B ≤ w6.heap.size := by have := hb6.size; omega
            clear hb6 x0 x1 x2 x3 x4 HLOW
            go_wp2_with fail
            refine (from_any (97 + l % 4) (97 + u % 4) (by omega) (by omega) _).mono ?_
            rintro e w7 ⟨rfl, hb7⟩
            have HB7 := hide (HB6.out.trans (hb7.mono hsB6))
            have hsB7 : B ≤ w7.heap.size := by have := hb7.size; omega
            clear hb7
            go_wp2_with fail
            refine (one_any _ _).mono ?_
            rintro e w8 ⟨rb, rfl, hr, hb⟩
            go_wp2
            go_ret
            refine ⟨rb, rfl, by rw [HRES2.out]; exact hr, ?_⟩
            rw [← HB.out]
            exact HB7.out.trans (hb.mono hsB7)
          · have HRES2 : Hid (res = rThen (ks.map SHP.re)) := HRES.out
            clear HRES
            go_wp2_with fail
            refine (then_any _ _ _ HROW5.out hwf (by omega) (by omega)).mono ?_
            rintro e w6 ⟨rb, rfl, hr, hb⟩
            go_wp2
            go_ret
            refine ⟨rb, rfl, by rw [HRES2.out]; exact hr, ?_⟩
            rw [← HB.out]
            exact HM5.out.below.trans (hb.mono hsB5)
          · have HRES2 : Hid (res = rAny (ks.map SHP.re)) := HRES.out
            clear HRES
            go_wp2_with fail
            refine (any_re _ _ _ HROW5.out hwf (by omega) (by omega) HT5.out).mono ?_
            rintro e w6 ⟨rb, rfl, hr, hb⟩
            go_wp2
            go_ret
            refine ⟨rb, rfl, by rw [HRES2.out]; exact hr, ?_⟩
            rw [← HB.out]
            exact HM5.out.below.trans (hb.mono hsB5)
          · have HRES2 : Hid (res = rMany ((ks.map SHP.re).getD 0 rNothing)) := HRES.out
            clear HRES
            go_wp2_with fail
            refine (many_any _ _ _ H15.out).mono ?_
            rintro e w6 ⟨rb, rfl, hr, hb⟩
            go_wp2
            go_ret
            refine ⟨rb, rfl, by rw [HRES2.out]; exact hr, ?_⟩
            rw [← HB.out]
            exact HM5.out.below.trans (hb.mono hsB5)
          · have HRES2 : Hid (res = rBoth (ks.map SHP.re)) := HRES.out
            clear HRES
            go_wp2_with fail
            refine (both_re _ _ _ HROW5.out hwf (by omega) (by omega) HT5.out).mono ?_
            rintro e w6 ⟨rb, rfl, hr, hb⟩
            go_wp2
            go_ret
            refine ⟨rb, rfl, by rw [HRES2.out]; exact hr, ?_⟩
            rw [← HB.out]
            exact HM5.out.below.trans (hb.mono hsB5)
          · have HRES2 : Hid (res = rBut ((ks.map SHP.re).getD 0 rNothing) ((ks.map SHP.re).getD 1 rNothing)) := HRES.out
            clear HRES
            go_wp2_with fail
            refine (but_any _ _ _ _ _ H15.out H25.out hwone hwtwo HT5.out).mono ?_
            rintro e w6 ⟨rb, rfl, hr, hb⟩
            go_wp2
            go_ret
            refine ⟨rb, rfl, by rw [HRES2.out]; exact hr, ?_⟩
            rw [← HB.out]
            exact HM5.out.below.trans (hb.mono hsB5)
          · have HRES2 : Hid (res = rWord (bytesN t)) := HRES.out
            clear HRES
            have xB := HM5.out.box
            have x0 := xB.cell 0; have x1 := xB.cell 1; have x2 := xB.cell 2; have x3 := xB.cell 3; have x4 := xB.cell 4
            simp only [List.getElem?_toArray, List.getElem?_cons_zero, List.getElem?_cons_succ] at x0 x1 x2 x3 x4
            clear xB
            go_wp2_with fail
            refine (word_any t _ (by omega)).mono ?_
            rintro e w6 ⟨rb, rfl, hr, hb⟩
            go_wp2
            go_ret
            refine ⟨rb, rfl, by rw [HRES2.out]; exact hr, ?_⟩
            rw [← HB.out]
            exact HM5.out.below.trans (hb.mono hsB5)
        · have hd1 : decide ((1 : Int) < ks.length) = false := decide_eq_false (by omega)
          have hd1' : decide (1 < ks.length) = false := decide_eq_false (by omega)
          go_wp2_with fail
          refine (nothing_any _).mono ?_
          rintro e w2 ⟨nb, rfl, hnb, hb2⟩
          have HM2 := hide (HM.out.step hb2)
          have HN2 := hide hnb
          have HROW2 := hide (HROW.out.below hb2)
          clear hnb hb2
          obtain ⟨-, aq, cq, eq, gq⟩ := HROW2.out.at
          obtain ⟨qb, qo, p0, qe, -, d0, r0⟩ := gq 0 (by rw [List.length_map]; omega)
          have hqq : qb = g2 ∧ qo = 0 := by injection eq with e1 e2 e3; rw [← e1] at qe; injection qe with qe; injection qe with q1 q2; exact ⟨q1.symm, q2.symm⟩
          obtain ⟨rfl, rfl⟩ := hqq
          have H10 := hide r0
          unfold PT at d0
          rw [Nat.add_zero] at d0
          have hl0 : 0 < ks.length := by omega
          clear eq gq qe r0
          unfold PT
          go_wp2_with fail
          refine (nothing_any _).mono ?_
          rintro e w4 ⟨nb2, rfl, hnb2, hb4⟩
          have HM4 := hide (HM2.out.step hb4)
          have HROW4 := hide (HROW2.out.below hb4)
          have hone : (ks.map SHP.re).getD 0 rNothing = (ks.map SHP.re)[0]'(by rw [List.length_map]; omega) := by rw [List.getD_eq_getElem?_getD, List.getElem?_eq_getElem (by rw [List.length_map]; omega)]; rfl
          have H14 : Hid (ReAt w4 p0 ((ks.map SHP.re).getD 0 rNothing)) := by show ReAt _ _ _; rw [hone]; exact H10.out.keep hb4
          have htwo : (ks.map SHP.re).getD 1 rNothing = rNothing := by rw [List.getD_eq_getElem?_getD, List.getElem?_eq_none (by rw [List.length_map]; omega)]; rfl
          have H24 : Hid (ReAt w4 nb2 ((ks.map SHP.re).getD 1 rNothing)) := by show ReAt _ _ _; rw [htwo]; exact hnb2
          have hwone : WfK ((ks.map SHP.re).getD 0 rNothing) := (wf_getD hwf 0).k
          have hwtwo : WfK ((ks.map SHP.re).getD 1 rNothing) := (wf_getD hwf 1).k
          clear hone htwo hnb2 hb4 HM2 HROW2 HN2 d0 H10
          unfold PT
          have hb4s : Below w.heap.size w w4 := HB.out ▸ HM4.out.below
          have xB := HM4.out.box
          have x0 := xB.cell 0; have x1 := xB.cell 1; have x2 := xB.cell 2; have x3 := xB.cell 3; have x4 := xB.cell 4
          simp only [List.getElem?_toArray, List.getElem?_cons_zero, List.getElem?_cons_succ] at x0 x1 x2 x3 x4
          clear xB
          have hopc := op_any _ _ w4 (HC.out.keep hb4s)
          rw [hkk] at hopc
          have HOP := hide hopc
          clear hopc hb4s
          unfold ShVal at HOP
          go_wp2_with fail
          refine HOP.out.mono ?_
          rintro e w5 ⟨rfl, hb5⟩
          have HM5 := hide (HM4.out.step hb5)
          have H15 := hide (H14.out.keep hb5)
          have H25 := hide (H24.out.keep hb5)
          have HROW5 := hide (HROW4.out.below hb5)
          have hsB5 : B ≤ w5.heap.size := by have := HM5.out.box.lt; omega
          have hb5s : Below w.heap.size w w5 := HB.out ▸ HM5.out.below
          have HT5 := hide (HT.out.agree (Agree.of_all (K := fun _ => True) hb5s) trivial)
          have HC5 := hide (HC.out.keep hb5s)
          clear hb5 HM4 H14 H24 HROW4 HOP x0 x1 x2 x3 x4 hb5s
          have hkc : kk = 0 ∨ kk = 1 ∨ kk = 2 ∨ kk = 3 ∨ kk = 4 ∨ kk = 5 ∨ kk = 6 ∨ kk = 7 ∨ kk = 8 := by omega
          clear hkv
          rcases hkc with rfl | rfl | rfl | rfl | rfl | rfl | rfl | rfl | rfl
          · have HRES2 : Hid (res = rNothing) := HRES.out
            clear HRES
            go_wp2_with fail
            refine (nothing_any _).mono ?_
            rintro e w6 ⟨rb, rfl, hr, hb⟩
            go_wp2
            go_ret
            refine ⟨rb, rfl, by rw [HRES2.out]; exact hr, ?_⟩
            rw [← HB.out]
            exact HM5.out.below.trans (hb.mono hsB5)
          · have HRES2 : Hid (res = rEmpty) := HRES.out
            clear HRES
            go_wp2_with fail
            refine (empty_re _).mono ?_
            rintro e w6 ⟨rb, rfl, hr, hb⟩
            go_wp2
            go_ret
            refine ⟨rb, rfl, by rw [HRES2.out]; exact hr, ?_⟩
            rw [← HB.out]
            exact HM5.out.below.trans (hb.mono hsB5)
          · have HRES2 : Hid (res = rOne (span (97 + l % 4) (97 + u % 4 + 1))) := HRES.out
            clear HRES
            have xB := HM5.out.box
            have x0 := xB.cell 0; have x1 := xB.cell 1; have x2 := xB.cell 2; have x3 := xB.cell 3; have x4 := xB.cell 4
            simp only [List.getElem?_toArray, List.getElem?_cons_zero, List.getElem?_cons_succ] at x0 x1 x2 x3 x4
            clear xB
            have hlow := low_any _ _ w5 HC5.out
            have HLOW := hide hlow
            clear hlow
            simp only [ShVal, SHP.lo, SHP.hi] at HLOW
            go_wp2_with fail
            refine HLOW.out.mono ?_
            rintro e w6 ⟨rfl, hb6⟩
            have HB6 := hide (HM5.out.below.trans (hb6.mono hsB5))
            have hsB6 : B ≤ w6.heap.size := by have := hb6.size; omega
            clear hb6 x0 x1 x2 x3 x4 HLOW
            go_wp2_with fail
            refine (from_any (97 + l % 4) (97 + u % 4) (by omega) (by omega) _).mono ?_
            rintro e w7 ⟨rfl, hb7⟩
            have HB7 := hide (HB6.out.trans (hb7.mono hsB6))
            have hsB7 : B ≤ w7.heap.size := by have := hb7.size; omega
            clear hb7
            go_wp2_with fail
            refine (one_any _ _).mono ?_
            rintro e w8 ⟨rb, rfl, hr, hb⟩
            go_wp2
            go_ret
            refine ⟨rb, rfl, by rw [HRES2.out]; exact hr, ?_⟩
            rw [← HB.out]
            exact HB7.out.trans (hb.mono hsB7)
          · have HRES2 : Hid (res = rThen (ks.map SHP.re)) := HRES.out
            clear HRES
            go_wp2_with fail
            refine (then_any _ _ _ HROW5.out hwf (by omega) (by omega)).mono ?_
            rintro e w6 ⟨rb, rfl, hr, hb⟩
            go_wp2
            go_ret
            refine ⟨rb, rfl, by rw [HRES2.out]; exact hr, ?_⟩
            rw [← HB.out]
            exact HM5.out.below.trans (hb.mono hsB5)
          · have HRES2 : Hid (res = rAny (ks.map SHP.re)) := HRES.out
            clear HRES
            go_wp2_with fail
            refine (any_re _ _ _ HROW5.out hwf (by omega) (by omega) HT5.out).mono ?_
            rintro e w6 ⟨rb, rfl, hr, hb⟩
            go_wp2
            go_ret
            refine ⟨rb, rfl, by rw [HRES2.out]; exact hr, ?_⟩
            rw [← HB.out]
            exact HM5.out.below.trans (hb.mono hsB5)
          · have HRES2 : Hid (res = rMany ((ks.map SHP.re).getD 0 rNothing)) := HRES.out
            clear HRES
            go_wp2_with fail
            refine (many_any _ _ _ H15.out).mono ?_
            rintro e w6 ⟨rb, rfl, hr, hb⟩
            go_wp2
            go_ret
            refine ⟨rb, rfl, by rw [HRES2.out]; exact hr, ?_⟩
            rw [← HB.out]
            exact HM5.out.below.trans (hb.mono hsB5)
          · have HRES2 : Hid (res = rBoth (ks.map SHP.re)) := HRES.out
            clear HRES
            go_wp2_with fail
            refine (both_re _ _ _ HROW5.out hwf (by omega) (by omega) HT5.out).mono ?_
            rintro e w6 ⟨rb, rfl, hr, hb⟩
            go_wp2
            go_ret
            refine ⟨rb, rfl, by rw [HRES2.out]; exact hr, ?_⟩
            rw [← HB.out]
            exact HM5.out.below.trans (hb.mono hsB5)
          · have HRES2 : Hid (res = rBut ((ks.map SHP.re).getD 0 rNothing) ((ks.map SHP.re).getD 1 rNothing)) := HRES.out
            clear HRES
            go_wp2_with fail
            refine (but_any _ _ _ _ _ H15.out H25.out hwone hwtwo HT5.out).mono ?_
            rintro e w6 ⟨rb, rfl, hr, hb⟩
            go_wp2
            go_ret
            refine ⟨rb, rfl, by rw [HRES2.out]; exact hr, ?_⟩
            rw [← HB.out]
            exact HM5.out.below.trans (hb.mono hsB5)
          · have HRES2 : Hid (res = rWord (bytesN t)) := HRES.out
            clear HRES
            have xB := HM5.out.box
            have x0 := xB.cell 0; have x1 := xB.cell 1; have x2 := xB.cell 2; have x3 := xB.cell 3; have x4 := xB.cell 4
            simp only [List.getElem?_toArray, List.getElem?_cons_zero, List.getElem?_cons_succ] at x0 x1 x2 x3 x4
            clear xB
            go_wp2_with fail
            refine (word_any t _ (by omega)).mono ?_
            rintro e w6 ⟨rb, rfl, hr, hb⟩
            go_wp2
            go_ret
            refine ⟨rb, rfl, by rw [HRES2.out]; exact hr, ?_⟩
            rw [← HB.out]
            exact HM5.out.below.trans (hb.mono hsB5)
      · have hd0 : decide ((0 : Int) < ks.length) = false := decide_eq_false (by omega)
        have hd1 : decide ((1 : Int) < ks.length) = false := decide_eq_false (by omega)
        have hd0' : decide (0 < ks.length) = false := decide_eq_false (by omega)
        have hd1' : decide (1 < ks.length) = false := decide_eq_false (by omega)
        go_wp2_with fail
        refine (nothing_any _).mono ?_
        rintro e w2 ⟨nb, rfl, hnb, hb2⟩
        have HM2 := hide (HM.out.step hb2)
        have HN2 := hide hnb
        have HROW2 := hide (HROW.out.below hb2)
        clear hnb hb2
        unfold PT
        go_wp2_with fail
        refine (nothing_any _).mono ?_
        rintro e w4 ⟨nb2, rfl, hnb2, hb4⟩
        have HM4 := hide (HM2.out.step hb4)
        have HROW4 := hide (HROW2.out.below hb4)
        have hone : (ks.map SHP.re).getD 0 rNothing = rNothing := by rw [List.getD_eq_getElem?_getD, List.getElem?_eq_none (by rw [List.length_map]; omega)]; rfl
        have H14 : Hid (ReAt w4 nb ((ks.map SHP.re).getD 0 rNothing)) := by show ReAt _ _ _; rw [hone]; exact HN2.out.keep hb4
        have htwo : (ks.map SHP.re).getD 1 rNothing = rNothing := by rw [List.getD_eq_getElem?_getD, List.getElem?_eq_none (by rw [List.length_map]; omega)]; rfl
        have H24 : Hid (ReAt w4 nb2 ((ks.map SHP.re).getD 1 rNothing)) := by show ReAt _ _ _; rw [htwo]; exact hnb2
        have hwone : WfK ((ks.map SHP.re).getD 0 rNothing) := (wf_getD hwf 0).k
        have hwtwo : WfK ((ks.map SHP.re).getD 1 rNothing) := (wf_getD hwf 1).k
        clear hone htwo hnb2 hb4 HM2 HROW2 HN2
        unfold PT
        have hb4s : Below w.heap.size w w4 := HB.out ▸ HM4.out.below
        have xB := HM4.out.box
        have x0 := xB.cell 0; have x1 := xB.cell 1; have x2 := xB.cell 2; have x3 := xB.cell 3; have x4 := xB.cell 4
        simp only [List.getElem?_toArray, List.getElem?_cons_zero, List.getElem?_cons_succ] at x0 x1 x2 x3 x4
        clear xB
        have hopc := op_any _ _ w4 (HC.out.keep hb4s)
        rw [hkk] at hopc
        have HOP := hide hopc
        clear hopc hb4s
        unfold ShVal at HOP
        go_wp2_with fail
        refine HOP.out.mono ?_
        rintro e w5 ⟨rfl, hb5⟩
        have HM5 := hide (HM4.out.step hb5)
        have H15 := hide (H14.out.keep hb5)
        have H25 := hide (H24.out.keep hb5)
        have HROW5 := hide (HROW4.out.below hb5)
        have hsB5 : B ≤ w5.heap.size := by have := HM5.out.box.lt; omega
        have hb5s : Below w.heap.size w w5 := HB.out ▸ HM5.out.below
        have HT5 := hide (HT.out.agree (Agree.of_all (K := fun _ => True) hb5s) trivial)
        have HC5 := hide (HC.out.keep hb5s)
        clear hb5 HM4 H14 H24 HROW4 HOP x0 x1 x2 x3 x4 hb5s
        have hkc : kk = 0 ∨ kk = 1 ∨ kk = 2 ∨ kk = 3 ∨ kk = 4 ∨ kk = 5 ∨ kk = 6 ∨ kk = 7 ∨ kk = 8 := by omega
        clear hkv
        rcases hkc with rfl | rfl | rfl | rfl | rfl | rfl | rfl | rfl | rfl
        · have HRES2 : Hid (res = rNothing) := HRES.out
          clear HRES
          go_wp2_with fail
          refine (nothing_any _).mono ?_
          rintro e w6 ⟨rb, rfl, hr, hb⟩
          go_wp2
          go_ret
          refine ⟨rb, rfl, by rw [HRES2.out]; exact hr, ?_⟩
          rw [← HB.out]
          exact HM5.out.below.trans (hb.mono hsB5)
        · have HRES2 : Hid (res = rEmpty) := HRES.out
          clear HRES
          go_wp2_with fail
          refine (empty_re _).mono ?_
          rintro e w6 ⟨rb, rfl, hr, hb⟩
          go_wp2
          go_ret
          refine ⟨rb, rfl, by rw [HRES2.out]; exact hr, ?_⟩
          rw [← HB.out]
          exact HM5.out.below.trans (hb.mono hsB5)
        · have HRES2 : Hid (res = rOne (span (97 + l % 4) (97 + u % 4 + 1))) := HRES.out
          clear HRES
          have xB := HM5.out.box
          have x0 := xB.cell 0; have x1 := xB.cell 1; have x2 := xB.cell 2; have x3 := xB.cell 3; have x4 := xB.cell 4
          simp only [List.getElem?_toArray, List.getElem?_cons_zero, List.getElem?_cons_succ] at x0 x1 x2 x3 x4
          clear xB
          have hlow := low_any _ _ w5 HC5.out
          have HLOW := hide hlow
          clear hlow
          simp only [ShVal, SHP.lo, SHP.hi] at HLOW
          go_wp2_with fail
          refine HLOW.out.mono ?_
          rintro e w6 ⟨rfl, hb6⟩
          have HB6 := hide (HM5.out.below.trans (hb6.mono hsB5))
          have hsB6 : B ≤ w6.heap.size := by have := hb6.size; omega
          clear hb6 x0 x1 x2 x3 x4 HLOW
          go_wp2_with fail
          refine (from_any (97 + l % 4) (97 + u % 4) (by omega) (by omega) _).mono ?_
          rintro e w7 ⟨rfl, hb7⟩
          have HB7 := hide (HB6.out.trans (hb7.mono hsB6))
          have hsB7 : B ≤ w7.heap.size := by have := hb7.size; omega
          clear hb7
          go_wp2_with fail
          refine (one_any _ _).mono ?_
          rintro e w8 ⟨rb, rfl, hr, hb⟩
          go_wp2
          go_ret
          refine ⟨rb, rfl, by rw [HRES2.out]; exact hr, ?_⟩
          rw [← HB.out]
          exact HB7.out.trans (hb.mono hsB7)
        · have HRES2 : Hid (res = rThen (ks.map SHP.re)) := HRES.out
          clear HRES
          go_wp2_with fail
          refine (then_any _ _ _ HROW5.out hwf (by omega) (by omega)).mono ?_
          rintro e w6 ⟨rb, rfl, hr, hb⟩
          go_wp2
          go_ret
          refine ⟨rb, rfl, by rw [HRES2.out]; exact hr, ?_⟩
          rw [← HB.out]
          exact HM5.out.below.trans (hb.mono hsB5)
        · have HRES2 : Hid (res = rAny (ks.map SHP.re)) := HRES.out
          clear HRES
          go_wp2_with fail
          refine (any_re _ _ _ HROW5.out hwf (by omega) (by omega) HT5.out).mono ?_
          rintro e w6 ⟨rb, rfl, hr, hb⟩
          go_wp2
          go_ret
          refine ⟨rb, rfl, by rw [HRES2.out]; exact hr, ?_⟩
          rw [← HB.out]
          exact HM5.out.below.trans (hb.mono hsB5)
        · have HRES2 : Hid (res = rMany ((ks.map SHP.re).getD 0 rNothing)) := HRES.out
          clear HRES
          go_wp2_with fail
          refine (many_any _ _ _ H15.out).mono ?_
          rintro e w6 ⟨rb, rfl, hr, hb⟩
          go_wp2
          go_ret
          refine ⟨rb, rfl, by rw [HRES2.out]; exact hr, ?_⟩
          rw [← HB.out]
          exact HM5.out.below.trans (hb.mono hsB5)
        · have HRES2 : Hid (res = rBoth (ks.map SHP.re)) := HRES.out
          clear HRES
          go_wp2_with fail
          refine (both_re _ _ _ HROW5.out hwf (by omega) (by omega) HT5.out).mono ?_
          rintro e w6 ⟨rb, rfl, hr, hb⟩
          go_wp2
          go_ret
          refine ⟨rb, rfl, by rw [HRES2.out]; exact hr, ?_⟩
          rw [← HB.out]
          exact HM5.out.below.trans (hb.mono hsB5)
        · have HRES2 : Hid (res = rBut ((ks.map SHP.re).getD 0 rNothing) ((ks.map SHP.re).getD 1 rNothing)) := HRES.out
          clear HRES
          go_wp2_with fail
          refine (but_any _ _ _ _ _ H15.out H25.out hwone hwtwo HT5.out).mono ?_
          rintro e w6 ⟨rb, rfl, hr, hb⟩
          go_wp2
          go_ret
          refine ⟨rb, rfl, by rw [HRES2.out]; exact hr, ?_⟩
          rw [← HB.out]
          exact HM5.out.below.trans (hb.mono hsB5)
        · have HRES2 : Hid (res = rWord (bytesN t)) := HRES.out
          clear HRES
          have xB := HM5.out.box
          have x0 := xB.cell 0; have x1 := xB.cell 1; have x2 := xB.cell 2; have x3 := xB.cell 3; have x4 := xB.cell 4
          simp only [List.getElem?_toArray, List.getElem?_cons_zero, List.getElem?_cons_succ] at x0 x1 x2 x3 x4
          clear xB
          go_wp2_with fail
          refine (word_any t _ (by omega)).mono ?_
          rintro e w6 ⟨rb, rfl, hr, hb⟩
          go_wp2
          go_ret
          refine ⟨rb, rfl, by rw [HRES2.out]; exact hr, ?_⟩
          rw [← HB.out]
          exact HM5.out.below.trans (hb.mono hsB5)
end Go.Proofs.YtfoamihjmmgnlaaDoor
/- The document's example, as the statements of layer 3 ask it first. -/
namespace Go.Proofs.YtfoamihjmmgnlaaDoor
set_option maxRecDepth 100000
set_option linter.unusedSimpArgs false
set_option linter.unusedVariables false
open Go.RowKit

theorem x_neqNil (ρ : Operand → Value) (d : Option Tmp) (x : Operand) (t : TypeId) (pos : String) (af : Array Edge) (g : Option (Nat × Bool)) (b : Nat) (hx : ρ x = PT b) (hy : ρ (.const (.pointer none)) = .pointer none) (w : World) :
    (execOp ρ { dst := d, op := .binOp .neq 58 x (.const (.pointer none)) 58, type := t, pos := pos, after := af, guard := g }).run Tryd.prog w = .ok (.value (.bool true)) w := by
  simp [go_sem, hx, hy, PT]
theorem x_eqOpC (ρ : Operand → Value) (d : Option Tmp) (x : Operand) (n : Int) (t : TypeId) (pos : String) (af : Array Edge) (g : Option (Nat × Bool)) (u : Int) (c : Bool) (hc : (u == n) = c) (hx : ρ x = .int .i64 u) (hy : ρ (.const (.int .i64 n)) = .int .i64 n) (w : World) :
    (execOp ρ { dst := d, op := .binOp .eql 72 x (.const (.int .i64 n)) 72, type := t, pos := pos, after := af, guard := g }).run Tryd.prog w = .ok (.value (.bool c)) w := by
  rw [← hc]
  simp [go_sem, hx, hy]
theorem x_build97 (ρ : Operand → Value) (d : Option Tmp) (t : TypeId) (pos : String) (af : Array Edge) (g : Option (Nat × Bool)) (hx : ρ (.const (.int .u8 97)) = .int .u8 97) (hy : ρ (.const (.int .u8 98)) = .int .u8 98) (w : World) :
    (execOp ρ { dst := d, op := .buildSlice 35 2 #[(0, .const (.int .u8 97)), (1, .const (.int .u8 98))], type := t, pos := pos, after := af, guard := g }).run Tryd.prog w = .ok (.value (.slice (some ⟨w.heap.size, 0, none⟩) 2 2)) (w.alloc (.cells #[.int .u8 97, .int .u8 98] 5)) := by
  simp [go_sem, hx, hy]
theorem x_buildP2 (ρ : Operand → Value) (d : Option Tmp) (x y : Operand) (t : TypeId) (pos : String) (af : Array Edge) (g : Option (Nat × Bool)) (a b : Nat) (hx : ρ x = PT a) (hy : ρ y = PT b) (w : World) :
    (execOp ρ { dst := d, op := .buildSlice 69 2 #[(0, x), (1, y)], type := t, pos := pos, after := af, guard := g }).run Tryd.prog w = .ok (.value (.slice (some ⟨w.heap.size, 0, none⟩) 2 2)) (w.alloc (.cells #[PT a, PT b] 58)) := by
  simp [go_sem, hx, hy, PT]
theorem x_neqStr (ρ : Operand → Value) (d : Option Tmp) (x y : Operand) (t : TypeId) (pos : String) (af : Array Edge) (g : Option (Nat × Bool)) (u v : ByteArray) (hne : u ≠ v) (hx : ρ x = .string u) (hy : ρ y = .string v) (w : World) :
    (execOp ρ { dst := d, op := .binOp .neq 9 x y 9, type := t, pos := pos, after := af, guard := g }).run Tryd.prog w = .ok (.value (.bool true)) w := by
  have hb : ¬ u.toList = v.toList := fun e => hne (Go.WideShapes.bytes_inj (by rw [ByteArray.toList_eq, ByteArray.toList_eq] at e; exact e))
  simp [go_sem, hx, hy, hb]
theorem head3_x : rAny [rOne sA, rOne sB] = rOne sAB := by
  have h1 : (rOne sA).op = 2 := one_op _ (by decide +kernel)
  have h2 : (rOne sB).op = 2 := one_op _ (by decide +kernel)
  have e1 : (rOne sA).set = sA := by unfold rOne; rw [if_neg (by decide +kernel)]; rfl
  have e2 : (rOne sB).set = sB := by unfold rOne; rw [if_neg (by decide +kernel)]; rfl
  have hf : flatL 4 [rOne sA, rOne sB] = [rOne sA, rOne sB] := by simp [flatL, h1, h2]
  have hk : orKeep [rOne sA, rOne sB] = [] := by simp [orKeep, h1, h2]
  have hs : orSet [rOne sA, rOne sB] = sAB := by
    simp only [orSet, List.foldl_cons, List.foldl_nil, h1, h2, e1, e2, if_true]
    decide +kernel
  unfold rAny
  simp only [hf, hk, hs]
  have hz : ¬ sAB = 0#256 := by decide +kernel
  simp only [hz, if_false, List.nil_append]
  rw [if_neg (by simp)]
  rfl
theorem head3_t : rThen [rEmpty, rOne sA] = rOne sA := by
  have h1 : (rOne sA).op = 2 := one_op _ (by decide +kernel)
  have h0 : rEmpty.op = 1 := rfl
  have hc : catL [rEmpty, rOne sA] = [rOne sA] := by simp [catL, catK, h1, h0]
  unfold rThen
  rw [if_neg (by simp [h1, h0]), hc, if_neg (by simp)]
  rfl
theorem head3_c : (catL [rEmpty, rOne sA]).length ≤ 2 := by
  have h1 := cntL_catL [rEmpty, rOne sA]
  have h2 := cntL_len (catL [rEmpty, rOne sA])
  have h3 : cntL [rEmpty, rOne sA] = 2 := by simp [cntL, cnt_empty, cnt_one]
  omega
theorem head3_ne : rOne sA ≠ rOne sAB := fun e => by
  have e1 : (rOne sA).set = sA := by unfold rOne; rw [if_neg (by decide +kernel)]; rfl
  have e2 : (rOne sAB).set = sAB := by unfold rOne; rw [if_neg (by decide +kernel)]; rfl
  rw [e, e2] at e1
  exact absurd e1 (by decide +kernel)
theorem key_one_len (s : BitVec 256) : (rOne s).key.length ≤ 1000 := by
  rw [(rOne s).eta, RE.key_mk, rOne_kids]
  have := runs_le (rOne s).set
  have h2 := rnB_length (runsOf (rOne s).set)
  split
  · simp [keysL]; omega
  · simp [keysL]
theorem ofRow1 {w : World} {c : Nat} {g : Nat} (hg : Blk w g #[.int .u8 c] 5) : ∀ k, k < [c].length → ∃ b off, (some ⟨g, 0, none⟩ : Option Addr) = some ⟨b, off, none⟩ ∧ b < w.heap.size ∧ w.cell? ⟨b, off + k, none⟩ = some (.int .u8 (([c] : List Nat).getD k 0)) := fun k hk => by
  obtain rfl : k = 0 := by simp at hk; omega
  exact ⟨_, _, rfl, hg.lt, hg.cell 0⟩
theorem ofRow2 {w : World} {c d : Nat} {g : Nat} (hg : Blk w g #[.int .u8 c, .int .u8 d] 5) : ∀ k, k < [c, d].length → ∃ b off, (some ⟨g, 0, none⟩ : Option Addr) = some ⟨b, off, none⟩ ∧ b < w.heap.size ∧ w.cell? ⟨b, off + k, none⟩ = some (.int .u8 (([c, d] : List Nat).getD k 0)) := fun k hk => by
  have hk2 : k = 0 ∨ k = 1 := by simp at hk; omega
  rcases hk2 with rfl | rfl
  · exact ⟨_, _, rfl, hg.lt, hg.cell 0⟩
  · exact ⟨_, _, rfl, hg.lt, hg.cell 1⟩

set_option maxHeartbeats 4000000 in
theorem head3_any (w : World) (hT : TabAt w) :
    Calls Tryd.prog 33 #[] w fun e w' => e = .returned (.bool true) ∧ Below w.heap.size w w' := by
  have HT := hide hT
  clear hT
  go_enter Tryd.func33, Tryd.ntmps33
  go_wp2_with fail
  have hb0 := (Below.refl w.heap.size w).alloc (Nat.le_refl _) (.cells #[.int .u8 (97 : Nat)] 5)
  refine (of_any [97] (by decide) _ _ 1 (ofRow1 (Blk.newAt (w := w) rfl #[.int .u8 (97 : Nat)] 5)) (by decide)).mono ?_
  rintro e w1 ⟨rfl, hb⟩
  have HB1 := hide (hb0.trans (hb.mono (by simp)))
  clear hb hb0
  rw [show setOf [97] = sA from rfl]
  go_wp2_with fail
  refine (one_any sA _).mono ?_
  rintro e w2 ⟨ab, rfl, ha, hb⟩
  have HB2 := hide (HB1.out.trans (hb.mono HB1.out.size))
  have HA := hide ha
  clear ha hb
  go_wp2_with fail
  have hb0 := (Below.refl w2.heap.size w2).alloc (Nat.le_refl _) (.cells #[.int .u8 (98 : Nat)] 5)
  refine (of_any [98] (by decide) _ _ 1 (ofRow1 (Blk.newAt (w := w2) rfl #[.int .u8 (98 : Nat)] 5)) (by decide)).mono ?_
  rintro e w3 ⟨rfl, hb⟩
  have HB3 := hide (HB2.out.trans ((hb0.trans (hb.mono (by simp))).mono HB2.out.size))
  have HA3 := hide ((HA.out.keep hb0).keep hb)
  clear hb hb0 HA
  rw [show setOf [98] = sB from rfl]
  go_wp2_with fail
  refine (one_any sB _).mono ?_
  rintro e w4 ⟨bb, rfl, hbb, hb⟩
  have HB4 := hide (HB3.out.trans (hb.mono HB3.out.size))
  have HA4 := hide (HA3.out.keep hb)
  have HBB := hide hbb
  clear hb hbb HA3
  unfold PT
  go_wp2_with fail
  have hb0 := (Below.refl w4.heap.size w4).alloc (Nat.le_refl _) (.cells #[PT ab, PT bb] 58)
  have HB5 := hide (HB4.out.trans (hb0.mono HB4.out.size))
  have hone : ∀ s : BitVec 256, (rOne s).op ≠ 4 := fun s => by unfold rOne; split <;> (simp only [rNothing, RE.op]; omega)
  refine (any_re [rOne sA, rOne sB] _ _ (resRow_two (Blk.newAt rfl #[PT ab, PT bb] 58) (HA4.out.keep hb0) (HBB.out.keep hb0)) (fun r hr => by simp at hr; rcases hr with rfl | rfl <;> exact wf_one _) (by simp) (by simp [flatL, hone]) (HT.out.agree (Agree.of_all (K := fun _ => True) HB5.out) trivial)).mono ?_
  rw [head3_x]
  rintro e w6 ⟨xb, rfl, hx, hb⟩
  have HB6 := hide (HB5.out.trans (hb.mono HB5.out.size))
  have HA6 := hide ((HA4.out.keep hb0).keep hb)
  have HX6 := hide hx
  clear hb hx hb0 HA4 HBB hone HB1 HB2 HB3 HB4 HB5
  unfold PT
  go_wp2
  rw [show Value.pointer (some ⟨ab, 0, none⟩) = PT ab from rfl, show Value.pointer (some ⟨xb, 0, none⟩) = PT xb from rfl, show Value.pointer (some ⟨bb, 0, none⟩) = PT bb from rfl]
  obtain ⟨S, hSd⟩ : ∃ S : World → Prop, S = fun W => Below w6.heap.size w6 W := ⟨_, rfl⟩
  have hSb : ∀ W, S W → Below w6.heap.size w6 W := fun W h => by rw [hSd] at h; exact h
  have hbS : ∀ W, Below w6.heap.size w6 W → S W := fun W h => by rw [hSd]; exact h
  have hSg : ∀ W W', S W → Below W.heap.size W W' → S W' := fun W W' h hb => hbS _ ((hSb W h).trans (hb.mono (hSb W h).size))
  have hSa : ∀ W, S W → ReAt W ab (rOne sA) := fun W h => HA6.out.keep (hSb W h)
  have hSx : ∀ W, S W → ReAt W xb (rOne sAB) := fun W h => HX6.out.keep (hSb W h)
  have hSt : ∀ W, S W → TabAt W := fun W h => HT.out.agree (Agree.of_all (K := fun _ => True) (HB6.out.trans ((hSb W h).mono HB6.out.size))) trivial
  have hS : S { w6 with drawn := w6.drawn + 1 } := hbS _ ⟨rfl, rfl, rfl, Nat.le_refl _, fun _ _ => rfl⟩
  have hopx : (rOne sAB).op = 2 := one_op _ (by decide +kernel)
  have hsetx : (rOne sAB).set = sAB := by unfold rOne; rw [if_neg (by decide +kernel)]; rfl
  clear hSd
  refine wp_region_noPanic (wp_region_held (S := S) (by kernel_rfl) ?_)
  show wpAnyH _ _ _ _ _ 38 #[false, false, false, false, false, false, false, false, false, false, false, false, false, false, false, false, false, false, false, false, false, false, false, false, false, false, false, false, false, false, false, false, false, false, false, false, false, false] _ _
  generalize ({ w6 with drawn := w6.drawn + 1 } : World) = W at hS ⊢
  refine h_take 0 (PT ab) rfl (by kernel_rfl) (by kernel_rfl) (by kernel_rfl) (by kernel_rfl) (fun w hw => x_move _ _ _ _ _ _ _ _ rfl w) hS ?_
  simp only [Act.put, List.setIfInBounds_toArray, List.set_cons_succ, List.set_cons_zero]
  refine h_take 1 (.bool true) rfl (by kernel_rfl) (by kernel_rfl) (by kernel_rfl) (by kernel_rfl) (fun w hw => x_neqNil _ _ _ _ _ _ _ _ rfl rfl w) hS ?_
  simp only [Act.put, List.setIfInBounds_toArray, List.set_cons_succ, List.set_cons_zero]
  refine h_take 2 (.bool true) rfl (by kernel_rfl) (by kernel_rfl) (by kernel_rfl) (by kernel_rfl) (fun w hw => x_move _ _ _ _ _ _ _ _ rfl w) hS ?_
  simp only [Act.put, List.setIfInBounds_toArray, List.set_cons_succ, List.set_cons_zero]
  refine h_take 3 (PT xb) rfl (by kernel_rfl) (by kernel_rfl) (by kernel_rfl) (by kernel_rfl) (fun w hw => x_move _ _ _ _ _ _ _ _ rfl w) hS ?_
  simp only [Act.put, List.setIfInBounds_toArray, List.set_cons_succ, List.set_cons_zero]
  refine h_take 4 (.bool true) rfl (by kernel_rfl) (by kernel_rfl) (by kernel_rfl) (by kernel_rfl) (fun w hw => x_neqNil _ _ _ _ _ _ _ _ rfl rfl w) hS ?_
  simp only [Act.put, List.setIfInBounds_toArray, List.set_cons_succ, List.set_cons_zero]
  refine h_take 5 (.bool true) rfl (by kernel_rfl) (by kernel_rfl) (by kernel_rfl) (by kernel_rfl) (fun w hw => x_pick _ _ _ _ _ _ _ _ _ true _ _ rfl rfl rfl w) hS ?_
  simp only [Act.put, List.setIfInBounds_toArray, List.set_cons_succ, List.set_cons_zero]
  refine h_take 6 (.bool true) rfl (by kernel_rfl) (by kernel_rfl) (by kernel_rfl) (by kernel_rfl) (fun w hw => x_move _ _ _ _ _ _ _ _ rfl w) hS ?_
  simp only [Act.put, List.setIfInBounds_toArray, List.set_cons_succ, List.set_cons_zero]
  refine h_take 7 (PT xb) rfl (by kernel_rfl) (by kernel_rfl) (by kernel_rfl) (by kernel_rfl) (fun w hw => x_move _ _ _ _ _ _ _ _ rfl w) hS ?_
  simp only [Act.put, List.setIfInBounds_toArray, List.set_cons_succ, List.set_cons_zero]
  refine h_take 8 (PT xb) rfl (by kernel_rfl) (by kernel_rfl) (by kernel_rfl) (by kernel_rfl) (fun w hw => x_nilCheck _ _ _ _ _ _ _ _ rfl w) hS ?_
  simp only [Act.put, List.setIfInBounds_toArray, List.set_cons_succ, List.set_cons_zero]
  refine h_take 9 (PT xb) rfl (by kernel_rfl) (by kernel_rfl) (by kernel_rfl) (by kernel_rfl) (fun w hw => x_field0 _ _ _ _ _ _ _ _ rfl w) hS ?_
  simp only [Act.put, List.setIfInBounds_toArray, List.set_cons_succ, List.set_cons_zero]
  refine h_take 10 (.int .i64 ((2 : Nat) : Int)) rfl (by kernel_rfl) (by kernel_rfl) (by kernel_rfl) (by kernel_rfl) (fun w hw => x_loadOp _ _ _ _ _ _ _ _ _ rfl w (by have := (hSx w hw).cell0; rwa [hopx] at this)) hS ?_
  simp only [Act.put, List.setIfInBounds_toArray, List.set_cons_succ, List.set_cons_zero]
  refine h_take 11 (.bool true) rfl (by kernel_rfl) (by kernel_rfl) (by kernel_rfl) (by kernel_rfl) (fun w hw => x_eqOpC _ _ _ _ _ _ _ _ _ true (by decide) rfl rfl w) hS ?_
  simp only [Act.put, List.setIfInBounds_toArray, List.set_cons_succ, List.set_cons_zero]
  refine h_take 12 (.bool true) rfl (by kernel_rfl) (by kernel_rfl) (by kernel_rfl) (by kernel_rfl) (fun w hw => x_pick _ _ _ _ _ _ _ _ _ true _ _ rfl rfl rfl w) hS ?_
  simp only [Act.put, List.setIfInBounds_toArray, List.set_cons_succ, List.set_cons_zero]
  refine h_take 13 (.bool true) rfl (by kernel_rfl) (by kernel_rfl) (by kernel_rfl) (by kernel_rfl) (fun w hw => x_move _ _ _ _ _ _ _ _ rfl w) hS ?_
  simp only [Act.put, List.setIfInBounds_toArray, List.set_cons_succ, List.set_cons_zero]
  refine h_take 14 (PT xb) rfl (by kernel_rfl) (by kernel_rfl) (by kernel_rfl) (by kernel_rfl) (fun w hw => x_move _ _ _ _ _ _ _ _ rfl w) hS ?_
  simp only [Act.put, List.setIfInBounds_toArray, List.set_cons_succ, List.set_cons_zero]
  refine h_take 15 (PT xb) rfl (by kernel_rfl) (by kernel_rfl) (by kernel_rfl) (by kernel_rfl) (fun w hw => x_nilCheck _ _ _ _ _ _ _ _ rfl w) hS ?_
  simp only [Act.put, List.setIfInBounds_toArray, List.set_cons_succ, List.set_cons_zero]
  refine h_take 16 (.pointer (some ⟨xb, 1, none⟩)) rfl (by kernel_rfl) (by kernel_rfl) (by kernel_rfl) (by kernel_rfl) (fun w hw => x_field1 _ _ _ _ _ _ _ _ rfl w) hS ?_
  simp only [Act.put, List.setIfInBounds_toArray, List.set_cons_succ, List.set_cons_zero]
  refine h_take 17 (SV sAB) rfl (by kernel_rfl) (by kernel_rfl) (by kernel_rfl) (by kernel_rfl) (fun w hw => x_loadAt _ _ _ _ _ _ _ _ _ _ rfl w (by have := (hSx w hw).cellS; rwa [hsetx] at this)) hS ?_
  simp only [Act.put, List.setIfInBounds_toArray, List.set_cons_succ, List.set_cons_zero]
  have hS2 := hSg _ _ hS ((Below.refl W.heap.size W).alloc (Nat.le_refl _) (.cells #[.int .u8 97, .int .u8 98] 5))
  refine h_alloc 18 (.slice (some ⟨W.heap.size, 0, none⟩) 2 2) (W.alloc (.cells #[.int .u8 97, .int .u8 98] 5)) rfl (by kernel_rfl) (by kernel_rfl) (x_build97 _ _ _ _ _ _ rfl rfl _) hS2 ?_
  simp only [Act.put, List.setIfInBounds_toArray, List.set_cons_succ, List.set_cons_zero]
  have hof := ofRow2 (c := 97) (d := 98) (Blk.newAt (w := W) rfl #[.int .u8 97, .int .u8 98] 5)
  refine h_callE 19 24 #[.slice (some ⟨W.heap.size, 0, none⟩) 2 2] (fun v w' => v = SV sAB ∧ S w') rfl (by kernel_rfl) (by kernel_rfl) (x_call1 _ _ _ _ _ _ _ _ _ _ rfl rfl (enters_of Tryd.func24 (by kernel_rfl) rfl) _) ((of_any [97, 98] (by decide) _ _ 2 hof (by decide)).mono fun e w' h => ⟨_, h.1, rfl, hSg _ _ hS2 h.2⟩) (fun v w' h => h.2) ?_
  clear hof hS2
  rintro v3 W3 ⟨rfl, hS3⟩
  simp only [Act.put, List.setIfInBounds_toArray, List.set_cons_succ, List.set_cons_zero]
  refine h_take 20 (.bool true) rfl (by kernel_rfl) (by kernel_rfl) (by kernel_rfl) (by kernel_rfl) (fun w hw => by rw [show true = (sAB == sAB) from by simp]; exact x_eqSet _ _ _ _ _ _ _ _ _ _ rfl rfl w) hS3 ?_
  simp only [Act.put, List.setIfInBounds_toArray, List.set_cons_succ, List.set_cons_zero]
  refine h_take 21 (.bool true) rfl (by kernel_rfl) (by kernel_rfl) (by kernel_rfl) (by kernel_rfl) (fun w hw => x_pick _ _ _ _ _ _ _ _ _ true _ _ rfl rfl rfl w) hS3 ?_
  simp only [Act.put, List.setIfInBounds_toArray, List.set_cons_succ, List.set_cons_zero]
  refine h_take 22 (.bool true) rfl (by kernel_rfl) (by kernel_rfl) (by kernel_rfl) (by kernel_rfl) (fun w hw => x_move _ _ _ _ _ _ _ _ rfl w) hS3 ?_
  simp only [Act.put, List.setIfInBounds_toArray, List.set_cons_succ, List.set_cons_zero]
  refine h_take 24 (PT ab) rfl (by kernel_rfl) (by kernel_rfl) (by kernel_rfl) (by kernel_rfl) (fun w hw => x_move _ _ _ _ _ _ _ _ rfl w) hS3 ?_
  simp only [Act.put, List.setIfInBounds_toArray, List.set_cons_succ, List.set_cons_zero]
  refine h_take 27 (PT ab) rfl (by kernel_rfl) (by kernel_rfl) (by kernel_rfl) (by kernel_rfl) (fun w hw => x_move _ _ _ _ _ _ _ _ rfl w) hS3 ?_
  simp only [Act.put, List.setIfInBounds_toArray, List.set_cons_succ, List.set_cons_zero]
  refine h_callE 23 61 #[] (fun v w' => ∃ eb, v = PT eb ∧ ReAt w' eb rEmpty ∧ S w') rfl (by kernel_rfl) (by kernel_rfl) (x_call0 _ _ _ _ _ _ _ rfl (enters_of Tryd.func61 (by kernel_rfl) rfl) _) ((empty_re _).mono fun e w' ⟨c, h1, h2, h3⟩ => ⟨_, h1, c, rfl, h2, hSg _ _ hS3 h3⟩) (fun v w' ⟨_, _, _, h⟩ => h) ?_
  rintro v4 W4 ⟨eb, rfl, he, hS4⟩
  simp only [Act.put, List.setIfInBounds_toArray, List.set_cons_succ, List.set_cons_zero]
  have hb5 := (Below.refl W4.heap.size W4).alloc (Nat.le_refl _) (.cells #[PT eb, PT ab] 58)
  have hS5 := hSg _ _ hS4 hb5
  refine h_alloc 25 (.slice (some ⟨W4.heap.size, 0, none⟩) 2 2) (W4.alloc (.cells #[PT eb, PT ab] 58)) rfl (by kernel_rfl) (by kernel_rfl) (x_buildP2 _ _ _ _ _ _ _ _ _ _ rfl rfl _) hS5 ?_
  simp only [Act.put, List.setIfInBounds_toArray, List.set_cons_succ, List.set_cons_zero]
  refine h_callE 26 49 #[.slice (some ⟨W4.heap.size, 0, none⟩) 2 2] (fun v w' => ∃ tb, v = PT tb ∧ ReAt w' tb (rOne sA) ∧ S w') rfl (by kernel_rfl) (by kernel_rfl) (x_call1 _ _ _ _ _ _ _ _ _ _ rfl rfl (enters_of Tryd.func49 (by kernel_rfl) rfl) _) ((then_any [rEmpty, rOne sA] _ _ (resRow_two (Blk.newAt rfl #[PT eb, PT ab] 58) (he.keep hb5) ((hSa _ hS4).keep hb5)) (fun r hr => by simp at hr; rcases hr with rfl | rfl; exact wf_empty; exact wf_one _) (by simp) (by have := head3_c; omega)).mono fun e w' ⟨c, h1, h2, h3⟩ => ⟨_, h1, c, rfl, by rw [head3_t] at h2; exact h2, hSg _ _ hS5 h3⟩) (fun v w' ⟨_, _, _, h⟩ => h) ?_
  rintro v6 W6 ⟨tb, rfl, ht, hS6⟩
  simp only [Act.put, List.setIfInBounds_toArray, List.set_cons_succ, List.set_cons_zero]
  refine h_callE 28 45 #[PT tb, PT ab] (fun v w' => v = .bool true ∧ S w') rfl (by kernel_rfl) (by kernel_rfl) (x_call2 _ _ _ _ _ _ _ _ _ _ _ _ _ rfl rfl rfl (enters_of Tryd.func45 (by kernel_rfl) rfl) _) ((same_re _ _ tb ab W6 (wf_one _).k (wf_one _).k ht (hSa _ hS6) (hSt _ hS6)).mono fun e w' h => ⟨_, h.1, by rw [lexN_self]; rfl, hSg _ _ hS6 h.2.below⟩) (fun v w' h => h.2) ?_
  rintro v7 W7 ⟨rfl, hS7⟩
  simp only [Act.put, List.setIfInBounds_toArray, List.set_cons_succ, List.set_cons_zero]
  refine h_take 29 (.bool true) rfl (by kernel_rfl) (by kernel_rfl) (by kernel_rfl) (by kernel_rfl) (fun w hw => x_pick _ _ _ _ _ _ _ _ _ true _ _ rfl rfl rfl w) hS7 ?_
  simp only [Act.put, List.setIfInBounds_toArray, List.set_cons_succ, List.set_cons_zero]
  refine h_take 30 (.bool true) rfl (by kernel_rfl) (by kernel_rfl) (by kernel_rfl) (by kernel_rfl) (fun w hw => x_move _ _ _ _ _ _ _ _ rfl w) hS7 ?_
  simp only [Act.put, List.setIfInBounds_toArray, List.set_cons_succ, List.set_cons_zero]
  refine h_take 31 (PT ab) rfl (by kernel_rfl) (by kernel_rfl) (by kernel_rfl) (by kernel_rfl) (fun w hw => x_move _ _ _ _ _ _ _ _ rfl w) hS7 ?_
  simp only [Act.put, List.setIfInBounds_toArray, List.set_cons_succ, List.set_cons_zero]
  refine h_take 33 (PT xb) rfl (by kernel_rfl) (by kernel_rfl) (by kernel_rfl) (by kernel_rfl) (fun w hw => x_move _ _ _ _ _ _ _ _ rfl w) hS7 ?_
  simp only [Act.put, List.setIfInBounds_toArray, List.set_cons_succ, List.set_cons_zero]
  refine h_callE 32 43 #[PT ab] (fun v w' => v = .string (strB (rOne sA).key) ∧ S w') rfl (by kernel_rfl) (by kernel_rfl) (x_call1 _ _ _ _ _ _ _ _ _ _ rfl rfl (enters_of Tryd.func43 (by kernel_rfl) rfl) _) ((key_any _ ab W7 (wf_one _).k (hSa _ hS7) (by have := key_one_len sA; omega) (hSt _ hS7)).mono fun e w' h => ⟨_, h.1, rfl, hSg _ _ hS7 h.2⟩) (fun v w' h => h.2) ?_
  rintro v8 W8 ⟨rfl, hS8⟩
  simp only [Act.put, List.setIfInBounds_toArray, List.set_cons_succ, List.set_cons_zero]
  refine h_callE 34 43 #[PT xb] (fun v w' => v = .string (strB (rOne sAB).key) ∧ S w') rfl (by kernel_rfl) (by kernel_rfl) (x_call1 _ _ _ _ _ _ _ _ _ _ rfl rfl (enters_of Tryd.func43 (by kernel_rfl) rfl) _) ((key_any _ xb W8 (wf_one _).k (hSx _ hS8) (by have := key_one_len sAB; omega) (hSt _ hS8)).mono fun e w' h => ⟨_, h.1, rfl, hSg _ _ hS8 h.2⟩) (fun v w' h => h.2) ?_
  rintro v9 W9 ⟨rfl, hS9⟩
  simp only [Act.put, List.setIfInBounds_toArray, List.set_cons_succ, List.set_cons_zero]
  have hne : strB (rOne sA).key ≠ strB (rOne sAB).key := fun e => head3_ne (key_inj (wf_one _).k (wf_one _).k (strB_inj (key_lt256 _ (wf_one _).k) (key_lt256 _ (wf_one _).k) e))
  refine h_take 35 (.bool true) rfl (by kernel_rfl) (by kernel_rfl) (by kernel_rfl) (by kernel_rfl) (fun w hw => x_neqStr _ _ _ _ _ _ _ _ _ _ hne rfl rfl w) hS9 ?_
  simp only [Act.put, List.setIfInBounds_toArray, List.set_cons_succ, List.set_cons_zero]
  refine h_take 36 (.bool true) rfl (by kernel_rfl) (by kernel_rfl) (by kernel_rfl) (by kernel_rfl) (fun w hw => x_pick _ _ _ _ _ _ _ _ _ true _ _ rfl rfl rfl w) hS9 ?_
  simp only [Act.put, List.setIfInBounds_toArray, List.set_cons_succ, List.set_cons_zero]
  refine h_take 37 (.bool true) rfl (by kernel_rfl) (by kernel_rfl) (by kernel_rfl) (by kernel_rfl) (fun w hw => x_assign _ _ _ _ _ _ _ _ rfl w) hS9 ?_
  simp only [Act.put, List.setIfInBounds_toArray, List.set_cons_succ, List.set_cons_zero]
  refine wpAnyH_done (by kernel_rfl) ?_ _
  refine NoPanic.normal ?_
  have HB9 := hide (HB6.out.trans ((hSb _ hS9).mono HB6.out.size))
  clear hS hS3 hS4 hS5 hS6 hS7 hS8 hS9 hSb hbS hSg hSa hSx hSt hne ht he hb5
  go_wp2
  go_ret
  exact ⟨rfl, HB9.out⟩
end Go.Proofs.YtfoamihjmmgnlaaDoor
