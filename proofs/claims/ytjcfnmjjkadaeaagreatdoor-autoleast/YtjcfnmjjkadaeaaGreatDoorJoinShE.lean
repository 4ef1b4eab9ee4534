/- Texts of this claim put together: ShE. -/
import Derived.Test.YtjcfnmjjkadaeaaGreatDoorJoinShD
/- A row of pointers that grows while what they point at is made: behind its end it holds nil alone. -/
namespace Go.Proofs.YtjcfnmjjkadaeaaGreatDoor
set_option maxRecDepth 100000
set_option linter.unusedSimpArgs false
set_option linter.unusedVariables false
open Go.RowKit

/-- What reads no nil cell of block g stays, where all else stays. -/
theorem ReAt.past [Forb] {W W' : World} {g b : Nat} {r : RE} {c c' : Array Value} (h : ReAt W b r) (hs : W.heap.size ≤ W'.heap.size) (hk : ∀ k, k < W.heap.size → k ≠ g → W'.heap[k]? = W.heap[k]?)
    (hg : Blk W g c 30) (hg' : Blk W' g c' 30) (hc : ∀ (j : Nat) (u : Value), c[j]? = some u → u ≠ .pointer none → c'[j]? = some u) : ReAt W' b r := by
  induction h with
  | mk b o s ks v bs blk row kid ih =>
    have hne : b ≠ g := by
      rintro rfl
      have e := blk.of_cells.symm.trans hg.of_cells
      injection e with e; injection e with _ e2
      exact absurd e2 (by decide)
    refine .mk b o s ks v bs ((hk b blk.lt hne).trans blk) ?_ ih
    obtain ⟨h1, a, cap, rfl, h2⟩ := row
    refine ⟨⟨h1.1, h1.2.keep hs⟩, a, cap, rfl, fun k hk' => ?_⟩
    obtain ⟨b', off, e, hlt, hcell⟩ := h2 k hk'
    refine ⟨b', off, e, Nat.lt_of_lt_of_le hlt hs, ?_⟩
    by_cases e' : b' = g
    · subst e'
      rw [hg.cell] at hcell
      rw [hg'.cell]
      exact hc _ _ hcell (by simp [PT])
    · rw [← hcell]
      exact World.cell?_of_block (w := W) (hk b' hlt e')

structure OwnZ (W : World) (base : Nat) (v : Value) (ps : List (Nat × RE)) : Prop where
  own : ∃ g cap cur, v = .slice (some ⟨g, 0, none⟩) ps.length cap ∧ base ≤ g ∧ Blk W g cur 30 ∧ ps.length ≤ cap ∧ cap ≤ maxLen ∧ cur.toList = ptrs ps ++ List.replicate (cap - ps.length) (.pointer none)
theorem ptrs_length (ps : List (Nat × RE)) : (ptrs ps).length = ps.length := by simp [ptrs]
theorem OwnZ.start {W : World} {base g : Nat} (hg : Blk W g #[] 30) (hb : base ≤ g) : OwnZ W base (.slice (some ⟨g, 0, none⟩) 0 0) [] :=
  ⟨g, 0, #[], rfl, hb, hg, by simp, by unfold maxLen; omega, rfl⟩
theorem OwnZ.keep {W W' : World} {base : Nat} {v : Value} {ps : List (Nat × RE)} (h : OwnZ W base v ps) (hb : Below W.heap.size W W') : OwnZ W' base v ps := by
  obtain ⟨g, cap, cur, e, h1, h2, h3⟩ := h.own
  exact ⟨g, cap, cur, e, h1, h2.below hb h2.lt, h3⟩
theorem OwnZ.row [Forb] {W : World} {base : Nat} {v : Value} {ps : List (Nat × RE)} (h : OwnZ W base v ps) (hf : FL base) (hl : ps.length ≤ 4611686018427387904) : RowAt W v ps := by
  obtain ⟨g, cap, cur, rfl, h1, h2, h3, h4, h5⟩ := h.own
  refine ⟨⟨hl, .new h3 (hf.mono (Nat.le_trans h1 (Nat.le_of_lt h2.lt))) hf h1⟩, _, cap, rfl, fun j p hp => ⟨g, 0, rfl, h2.lt, ?_⟩⟩
  have hj : j < ps.length := (List.getElem?_eq_some_iff.1 hp).1
  rw [h2.cell, Nat.zero_add, ← Array.getElem?_toList, h5, List.getElem?_append_left (by rw [ptrs_length]; exact hj), ptrs, List.getElem?_map, hp]; rfl
/-- append of one pointer. -/
theorem run_appendZ [Forb] {W : World} {base : Nat} {v : Value} {ps : List (Nat × RE)} (h : OwnZ W base v ps) (ty : TypeId) (sb b : Nat) (r : RE) (hs : Blk W sb #[PT b] 30) (hl : ps.length ≤ 1000000) (hbase : base ≤ W.heap.size) :
    ∃ v' W', (Builtin.append_ #[59, 59] ty #[v, .slice (some ⟨sb, 0, none⟩) 1 1]).run Tryz.prog W = .ok v' W' ∧ OwnZ W' base v' (ps ++ [(b, r)]) ∧ Below base W W' ∧ ∀ b' r', ReAt W b' r' → ReAt W' b' r' := by
  obtain ⟨i, hi, hz0, hz1, hz2⟩ := info_parts infoP
  obtain ⟨g, cap, cur, rfl, hbg, hg, hn, hcap, hcur⟩ := h.own
  have hnews := World.news_of_block hs
  have hpp : ptrs (ps ++ [(b, r)]) = ptrs ps ++ [PT b] := by simp [ptrs]
  have hpl := ptrs_length ps
  by_cases hroom : ps.length + 1 ≤ cap
  · have hcs : cur.size = cap := by rw [← Array.length_toList, hcur]; simp [hpl]; omega
    have hfit : ps.length * i.size + [PT b].length ≤ cur.size := by rw [hcs, hz1]; simp; omega
    have hr := run_append_room (P := Tryz.prog) W 59 ty 30 i Tryz.underlying59 hi g ps.length cap cur hg ⟨sb, 0, none⟩ 1 1 [PT b] (by rw [hz1]; rfl) hnews (by intro u hu; simp at hu; subst hu; rfl) hroom hfit
    rw [hz1, Nat.mul_one] at hr
    obtain ⟨c', hc'⟩ : ∃ c' : Array Value, c' = (cur.toList.take ps.length ++ [PT b] ++ cur.toList.drop (ps.length + [PT b].length)).toArray := ⟨_, rfl⟩
    rw [← hc'] at hr
    have hblk' : Blk (W.setRow g c') g c' 30 := setRow_heap W g cur _ 30 _ hg
    have hother : ∀ k, k ≠ g → (W.setRow g c').heap[k]? = W.heap[k]? := fun k hk => setRow_other W g k _ hk
    have hsz : (W.setRow g c').heap.size = W.heap.size := by simp
    have htake : cur.toList.take ps.length = ptrs ps := by rw [hcur, ← hpl]; exact List.take_left
    have hdrop : cur.toList.drop (ps.length + 1) = List.replicate (cap - (ps.length + 1)) (.pointer none) := by
      rw [hcur, List.drop_append, List.drop_eq_nil_of_le (by rw [hpl]; omega), hpl, List.nil_append, List.drop_replicate]
      congr 1
      omega
    refine ⟨_, _, hr, ⟨g, cap, c', by simp, hbg, hblk', by simpa using hroom, hcap, ?_⟩, ⟨rfl, rfl, rfl, by rw [hsz]; exact Nat.le_refl _, fun k hk => hother k (by omega)⟩, fun b' r' hr' => hr'.past (g := g) (by rw [hsz]; exact Nat.le_refl _) (fun k _ hk => hother k hk) hg hblk' ?_⟩
    · rw [hc', hpp]
      simp only [List.length_append, List.length_cons, List.length_nil]
      rw [htake, hdrop]
    · intro j u hj hu
      have hj' : cur.toList[j]? = some u := by rw [Array.getElem?_toList]; exact hj
      have hjl : j < ps.length := by
        rw [hcur] at hj'
        rcases Nat.lt_or_ge j ps.length with h | h
        · exact h
        · exfalso
          rw [List.getElem?_append_right (by rw [hpl]; exact h), List.getElem?_replicate] at hj'
          split at hj'
          · injection hj' with e; exact hu e.symm
          · cases hj'
      rw [hc', ← Array.getElem?_toList, List.append_assoc, List.getElem?_append_left (by rw [htake, hpl]; exact hjl), List.getElem?_take, if_pos hjl]
      exact hj'
  · have hce : cap = ps.length := by omega
    have holds : ∀ j u, (ptrs ps)[j]? = some u → W.cell? ((⟨g, 0, none⟩ : Addr).add j) = some u := fun j u hu => by
      rw [Go.WideShapes.add_plain, Nat.zero_add, hg.cell, ← Array.getElem?_toList, hcur, List.getElem?_append_left (List.getElem?_eq_some_iff.1 hu).1]
      exact hu
    have hr := run_append_grow (P := Tryz.prog) W 59 ty 30 i (.pointer none) Tryz.underlying59 hi hz0 ⟨g, 0, none⟩ ps.length cap (ptrs ps) (by rw [hz1, hpl]; omega) holds ⟨sb, 0, none⟩ 1 1 [PT b] (by rw [hz1]; rfl) hnews (by omega) (by omega) (by rw [hz2]; exact growslice_fits (by omega) (by omega))
    have hge := grownCap_ge W (ps.length + 1) cap 30
    have hcm : grownCap W (ps.length + 1) cap 30 ≤ maxLen := grownCap_le_maxLen W (ps.length + 1) cap _ (by unfold maxLen; omega)
    obtain ⟨W', hW'⟩ : ∃ W', W' = W.drew.alloc (.cells ((ptrs ps).toArray ++ [PT b].toArray ++ Builtin.zeroCells (Value.pointer none).cells (grownCap W (ps.length + 1) cap 30 - (ps.length + 1))) 30) := ⟨_, rfl⟩
    rw [← hW'] at hr
    have hbel : Below W.heap.size W W' := by rw [hW']; exact ⟨rfl, rfl, rfl, by simp, fun k hk => heap_alloc_old W.drew _ hk⟩
    have hblk : Blk W' W.heap.size ((ptrs ps).toArray ++ [PT b].toArray ++ Builtin.zeroCells (Value.pointer none).cells (grownCap W (ps.length + 1) cap 30 - (ps.length + 1))) 30 := by rw [hW']; exact heap_alloc_new W.drew _
    refine ⟨_, _, hr, ⟨W.heap.size, _, _, by simp, hbase, hblk, by simpa using hge, hcm, ?_⟩, hbel.mono hbase, fun b' r' hr' => hr'.keep hbel⟩
    rw [hpp]
    simp only [Array.toList_append, List.append_assoc, List.length_append, List.length_cons, List.length_nil]
    congr 2
    simp [Builtin.zeroCells, Value.cells]
    apply List.ext_getElem
    · simp
    · intro j h1 h2
      simp [Nat.mod_one]

theorem nodes_kid {o : Int} {l u : Nat} {t : ByteArray} {ks : List SHP} {k : SHP} (hk : k ∈ ks) : k.nodes + 1 ≤ (SHP.mk o l u t ks).nodes := by
  rw [SHP.nodes_mk]
  have : k.nodes ≤ (ks.map SHP.nodes).sum := by
    induction ks with
    | nil => simp at hk
    | cons x ks ih =>
      rw [List.map_cons, List.sum_cons]
      rcases List.mem_cons.1 hk with rfl | hk
      · omega
      · have := ih hk; omega
  omega
theorem kids_len (ks : List SHP) : ks.length ≤ (ks.map SHP.nodes).sum := by
  induction ks with
  | nil => simp
  | cons x ks ih =>
    rw [List.map_cons, List.sum_cons]
    have : 1 ≤ x.nodes := by cases x; rw [SHP.nodes_mk]; omega
    simp; omega
/-- Expressions of a few short shapes: bounds that the calls want. -/
theorem res_bounds (ks : List SHP) (ht : ∀ k ∈ ks, Tx k) (hn : (ks.map SHP.nodes).sum ≤ 1000) : ks.length ≤ 1000 ∧ (catL (ks.map SHP.re)).length ≤ 22000 ∧ (flatL 4 (ks.map SHP.re)).length ≤ 22000 ∧ (flatL 6 (ks.map SHP.re)).length ≤ 22000 := by
  have h0 := kids_len ks
  have h1 : cntL (ks.map SHP.re) ≤ 22 * (ks.map SHP.nodes).sum := by
    clear h0 hn
    induction ks with
    | nil => simp [cntL]
    | cons x ks ih =>
      have e1 := x.cnt (ht x (by simp))
      have e2 := ih (fun k hk => ht k (by simp [hk]))
      rw [List.map_cons, cntL_cons, List.map_cons, List.sum_cons]
      omega
  have a1 := cntL_len (catL (ks.map SHP.re)); have a2 := cntL_catL (ks.map SHP.re)
  have b1 := cntL_len (flatL 4 (ks.map SHP.re)); have b2 := cntL_flatL 4 (ks.map SHP.re)
  have c1 := cntL_len (flatL 6 (ks.map SHP.re)); have c2 := cntL_flatL 6 (ks.map SHP.re)
  omega

/-- What Make keeps. -/
structure MkW [Forb] (w : World) (B : Nat) (c : Array Value) (out : Value) (ps : List (Nat × RE)) (W : World) : Prop where
  own : OwnZ W (B + 1) out ps
  elem : ∀ p ∈ ps, ReAt W p.1 p.2
  box : Blk W B c 24
  below : Below B w W
theorem MkW.step [Forb] {w W W' : World} {B : Nat} {c : Array Value} {out : Value} {ps : List (Nat × RE)} (h : MkW w B c out ps W) (hb : Below W.heap.size W W') : MkW w B c out ps W' :=
  ⟨h.own.keep hb, fun p hp => (h.elem p hp).keep hb, h.box.below hb h.box.lt, h.below.trans (hb.mono (by have := h.box.lt; omega))⟩
theorem MkW.append [Forb] {w W : World} {B : Nat} {c : Array Value} {out : Value} {ps : List (Nat × RE)} (h : MkW w B c out ps W) (ty : TypeId) (sb b : Nat) (r : RE) (hs : Blk W sb #[PT b] 30) (hr : ReAt W b r) (hl : ps.length ≤ 1000000) :
    ∃ v' W', (Builtin.append_ #[59, 59] ty #[out, .slice (some ⟨sb, 0, none⟩) 1 1]).run Tryz.prog W = .ok v' W' ∧ MkW w B c v' (ps ++ [(b, r)]) W' := by
  obtain ⟨v', W', h1, h2, h3, h4⟩ := run_appendZ h.own ty sb b r hs hl (by have := h.box.lt; omega)
  refine ⟨v', W', h1, h2, fun p hp => ?_, h.box.below h3 (by omega), h.below.trans (h3.mono (by omega))⟩
  rcases List.mem_append.1 hp with hp | hp
  · exact h4 _ _ (h.elem p hp)
  · simp at hp; subst hp; exact h4 _ _ hr
theorem OwnZ.slice {W : World} {base : Nat} {v : Value} {ps : List (Nat × RE)} (h : OwnZ W base v ps) : ∃ g cap, v = .slice (some ⟨g, 0, none⟩) ps.length cap := by
  obtain ⟨g, cap, cur, rfl, -⟩ := h.own
  exact ⟨g, cap, rfl⟩

theorem wf_getD {l : List RE} (h : ∀ r ∈ l, Wf r) (i : Nat) : Wf (l.getD i rNothing) := by
  by_cases hi : i < l.length
  · rw [show l.getD i rNothing = l[i] from by simp [List.getD_eq_getElem?_getD, hi]]; exact h _ (List.getElem_mem hi)
  · rw [show l.getD i rNothing = rNothing from by simp [List.getD_eq_getElem?_getD, hi]]; exact wf_nothing

set_option maxHeartbeats 4000000 in
theorem make_any (s : SHP) : ∀ (cs : List Value) (w : World), ShC w cs s → Tx s → s.nodes ≤ 30 → TabAt w →
    Calls Tryz.prog 11 #[ShVal cs] w fun e w' => ∃ b, e = .returned (PT b) ∧ ReAt w' b s.re ∧ Below w.heap.size w w' := by
  refine SHP.ind (P := fun s => ∀ (cs : List Value) (w : World), ShC w cs s → Tx s → s.nodes ≤ 30 → TabAt w →
    Calls Tryz.prog 11 #[ShVal cs] w fun e w' => ∃ b, e = .returned (PT b) ∧ ReAt w' b s.re ∧ Below w.heap.size w w') ?_ s
  intro o l u t ks ih cs w h htx hnd hT
  have hkt : ∀ k ∈ ks, Tx k := by cases htx; assumption
  have ht20 : t.size ≤ 20 := by cases htx; assumption
  have hkn : ∀ k ∈ ks, k.nodes ≤ 30 := fun k hk => by have := nodes_kid (o := o) (l := l) (u := u) (t := t) hk; omega
  have hsum : (ks.map SHP.nodes).sum ≤ 1000 := by rw [SHP.nodes_mk] at hnd; omega
  obtain ⟨hb0, hb3, hb4, hb6⟩ := res_bounds ks hkt hsum
  have hC := h
  obtain ⟨v, rfl, hrow, ho, hlo, hhi, -⟩ := h.open
  simp only [SHP.op, SHP.lo, SHP.hi, SHP.text, SHP.kids] at hrow ho hlo hhi hC ⊢
  obtain ⟨-, a, cap, rfl, -⟩ := hrow.at
  obtain ⟨res, hres⟩ : ∃ res, res = (SHP.mk o l u t ks).re := ⟨_, rfl⟩
  rw [← hres]
  rw [SHP.re_mk] at hres
  have HRES := hide hres
  have HR := hide hrow
  have HC := hide hC
  have HT := hide hT
  clear h hrow hC hT hres htx hnd hsum
  obtain ⟨B, hB⟩ : ∃ B, B = w.heap.size := ⟨_, rfl⟩
  have HB := hide hB
  unfold ShVal
  go_enter Tryz.func11, Tryz.ntmps11
  go_wp2
  have hM0 : MkW w B #[.int .i64 o, .int .u8 l, .int .u8 u, .string t, .slice a ks.length cap] (.slice (some ⟨B + 1, 0, none⟩) 0 0) [] ((w.alloc (.cells #[.int .i64 o, .int .u8 l, .int .u8 u, .string t, .slice a ks.length cap] 24)).alloc (.cells #[] 30)) :=
    ⟨OwnZ.start (Blk.newAt (by simp [hB]) _ _) (Nat.le_refl _), fun p hp => by simp at hp, (Blk.newAt hB _ _).alloc _, ((Below.refl B w).alloc (Nat.le_of_eq hB) _).alloc (by simp; omega) _⟩
  rw [← hB]
  clear hB
  go_loopw [3, 14] (fun out c wr => ∃ (k : Nat) (ps : List (Nat × RE)), k ≤ ks.length ∧ c = .int .i64 k ∧ Hid (ps.length = k) ∧ Hid (ps.map Prod.snd = (ks.take k).map SHP.re) ∧ Hid (MkW w B #[.int .i64 o, .int .u8 l, .int .u8 u, .string t, .slice a ks.length cap] out ps wr)) (fun _ c _ => ks.length - (intOf c).toNat)
  case atStart => exact ⟨0, [], by omega, rfl, rfl, rfl, hM0⟩
  case round =>
    clear hM0
    obtain ⟨k, ps, hk, rfl, HL, HS, HM⟩ := hrel
    obtain ⟨-, a', cap', e1, g1⟩ := (HR.out.keep (show Below w.heap.size w wr from HB.out ▸ HM.out.below)).at
    obtain ⟨rfl, rfl⟩ : a = a' ∧ cap = cap' := by cases e1; exact ⟨rfl, rfl⟩
    clear e1
    have hTW : TabAt wr := HT.out.agree (Agree.of_all (K := fun _ => True) (HB.out ▸ HM.out.below)) trivial
    by_cases hlt : k < ks.length
    · have hkd : decide (k < ks.length) = true := by simp [hlt]
      obtain ⟨b, off, kv, rfl, -, ⟨c0, c1, c2, c3, c4⟩, hC⟩ := g1 k hlt
      have hb1 := (Below.refl wr.heap.size wr).alloc (Nat.le_refl _) (.cells #[.int .i64 ks[k].op, .int .u8 ks[k].lo, .int .u8 ks[k].hi, .string ks[k].text, kv] 24)
      have hmem := List.getElem_mem hlt
      have hrec := ih _ hmem _ _ (hC.keep hb1) (hkt _ hmem) (hkn _ hmem) (hTW.agree (Agree.of_all (K := fun _ => True) hb1) trivial)
      have HTK := hide (show ks.take (k + 1) = ks.take k ++ [ks[k]] from List.take_succ_eq_append_getElem hlt)
      obtain ⟨-, kf, kcap, hkv, -⟩ : True ∧ ∃ a c, kv = .slice a (ks[k]).kids.length c ∧ True := by
        obtain ⟨v', e', hr', -⟩ := hC.open
        obtain ⟨-, a', c', e'', -⟩ := hr'.at
        have : kv = v' := by simpa using e'
        exact ⟨trivial, a', c', this.trans e'', trivial⟩
      have HREC := hide hrec
      have HM1 := hide (HM.out.step hb1)
      have hps1000 : ps.length ≤ 1000000 := by rw [HL.out]; omega
      subst hkv
      generalize hks : ks[k] = sk at *
      clear hrec hC g1 hb1 hmem
      unfold ShVal at HREC
      go_wp2_with fail
      refine HREC.out.mono ?_
      rintro e w2 ⟨kb, rfl, hkr, hb2⟩
      have HM2 := hide (HM1.out.step hb2)
      have hb3 := (Below.refl w2.heap.size w2).alloc (Nat.le_refl _) (.cells #[PT kb] 30)
      obtain ⟨v3, W3, hr3, hM3⟩ := (HM2.out.step hb3).append 59 w2.heap.size kb sk.re (Blk.newAt rfl _ _) (hkr.keep hb3) hps1000
      have HM3 := hide hM3
      obtain ⟨g3, cp3, rfl⟩ := hM3.own.slice
      obtain ⟨g2, cp2, hu⟩ := HM.out.own.slice
      subst hu
      unfold PT at hr3 ⊢
      clear hkr hb2 hb3 hM3 HREC HM1 c0 c1 c2 c3 c4
      go_wp2_with (refine wpList_append_run rfl _ _ _ rfl _ _ _ rfl rfl hr3 ?_)
      refine ⟨⟨k + 1, ps ++ [(kb, sk.re)], by omega, by go_num, ?_, ?_, ?_⟩, by simp [intOf]; omega⟩
      · show (ps ++ [_]).length = k + 1
        rw [List.length_append, HL.out]; rfl
      · show (ps ++ [_]).map Prod.snd = _
        rw [HTK.out, List.map_append, List.map_append, HS.out]; rfl
      · have h3 := HM3.out
        rw [show (ps ++ [(kb, sk.re)]).length = ps.length + 1 from by simp] at h3
        exact h3
    · obtain rfl : k = ks.length := by omega
      rw [List.take_length] at HS
      clear g1
      have hlp := HL.out
      have hrow := (HM.out.own.row (FL.none _) (by omega)).res HM.out.elem
      rw [HS.out] at hrow
      have HROW := hide hrow
      have hwf : ∀ r ∈ ks.map SHP.re, Wf r := fun r hr => by
        obtain ⟨x, -, rfl⟩ := List.mem_map.1 hr
        exact x.wf
      have hlm : (ks.map SHP.re).length ≤ 1000 := by simpa using hb0
      have hsB : B ≤ wr.heap.size := by have := HM.out.box.lt; omega
      obtain ⟨g2, cp2, hu⟩ := HM.out.own.slice
      rw [hlp] at hu
      subst hu
      have hkv : (SHP.mk o l u t ks).k < 9 := by unfold SHP.k; omega
      generalize hkk : (SHP.mk o l u t ks).k = kk at *
      clear hrow hTW hlp HL HS ih hkt hkn
      by_cases hz0 : 0 < ks.length
      · have hd0 : decide ((0 : Int) < ks.length) = true := decide_eq_true (by omega)
        by_cases hz1 : 1 < ks.length
        · have hd1 : decide ((1 : Int) < ks.length) = true := decide_eq_true (by omega)
          have hd1' : decide (1 < ks.length) = true := by simp [hz1]
          go_wp2_with fail
          refine (nothing_any _ (FL.none _)).mono ?_
          rintro e w2 ⟨nb, rfl, hnb, hb2⟩
          have HM2 := hide (HM.out.step hb2)
          have HN2 := hide hnb
          have HROW2 := hide (HROW.out.below hb2)
          clear hnb hb2
          obtain ⟨-, aq, cq, eq, gq⟩ := HROW2.out.at
          obtain ⟨qb, qo, p0, qe, -, d0, r0⟩ := gq 0 (by rw [List.length_map]; omega)
          have hqq : qb = g2 ∧ qo = 0 := by injection eq with e1 e2 e3; rw [← e1] at qe; injection qe with qe; injection qe with q1 q2; exact ⟨q1.symm, q2.symm⟩
          obtain ⟨rfl, rfl⟩ := hqq
          have H10 := hide r0
          unfold PT at d0
          rw [Nat.add_zero] at d0
          have hl0 : 0 < ks.length := by omega
          clear eq gq qe r0
          unfold PT
          go_wp2_with fail
          refine (nothing_any _ (FL.none _)).mono ?_
          rintro e w4 ⟨nb2, rfl, hnb2, hb4⟩
          have HM4 := hide (HM2.out.step hb4)
          have HROW4 := hide (HROW2.out.below hb4)
          have hone : (ks.map SHP.re).getD 0 rNothing = (ks.map SHP.re)[0]'(by rw [List.length_map]; omega) := by rw [List.getD_eq_getElem?_getD, List.getElem?_eq_getElem (by rw [List.length_map]; omega)]; rfl
          have H14 : Hid (ReAt w4 p0 ((ks.map SHP.re).getD 0 rNothing)) := by show ReAt _ _ _; rw [hone]; exact H10.out.keep hb4
          have htwo : (ks.map SHP.re).getD 1 rNothing = (ks.map SHP.re)[1]'(by rw [List.length_map]; omega) := by rw [List.getD_eq_getElem?_getD, List.getElem?_eq_getElem (by rw [List.length_map]; omega)]; rfl
          obtain ⟨-, aq, cq, eq, gq⟩ := HROW4.out.at
          obtain ⟨qb2, qo2, p1, qe, -, d1, r1⟩ := gq 1 (by rw [List.length_map]; omega)
          have hqq : qb2 = qb ∧ qo2 = 0 := by injection eq with e1 e2 e3; rw [← e1] at qe; injection qe with qe; injection qe with q1 q2; exact ⟨q1.symm, q2.symm⟩
          obtain ⟨rfl, rfl⟩ := hqq
          unfold PT at d1
          rw [Nat.zero_add] at d1
          have H24 : Hid (ReAt w4 p1 ((ks.map SHP.re).getD 1 rNothing)) := by show ReAt _ _ _; rw [htwo]; exact r1
          have hl1 : 1 < ks.length := by omega
          clear eq gq qe r1
          have hwone : WfK ((ks.map SHP.re).getD 0 rNothing) := (wf_getD hwf 0).k
          have hwtwo : WfK ((ks.map SHP.re).getD 1 rNothing) := (wf_getD hwf 1).k
          clear hone htwo hnb2 hb4 HM2 HROW2 HN2 d0 H10
          unfold PT
          have hb4s : Below w.heap.size w w4 := HB.out ▸ HM4.out.below
          have xB := HM4.out.box
          have x0 := xB.cell 0; have x1 := xB.cell 1; have x2 := xB.cell 2; have x3 := xB.cell 3; have x4 := xB.cell 4
          simp only [List.getElem?_toArray, List.getElem?_cons_zero, List.getElem?_cons_succ] at x0 x1 x2 x3 x4
          clear xB
          have hopc := op_any _ _ w4 (HC.out.keep hb4s)
          rw [hkk] at hopc
          have HOP := hide hopc
          clear hopc hb4s
          unfold ShVal at HOP
          go_wp2_with fail
          refine HOP.out.mono ?_
          rintro e w5 ⟨rfl, hb5⟩
          have HM5 := hide (HM4.out.step hb5)
          have H15 := hide (H14.out.keep hb5)
          have H25 := hide (H24.out.keep hb5)
          have HROW5 := hide (HROW4.out.below hb5)
          have hsB5 : B ≤ w5.heap.size := by have := HM5.out.box.lt; omega
          have hb5s : Below w.heap.size w w5 := HB.out ▸ HM5.out.below
          have HT5 := hide (HT.out.agree (Agree.of_all (K := fun _ => True) hb5s) trivial)
          have HC5 := hide (HC.out.keep hb5s)
          clear hb5 HM4 H14 H24 HROW4 HOP x0 x1 x2 x3 x4 hb5s
          have hkc : kk = 0 ∨ kk = 1 ∨ kk = 2 ∨ kk = 3 ∨ kk = 4 ∨ kk = 5 ∨ kk = 6 ∨ kk = 7 ∨ kk = 8 := by omega
          clear hkv
          rcases hkc with rfl | rfl | rfl | rfl | rfl | rfl | rfl | rfl | rfl
          · have HRES2 : Hid (res = rNothing) := HRES.out
            clear HRES
            go_wp2_with fail
            refine (nothing_any _ (FL.none _)).mono ?_
            rintro e w6 ⟨rb, rfl, hr, hb⟩
            go_wp2
            go_ret
            refine ⟨rb, rfl, by rw [HRES2.out]; exact hr, ?_⟩
            rw [← HB.out]
            exact HM5.out.below.trans (hb.mono hsB5)
          · have HRES2 : Hid (res = rEmpty) := HRES.out
            clear HRES
            go_wp2_with fail
            refine (empty_re _ (FL.none _)).mono ?_
            rintro e w6 ⟨rb, rfl, hr, hb⟩
            go_wp2
            go_ret
            refine ⟨rb, rfl, by rw [HRES2.out]; exact hr, ?_⟩
            rw [← HB.out]
            exact HM5.out.below.trans (hb.mono hsB5)
          · have HRES2 : Hid (res = rOne (span (97 + l % 4) (97 + u % 4 + 1))) := HRES.out
            clear HRES
            have xB := HM5.out.box
            have x0 := xB.cell 0; have x1 := xB.cell 1; have x2 := xB.cell 2; have x3 := xB.cell 3; have x4 := xB.cell 4
            simp only [List.getElem?_toArray, List.getElem?_cons_zero, List.getElem?_cons_succ] at x0 x1 x2 x3 x4
            clear xB
            have hlow := low_any _ _ w5 HC5.out
            have HLOW := hide hlow
            clear hlow
            simp only [ShVal, SHP.lo, SHP.hi] at HLOW
            go_wp2_with fail
            refine HLOW.out.mono ?_
            rintro e w6 ⟨rfl, hb6⟩
            have HB6 := hide (HM5.out.below.trans (hb6.mono hsB5))
            have hsB6 : B ≤ w6.heap.size := by have := hb6.size; omega
            clear hb6 x0 x1 x2 x3 x4 HLOW
            go_wp2_with fail
            refine (from_any (97 + l % 4) (97 + u % 4) (by omega) (by omega) _).mono ?_
            rintro e w7 ⟨rfl, hb7⟩
            have HB7 := hide (HB6.out.trans (hb7.mono hsB6))
            have hsB7 : B ≤ w7.heap.size := by have := hb7.size; omega
            clear hb7
            go_wp2_with fail
            refine (one_any _ _ (FL.none _)).mono ?_
            rintro e w8 ⟨rb, rfl, hr, hb⟩
            go_wp2
            go_ret
            refine ⟨rb, rfl, by rw [HRES2.out]; exact hr, ?_⟩
            rw [← HB.out]
            exact HB7.out.trans (hb.mono hsB7)
          · have HRES2 : Hid (res = rThen (ks.map SHP.re)) := HRES.out
            clear HRES
            go_wp2_with fail
            refine (then_any _ _ _ HROW5.out hwf (by omega) (by omega)).mono ?_
            rintro e w6 ⟨rb, rfl, hr, hb⟩
            go_wp2
            go_ret
            refine ⟨rb, rfl, by rw [HRES2.out]; exact hr, ?_⟩
            rw [← HB.out]
            exact HM5.out.below.trans (hb.mono hsB5)
          · have HRES2 : Hid (res = rAny (ks.map SHP.re)) := HRES.out
            clear HRES
            go_wp2_with fail
            refine (any_re _ _ _ HROW5.out hwf (by omega) (by omega) HT5.out).mono ?_
            rintro e w6 ⟨rb, rfl, hr, hb⟩
            go_wp2
            go_ret
            refine ⟨rb, rfl, by rw [HRES2.out]; exact hr, ?_⟩
            rw [← HB.out]
            exact HM5.out.below.trans (hb.mono hsB5)
          · have HRES2 : Hid (res = rMany ((ks.map SHP.re).getD 0 rNothing)) := HRES.out
            clear HRES
            go_wp2_with fail
            refine (many_any _ _ _ H15.out).mono ?_
            rintro e w6 ⟨rb, rfl, hr, hb⟩
            go_wp2
            go_ret
            refine ⟨rb, rfl, by rw [HRES2.out]; exact hr, ?_⟩
            rw [← HB.out]
            exact HM5.out.below.trans (hb.mono hsB5)
          · have HRES2 : Hid (res = rBoth (ks.map SHP.re)) := HRES.out
            clear HRES
            go_wp2_with fail
            refine (both_re _ _ _ HROW5.out hwf (by omega) (by omega) HT5.out).mono ?_
            rintro e w6 ⟨rb, rfl, hr, hb⟩
            go_wp2
            go_ret
            refine ⟨rb, rfl, by rw [HRES2.out]; exact hr, ?_⟩
            rw [← HB.out]
            exact HM5.out.below.trans (hb.mono hsB5)
          · have HRES2 : Hid (res = rBut ((ks.map SHP.re).getD 0 rNothing) ((ks.map SHP.re).getD 1 rNothing)) := HRES.out
            clear HRES
            go_wp2_with fail
            refine (but_any _ _ _ _ _ H15.out H25.out hwone hwtwo HT5.out).mono ?_
            rintro e w6 ⟨rb, rfl, hr, hb⟩
            go_wp2
            go_ret
            refine ⟨rb, rfl, by rw [HRES2.out]; exact hr, ?_⟩
            rw [← HB.out]
            exact HM5.out.below.trans (hb.mono hsB5)
          · have HRES2 : Hid (res = rWord (bytesN t)) := HRES.out
            clear HRES
            have xB := HM5.out.box
            have x0 := xB.cell 0; have x1 := xB.cell 1; have x2 := xB.cell 2; have x3 := xB.cell 3; have x4 := xB.cell 4
            simp only [List.getElem?_toArray, List.getElem?_cons_zero, List.getElem?_cons_succ] at x0 x1 x2 x3 x4
            clear xB
            go_wp2_with fail
            refine (word_any t _ (by omega) (FL.none _)).mono ?_
            rintro e w6 ⟨rb, rfl, hr, hb⟩
            go_wp2
            go_ret
            refine ⟨rb, rfl, by rw [HRES2.out]; exact hr, ?_⟩
            rw [← HB.out]
            exact HM5.out.below.trans (hb.mono hsB5)
        · have hd1 : decide ((1 : Int) < ks.length) = false := decide_eq_false (by omega)
          have hd1' : decide (1 < ks.length) = false := decide_eq_false (by omega)
          go_wp2_with fail
          refine (nothing_any _ (FL.none _)).mono ?_
          rintro e w2 ⟨nb, rfl, hnb, hb2⟩
          have HM2 := hide (HM.out.step hb2)
          have HN2 := hide hnb
          have HROW2 := hide (HROW.out.below hb2)
          clear hnb hb2
          obtain ⟨-, aq, cq, eq, gq⟩ := HROW2.out.at
          obtain ⟨qb, qo, p0, qe, -, d0, r0⟩ := gq 0 (by rw [List.length_map]; omega)
          have hqq : qb = g2 ∧ qo = 0 := by injection eq with e1 e2 e3; rw [← e1] at qe; injection qe with qe; injection qe with q1 q2; exact ⟨q1.symm, q2.symm⟩
          obtain ⟨rfl, rfl⟩ := hqq
          have H10 := hide r0
          unfold PT at d0
          rw [Nat.add_zero] at d0
          have hl0 : 0 < ks.length := by omega
          clear eq gq qe r0
          unfold PT
          go_wp2_with fail
          refine (nothing_any _ (FL.none _)).mono ?_
          rintro e w4 ⟨nb2, rfl, hnb2, hb4⟩
          have HM4 := hide (HM2.out.step hb4)
          have HROW4 := hide (HROW2.out.below hb4)
          have hone : (ks.map SHP.re).getD 0 rNothing = (ks.map SHP.re)[0]'(by rw [List.length_map]; omega) := by rw [List.getD_eq_getElem?_getD, List.getElem?_eq_getElem (by rw [List.length_map]; omega)]; rfl
          have H14 : Hid (ReAt w4 p0 ((ks.map SHP.re).getD 0 rNothing)) := by show ReAt _ _ _; rw [hone]; exact H10.out.keep hb4
          have htwo : (ks.map SHP.re).getD 1 rNothing = rNothing := by rw [List.getD_eq_getElem?_getD, List.getElem?_eq_none (by rw [List.length_map]; omega)]; rfl
          have H24 : Hid (ReAt w4 nb2 ((ks.map SHP.re).getD 1 rNothing)) := by show ReAt _ _ _; rw [htwo]; exact hnb2
          have hwone : WfK ((ks.map SHP.re).getD 0 rNothing) := (wf_getD hwf 0).k
          have hwtwo : WfK ((ks.map SHP.re).getD 1 rNothing) := (wf_getD hwf 1).k
          clear hone htwo hnb2 hb4 HM2 HROW2 HN2 d0 H10
          unfold PT
          have hb4s : Below w.heap.size w w4 := HB.out ▸ HM4.out.below
          have xB := HM4.out.box
          have x0 := xB.cell 0; have x1 := xB.cell 1; have x2 := xB.cell 2; have x3 := xB.cell 3; have x4 := xB.cell 4
          simp only [List.getElem?_toArray, List.getElem?_cons_zero, List.getElem?_cons_succ] at x0 x1 x2 x3 x4
          clear xB
          have hopc := op_any _ _ w4 (HC.out.keep hb4s)
          rw [hkk] at hopc
          have HOP := hide hopc
          clear hopc hb4s
          unfold ShVal at HOP
          go_wp2_with fail
          refine HOP.out.mono ?_
          rintro e w5 ⟨rfl, hb5⟩
          have HM5 := hide (HM4.out.step hb5)
          have H15 := hide (H14.out.keep hb5)
          have H25 := hide (H24.out.keep hb5)
          have HROW5 := hide (HROW4.out.below hb5)
          have hsB5 : B ≤ w5.heap.size := by have := HM5.out.box.lt; omega
          have hb5s : Below w.heap.size w w5 := HB.out ▸ HM5.out.below
          have HT5 := hide (HT.out.agree (Agree.of_all (K := fun _ => True) hb5s) trivial)
          have HC5 := hide (HC.out.keep hb5s)
          clear hb5 HM4 H14 H24 HROW4 HOP x0 x1 x2 x3 x4 hb5s
          have hkc : kk = 0 ∨ kk = 1 ∨ kk = 2 ∨ kk = 3 ∨ kk = 4 ∨ kk = 5 ∨ kk = 6 ∨ kk = 7 ∨ kk = 8 := by omega
          clear hkv
          rcases hkc with rfl | rfl | rfl | rfl | rfl | rfl | rfl | rfl | rfl
          · have HRES2 : Hid (res = rNothing) := HRES.out
            clear HRES
            go_wp2_with fail
            refine (nothing_any _ (FL.none _)).mono ?_
            rintro e w6 ⟨rb, rfl, hr, hb⟩
            go_wp2
            go_ret
            refine ⟨rb, rfl, by rw [HRES2.out]; exact hr, ?_⟩
            rw [← HB.out]
            exact HM5.out.below.trans (hb.mono hsB5)
          · have HRES2 : Hid (res = rEmpty) := HRES.out
            clear HRES
            go_wp2_with fail
            refine (empty_re _ (FL.none _)).mono ?_
            rintro e w6 ⟨rb, rfl, hr, hb⟩
            go_wp2
            go_ret
            refine ⟨rb, rfl, by rw [HRES2.out]; exact hr, ?_⟩
            rw [← HB.out]
            exact HM5.out.below.trans (hb.mono hsB5)
          · have HRES2 : Hid (res = rOne (span (97 + l % 4) (97 + u % 4 + 1))) := HRES.out
            clear HRES
            have xB := HM5.out.box
            have x0 := xB.cell 0; have x1 := xB.cell 1; have x2 := xB.cell 2; have x3 := xB.cell 3; have x4 := xB.cell 4
            simp only [List.getElem?_toArray, List.getElem?_cons_zero, List.getElem?_cons_succ] at x0 x1 x2 x3 x4
            clear xB
            have hlow := low_any _ _ w5 HC5.out
            have HLOW := hide hlow
            clear hlow
            simp only [ShVal, SHP.lo, SHP.hi] at HLOW
            go_wp2_with fail
            refine HLOW.out.mono ?_
            rintro e w6 ⟨rfl, hb6⟩
            have HB6 := hide (HM5.out.below.trans (hb6.mono hsB5))
            have hsB6 : B ≤ w6.heap.size := by have := hb6.size; omega
            clear hb6 x0 x1 x2 x3 x4 HLOW
            go_wp2_with fail
            refine (from_any (97 + l % 4) (97 + u % 4) (by omega) (by omega) _).mono ?_
            rintro e w7 ⟨rfl, hb7⟩
            have HB7 := hide (HB6.out.trans (hb7.mono hsB6))
            have hsB7 : B ≤ w7.heap.size := by have := hb7.size; omega
            clear hb7
            go_wp2_with fail
            refine (one_any _ _ (FL.none _)).mono ?_
            rintro e w8 ⟨rb, rfl, hr, hb⟩
            go_wp2
            go_ret
            refine ⟨rb, rfl, by rw [HRES2.out]; exact hr, ?_⟩
            rw [← HB.out]
            exact HB7.out.trans (hb.mono hsB7)
          · have HRES2 : Hid (res = rThen (ks.map SHP.re)) := HRES.out
            clear HRES
            go_wp2_with fail
            refine (then_any _ _ _ HROW5.out hwf (by omega) (by omega)).mono ?_
            rintro e w6 ⟨rb, rfl, hr, hb⟩
            go_wp2
            go_ret
            refine ⟨rb, rfl, by rw [HRES2.out]; exact hr, ?_⟩
            rw [← HB.out]
            exact HM5.out.below.trans (hb.mono hsB5)
          · have HRES2 : Hid (res = rAny (ks.map SHP.re)) := HRES.out
            clear HRES
            go_wp2_with fail
            refine (any_re _ _ _ HROW5.out hwf (by omega) (by omega) HT5.out).mono ?_
            rintro e w6 ⟨rb, rfl, hr, hb⟩
            go_wp2
            go_ret
            refine ⟨rb, rfl, by rw [HRES2.out]; exact hr, ?_⟩
            rw [← HB.out]
            exact HM5.out.below.trans (hb.mono hsB5)
          · have HRES2 : Hid (res = rMany ((ks.map SHP.re).getD 0 rNothing)) := HRES.out
            clear HRES
            go_wp2_with fail
            refine (many_any _ _ _ H15.out).mono ?_
            rintro e w6 ⟨rb, rfl, hr, hb⟩
            go_wp2
            go_ret
            refine ⟨rb, rfl, by rw [HRES2.out]; exact hr, ?_⟩
            rw [← HB.out]
            exact HM5.out.below.trans (hb.mono hsB5)
          · have HRES2 : Hid (res = rBoth (ks.map SHP.re)) := HRES.out
            clear HRES
            go_wp2_with fail
            refine (both_re _ _ _ HROW5.out hwf (by omega) (by omega) HT5.out).mono ?_
            rintro e w6 ⟨rb, rfl, hr, hb⟩
            go_wp2
            go_ret
            refine ⟨rb, rfl, by rw [HRES2.out]; exact hr, ?_⟩
            rw [← HB.out]
            exact HM5.out.below.trans (hb.mono hsB5)
          · have HRES2 : Hid (res = rBut ((ks.map SHP.re).getD 0 rNothing) ((ks.map SHP.re).getD 1 rNothing)) := HRES.out
            clear HRES
            go_wp2_with fail
            refine (but_any _ _ _ _ _ H15.out H25.out hwone hwtwo HT5.out).mono ?_
            rintro e w6 ⟨rb, rfl, hr, hb⟩
            go_wp2
            go_ret
            refine ⟨rb, rfl, by rw [HRES2.out]; exact hr, ?_⟩
            rw [← HB.out]
            exact HM5.out.below.trans (hb.mono hsB5)
          · have HRES2 : Hid (res = rWord (bytesN t)) := HRES.out
            clear HRES
            have xB := HM5.out.box
            have x0 := xB.cell 0; have x1 := xB.cell 1; have x2 := xB.cell 2; have x3 := xB.cell 3; have x4 := xB.cell 4
            simp only [List.getElem?_toArray, List.getElem?_cons_zero, List.getElem?_cons_succ] at x0 x1 x2 x3 x4
            clear xB
            go_wp2_with fail
            refine (word_any t _ (by omega) (FL.none _)).mono ?_
            rintro e w6 ⟨rb, rfl, hr, hb⟩
            go_wp2
            go_ret
            refine ⟨rb, rfl, by rw [HRES2.out]; exact hr, ?_⟩
            rw [← HB.out]
            exact HM5.out.below.trans (hb.mono hsB5)
      · have hd0 : decide ((0 : Int) < ks.length) = false := decide_eq_false (by omega)
        have hd1 : decide ((1 : Int) < ks.length) = false := decide_eq_false (by omega)
        have hd0' : decide (0 < ks.length) = false := decide_eq_false (by omega)
        have hd1' : decide (1 < ks.length) = false := decide_eq_false (by omega)
        go_wp2_with fail
        refine (nothing_any _ (FL.none _)).mono ?_
        rintro e w2 ⟨nb, rfl, hnb, hb2⟩
        have HM2 := hide (HM.out.step hb2)
        have HN2 := hide hnb
        have HROW2 := hide (HROW.out.below hb2)
        clear hnb hb2
        unfold PT
        go_wp2_with fail
        refine (nothing_any _ (FL.none _)).mono ?_
        rintro e w4 ⟨nb2, rfl, hnb2, hb4⟩
        have HM4 := hide (HM2.out.step hb4)
        have HROW4 := hide (HROW2.out.below hb4)
        have hone : (ks.map SHP.re).getD 0 rNothing = rNothing := by rw [List.getD_eq_getElem?_getD, List.getElem?_eq_none (by rw [List.length_map]; omega)]; rfl
        have H14 : Hid (ReAt w4 nb ((ks.map SHP.re).getD 0 rNothing)) := by show ReAt _ _ _; rw [hone]; exact HN2.out.keep hb4
        have htwo : (ks.map SHP.re).getD 1 rNothing = rNothing := by rw [List.getD_eq_getElem?_getD, List.getElem?_eq_none (by rw [List.length_map]; omega)]; rfl
        have H24 : Hid (ReAt w4 nb2 ((ks.map SHP.re).getD 1 rNothing)) := by show ReAt _ _ _; rw [htwo]; exact hnb2
        have hwone : WfK ((ks.map SHP.re).getD 0 rNothing) := (wf_getD hwf 0).k
        have hwtwo : WfK ((ks.map SHP.re).getD 1 rNothing) := (wf_getD hwf 1).k
        clear hone htwo hnb2 hb4 HM2 HROW2 HN2
        unfold PT
        have hb4s : Below w.heap.size w w4 := HB.out ▸ HM4.out.below
        have xB := HM4.out.box
        have x0 := xB.cell 0; have x1 := xB.cell 1; have x2 := xB.cell 2; have x3 := xB.cell 3; have x4 := xB.cell 4
        simp only [List.getElem?_toArray, List.getElem?_cons_zero, List.getElem?_cons_succ] at x0 x1 x2 x3 x4
        clear xB
        have hopc := op_any _ _ w4 (HC.out.keep hb4s)
        rw [hkk] at hopc
        have HOP := hide hopc
        clear hopc hb4s
        unfold ShVal at HOP
        go_wp2_with fail
        refine HOP.out.mono ?_
        rintro e w5 ⟨rfl, hb5⟩
        have HM5 := hide (HM4.out.step hb5)
        have H15 := hide (H14.out.keep hb5)
        have H25 := hide (H24.out.keep hb5)
        have HROW5 := hide (HROW4.out.below hb5)
        have hsB5 : B ≤ w5.heap.size := by have := HM5.out.box.lt; omega
        have hb5s : Below w.heap.size w w5 := HB.out ▸ HM5.out.below
        have HT5 := hide (HT.out.agree (Agree.of_all (K := fun _ => True) hb5s) trivial)
        have HC5 := hide (HC.out.keep hb5s)
        clear hb5 HM4 H14 H24 HROW4 HOP x0 x1 x2 x3 x4 hb5s
        have hkc : kk = 0 ∨ kk = 1 ∨ kk = 2 ∨ kk = 3 ∨ kk = 4 ∨ kk = 5 ∨ kk = 6 ∨ kk = 7 ∨ kk = 8 := by omega
        clear hkv
        rcases hkc with rfl | rfl | rfl | rfl | rfl | rfl | rfl | rfl | rfl
        · have HRES2 : Hid (res = rNothing) := HRES.out
          clear HRES
          go_wp2_with fail
          refine (nothing_any _ (FL.none _)).mono ?_
          rintro e w6 ⟨rb, rfl, hr, hb⟩
          go_wp2
          go_ret
          refine ⟨rb, rfl, by rw [HRES2.out]; exact hr, ?_⟩
          rw [← HB.out]
          exact HM5.out.below.trans (hb.mono hsB5)
        · have HRES2 : Hid (res = rEmpty) := HRES.out
          clear HRES
          go_wp2_with fail
          refine (empty_re _ (FL.none _)).mono ?_
          rintro e w6 ⟨rb, rfl, hr, hb⟩
          go_wp2
          go_ret
          refine ⟨rb, rfl, by rw [HRES2.out]; exact hr, ?_⟩
          rw [← HB.out]
          exact HM5.out.below.trans (hb.mono hsB5)
        · have HRES2 : Hid (res = rOne (span (97 + l % 4) (97 + u % 4 + 1))) := HRES.out
          clear HRES
          have xB := HM5.out.box
          have x0 := xB.cell 0; have x1 := xB.cell 1; have x2 := xB.cell 2; have x3 := xB.cell 3; have x4 := xB.cell 4
          simp only [List.getElem?_toArray, List.getElem?_cons_zero, List.getElem?_cons_succ] at x0 x1 x2 x3 x4
          clear xB
          have hlow := low_any _ _ w5 HC5.out
          have HLOW := hide hlow
          clear hlow
          simp only [ShVal, SHP.lo, SHP.hi] at HLOW
          go_wp2_with fail
          refine HLOW.out.mono ?_
          rintro e w6 ⟨rfl, hb6⟩
          have HB6 := hide (HM5.out.below.trans (hb6.mono hsB5))
          have hsB6 : B ≤ w6.heap.size := by have := hb6.size; omega
          clear hb6 x0 x1 x2 x3 x4 HLOW
          go_wp2_with fail
          refine (from_any (97 + l % 4) (97 + u % 4) (by omega) (by omega) _).mono ?_
          rintro e w7 ⟨rfl, hb7⟩
          have HB7 := hide (HB6.out.trans (hb7.mono hsB6))
          have hsB7 : B ≤ w7.heap.size := by have := hb7.size; omega
          clear hb7
          go_wp2_with fail
          refine (one_any _ _ (FL.none _)).mono ?_
          rintro e w8 ⟨rb, rfl, hr, hb⟩
          go_wp2
          go_ret
          refine ⟨rb, rfl, by rw [HRES2.out]; exact hr, ?_⟩
          rw [← HB.out]
          exact HB7.out.trans (hb.mono hsB7)
        · have HRES2 : Hid (res = rThen (ks.map SHP.re)) := HRES.out
          clear HRES
          go_wp2_with fail
          refine (then_any _ _ _ HROW5.out hwf (by omega) (by omega)).mono ?_
          rintro e w6 ⟨rb, rfl, hr, hb⟩
          go_wp2
          go_ret
          refine ⟨rb, rfl, by rw [HRES2.out]; exact hr, ?_⟩
          rw [← HB.out]
          exact HM5.out.below.trans (hb.mono hsB5)
        · have HRES2 : Hid (res = rAny (ks.map SHP.re)) := HRES.out
          clear HRES
          go_wp2_with fail
          refine (any_re _ _ _ HROW5.out hwf (by omega) (by omega) HT5.out).mono ?_
          rintro e w6 ⟨rb, rfl, hr, hb⟩
          go_wp2
          go_ret
          refine ⟨rb, rfl, by rw [HRES2.out]; exact hr, ?_⟩
          rw [← HB.out]
          exact HM5.out.below.trans (hb.mono hsB5)
        · have HRES2 : Hid (res = rMany ((ks.map SHP.re).getD 0 rNothing)) := HRES.out
          clear HRES
          go_wp2_with fail
          refine (many_any _ _ _ H15.out).mono ?_
          rintro e w6 ⟨rb, rfl, hr, hb⟩
          go_wp2
          go_ret
          refine ⟨rb, rfl, by rw [HRES2.out]; exact hr, ?_⟩
          rw [← HB.out]
          exact HM5.out.below.trans (hb.mono hsB5)
        · have HRES2 : Hid (res = rBoth (ks.map SHP.re)) := HRES.out
          clear HRES
          go_wp2_with fail
          refine (both_re _ _ _ HROW5.out hwf (by omega) (by omega) HT5.out).mono ?_
          rintro e w6 ⟨rb, rfl, hr, hb⟩
          go_wp2
          go_ret
          refine ⟨rb, rfl, by rw [HRES2.out]; exact hr, ?_⟩
          rw [← HB.out]
          exact HM5.out.below.trans (hb.mono hsB5)
        · have HRES2 : Hid (res = rBut ((ks.map SHP.re).getD 0 rNothing) ((ks.map SHP.re).getD 1 rNothing)) := HRES.out
          clear HRES
          go_wp2_with fail
          refine (but_any _ _ _ _ _ H15.out H25.out hwone hwtwo HT5.out).mono ?_
          rintro e w6 ⟨rb, rfl, hr, hb⟩
          go_wp2
          go_ret
          refine ⟨rb, rfl, by rw [HRES2.out]; exact hr, ?_⟩
          rw [← HB.out]
          exact HM5.out.below.trans (hb.mono hsB5)
        · have HRES2 : Hid (res = rWord (bytesN t)) := HRES.out
          clear HRES
          have xB := HM5.out.box
          have x0 := xB.cell 0; have x1 := xB.cell 1; have x2 := xB.cell 2; have x3 := xB.cell 3; have x4 := xB.cell 4
          simp only [List.getElem?_toArray, List.getElem?_cons_zero, List.getElem?_cons_succ] at x0 x1 x2 x3 x4
          clear xB
          go_wp2_with fail
          refine (word_any t _ (by omega) (FL.none _)).mono ?_
          rintro e w6 ⟨rb, rfl, hr, hb⟩
          go_wp2
          go_ret
          refine ⟨rb, rfl, by rw [HRES2.out]; exact hr, ?_⟩
          rw [← HB.out]
          exact HM5.out.below.trans (hb.mono hsB5)
end Go.Proofs.YtjcfnmjjkadaeaaGreatDoor
