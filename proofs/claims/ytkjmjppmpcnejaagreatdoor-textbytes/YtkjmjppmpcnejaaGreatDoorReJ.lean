/- inOrder, Any. -/
import Derived.Test.YtkjmjppmpcnejaaGreatDoorReI
namespace Go.Proofs.YtkjmjppmpcnejaaGreatDoor
set_option maxRecDepth 100000
set_option linter.unusedSimpArgs false
set_option linter.unusedVariables false
open Go.RowKit

theorem inOrder_any (blk cap : Nat) (ps : List (Nat × RE)) (w : World) (hT : TabAt w) (hne : blk ≠ 1) (hl : ps.length ≤ 1099511627777) (h0 : ps ≠ []) (hcap : ps.length ≤ cap) (hP : PtrsIn w blk ps) :
    Calls Tryz.prog 55 #[.slice (some ⟨blk, 0, none⟩) ps.length cap] w fun e w' => ∃ v', e = .returned v' ∧ ResRow w' v' (ordL (ps.map Prod.snd)) ∧ w'.os = w.os ∧ w'.tape = w.tape ∧ w'.output = w.output ∧ w.heap.size ≤ w'.heap.size ∧ ∀ k, k < w.heap.size → k ≠ blk → w'.heap[k]? = w.heap[k]? := by
  go_enter Tryz.func55, Tryz.ntmps55
  go_wp2_with fail
  refine (sortRe_any blk cap ps w hT hne (by omega) h0 hP).mono ?_
  rintro e w1 ⟨rfl, ps', hp, hs, hP', e1, e2, e3, hsz, hk⟩
  have hlen := hp.length_eq
  have h0' : ps' ≠ [] := fun e => h0 (by rw [e] at hp; exact hp.nil_eq.symm)
  have hT1 : TabAt w1 := fun j hj => by
    have hc := hT j hj
    rw [← hc]
    exact World.cell?_of_block (w := w) (hk _ (World.block_lt_of_cell? _ _ hc) (Ne.symm hne))
  have hcon := compact_any blk cap ps' w1 hT1 hne (by omega) h0' (by omega) hP'
  rw [hlen] at hcon
  have HP := hide hp
  have HS := hide hs
  have HP' := hide hP'
  have HK := hide hk
  have HL := hide hlen
  clear hp hs hP' hk hlen hT1
  go_wp2_with fail
  refine hcon.mono ?_
  rintro e w2 ⟨rfl, f, hW, hf⟩
  have HW := hide hW
  have HF := hide hf
  have E := hide (show w1.os = w.os ∧ w1.tape = w.tape ∧ w1.output = w.output from ⟨e1, e2, e3⟩)
  clear hcon hW hf e1 e2 e3
  go_wp2
  go_ret
  have hW := HW.out
  have hf := HF.out
  have hlen := HL.out
  refine ⟨_, rfl, ?_, hW.os.trans E.out.1, hW.tape.trans E.out.2.1, hW.output.trans E.out.2.2, Nat.le_trans hsz hW.size, fun k hk hn => (hW.other k (by omega) hn).trans (HK.out k hk hn)⟩
  have hord := cpt_ord HP.out HS.out (fun p hp => (hP.elem p hp).2) h0'
  rw [hlen] at hord
  rw [← hord]
  have hcl := cpt_len ps' ps.length
  have hrow : RowAt w2 (.slice (some ⟨blk, 0, none⟩) (cpt ps' ps.length).length cap) (cpt ps' ps.length) := by
    refine ⟨⟨by omega, .mk (by omega)⟩, _, cap, rfl, fun j p hp => ⟨blk, 0, rfl, by have := HP'.out.lt; have := hW.size; omega, ?_⟩⟩
    have hj : j < (cpt ps' ps.length).length := (List.getElem?_eq_some_iff.1 hp).1
    rw [Nat.zero_add, hW.cell j (by omega), hf j p hp]
  refine hrow.res fun p hp => ?_
  have hm := cpt_mem ps' ps.length (by omega) p hp
  exact hW.re HP'.out.lt (HP'.out.elem p hm).1

theorem wipe_old {w W : World} {g b : Nat} {r : RE} (h : ReAt w b r) (hb : Below w.heap.size w W) (hg : w.heap.size ≤ g) : ReAt (wipe W g) b r :=
  h.via (by rw [wipe_size]; exact hb.size) fun a ha => by
    have hl : a.block < w.heap.size := by
      cases e : w.cell? a with
      | none => rw [e] at ha; cases ha
      | some v => exact World.block_lt_of_cell? _ _ e
    rw [wipe_other (by omega)]
    exact hb.block _ hl
theorem wipe_leaf {W : World} {g b : Nat} {r : RE} {c : Array Value} (h : ReAt W b r) (hk : r.kids = []) (hg : Blk W g c 26) : ReAt (wipe W g) b r := by
  obtain ⟨v, hb, hrow⟩ := h.row
  have hne : b ≠ g := by
    rintro rfl
    have h1 := hb.of_cells.symm.trans hg.of_cells
    injection h1 with h1; injection h1 with _ h2
    exact absurd h2 (by decide)
  rw [r.eta] at hb ⊢
  rw [hk] at hrow hb ⊢
  obtain ⟨-, a, cap, rfl, -⟩ := hrow.at
  refine ReAt.ofRow (v := .slice a ([] : List RE).length cap) ((wipe_other hne).trans hb) ⟨fun _ => 0, ⟨⟨by simp, .mk (by simp)⟩, a, cap, rfl, fun k hk => by simp at hk⟩, fun i k hk => by simp at hk⟩

/-- What Any gathers. -/
def orKeep (l : List RE) : List RE := l.filter fun r => !(r.op == 0) && !(r.op == 2)
def orSet (l : List RE) : BitVec 256 := l.foldl (fun s r => if r.op = 2 then s ||| r.set else s) 0#256
theorem orKeep_take (l : List RE) (k : Nat) (h : k < l.length) : orKeep (l.take (k + 1)) = orKeep (l.take k) ++ (if l[k].op = 0 ∨ l[k].op = 2 then [] else [l[k]]) := by
  unfold orKeep
  rw [List.take_succ_eq_append_getElem h, List.filter_append]
  congr 1
  by_cases h0 : l[k].op = 0 <;> by_cases h2 : l[k].op = 2 <;> simp [h0, h2]
theorem orSet_take (l : List RE) (k : Nat) (h : k < l.length) : orSet (l.take (k + 1)) = if l[k].op = 2 then orSet (l.take k) ||| l[k].set else orSet (l.take k) := by
  unfold orSet
  rw [List.take_succ_eq_append_getElem h, List.foldl_append]; rfl
theorem orKeep_le (l : List RE) : (orKeep l).length ≤ l.length := List.length_filter_le _ _
def rAny (l : List RE) : RE :=
  let ks := orKeep (flatL 4 l) ++ (if orSet (flatL 4 l) = 0#256 then [] else [rOne (orSet (flatL 4 l))])
  if ks = [] then rNothing else rJoin 4 (ordL ks)

def put4 (W : World) (b : Nat) (s : BitVec 256) : World := (((W.setCell ⟨b, 0, none⟩ (.int .u64 (wd s 0))).setCell ⟨b, 1, none⟩ (.int .u64 (wd s 1))).setCell ⟨b, 2, none⟩ (.int .u64 (wd s 2))).setCell ⟨b, 3, none⟩ (.int .u64 (wd s 3))
theorem x_storeSet (ρ : Operand → Value) (d : Option Tmp) (x y : Operand) (t : TypeId) (pos : String) (af : Array Edge) (g : Option (Nat × Bool)) (b : Nat) (s u : BitVec 256) (hx : ρ x = PT b) (hy : ρ y = SV s) (w : World) (hB : Blk w b (WS u) 42) :
    (execOp ρ { dst := d, op := .store 42 x y, type := t, pos := pos, after := af, guard := g }).run Tryz.prog w = .ok .skip (put4 w b s) := by
  have c0 := hB.cell 0; have c1 := hB.cell 1; have c2 := hB.cell 2; have c3 := hB.cell 3
  have f0 := hB.frozen 0; have f1 := hB.frozen 1; have f2 := hB.frozen 2; have f3 := hB.frozen 3
  simp only [List.getElem?_toArray, List.getElem?_cons_zero, List.getElem?_cons_succ] at c0 c1 c2 c3
  simp [go_sem, hx, hy, c0, c1, c2, c3, f0, f1, f2, f3, PT, put4]
theorem put4_blk {W : World} {b : Nat} {u : BitVec 256} (h : Blk W b (WS u) 42) (s : BitVec 256) : Blk (put4 W b s) b (WS s) 42 := by
  have h4 := (((h.set 0 (.int .u64 (wd s 0))).set 1 (.int .u64 (wd s 1))).set 2 (.int .u64 (wd s 2))).set 3 (.int .u64 (wd s 3))
  unfold put4
  simpa using h4
theorem put4_other {W : World} {b k : Nat} (h : k ≠ b) (s : BitVec 256) : (put4 W b s).heap[k]? = W.heap[k]? := by
  unfold put4
  rw [Below.heap_setCell _ _ _ _ h, Below.heap_setCell _ _ _ _ h, Below.heap_setCell _ _ _ _ h, Below.heap_setCell _ _ _ _ h]
theorem put4_below {B b : Nat} {w W : World} (h : Below B w W) (hb : B ≤ b) (s : BitVec 256) : Below B w (put4 W b s) :=
  (((h.setCell hb _).setCell hb _).setCell hb _).setCell hb _
theorem OwnP.apart {W : World} {base b : Nat} {v : Value} {ps : List (Nat × RE)} {c : Array Value} (h : OwnP W base v ps) (hb : Blk W b c 42) : v.ownBlock ≠ some b := fun e => by
  rcases h.2 with ⟨rfl, -⟩ | ⟨g, cap, cur, rfl, -, hg, -⟩
  · cases e
  · simp [Value.ownBlock] at e; subst e
    have h1 := hg.symm.trans hb.of_cells
    injection h1 with h1; injection h1 with _ h2
    exact absurd h2 (by decide)
theorem OwnP.other {W W' : World} {base : Nat} {v : Value} {ps : List (Nat × RE)} (h : OwnP W base v ps) (hk : ∀ g, v.ownBlock = some g → W'.heap[g]? = W.heap[g]?) : OwnP W' base v ps := by
  refine ⟨h.1, ?_⟩
  rcases h.2 with h2 | ⟨g, cap, cur, rfl, hb, hg, h4⟩
  · exact .inl h2
  · exact .inr ⟨g, cap, cur, rfl, hb, (hk g rfl).trans hg, h4⟩
/-- An own row, as inOrder wants it. -/
theorem OwnP.ptrs {w W : World} {base : Nat} {v : Value} {ps : List (Nat × RE)} (h : OwnP W base v ps) (h0 : ps ≠ []) : ∃ g cap c, v = .slice (some ⟨g, 0, none⟩) ps.length cap ∧ base ≤ g ∧ ps.length ≤ cap ∧ Blk W g c 26 ∧ ((∀ p ∈ ps, ReAt (wipe W g) p.1 p.2 ∧ WfK p.2) → PtrsIn W g ps) := by
  have hl := List.length_pos_iff.2 h0
  rcases h.2 with ⟨-, hn⟩ | ⟨g, cap, cur, rfl, hb, hg, h1, h2, h3, h4⟩
  · omega
  · have hblk : Blk W g cur 26 := hg
    refine ⟨g, cap, cur, rfl, hb, h1, hblk, fun he => ⟨hblk.lt, fun j p hp => ⟨?_, hblk.frozen _⟩, he⟩⟩
    have hj : j < ps.length := (List.getElem?_eq_some_iff.1 hp).1
    rw [hblk.cell]
    have e : (cur.toList.take (ps.length * 1))[j]? = some (PT p.1) := by rw [h4, Go.Proofs.YtkjmjppmpcnejaaGreatDoor.ptrs, List.getElem?_map, hp]; rfl
    rw [List.getElem?_take, if_pos (by omega)] at e
    simpa using e

theorem OwnP.leaf {W W' : World} {base b : Nat} {v : Value} {ps : List (Nat × RE)} {r : RE} (h : OwnP W base v ps) (hg : W.grownBy W' v.ownBlock) (hr : ReAt W b r) (hk : r.kids = []) : ReAt W' b r := by
  obtain ⟨u, hb, hrow⟩ := hr.row
  have hne : v.ownBlock ≠ some b := fun e => by
    rcases h.2 with ⟨rfl, -⟩ | ⟨g, cap, cur, rfl, -, hg, -⟩
    · cases e
    · simp [Value.ownBlock] at e; subst e
      have h1 := hg.symm.trans hb.of_cells
      injection h1 with h1; injection h1 with _ h2
      exact absurd h2 (by decide)
  rw [r.eta] at hb ⊢
  rw [hk] at hrow hb ⊢
  obtain ⟨-, a, cap, rfl, -⟩ := hrow.at
  exact ReAt.ofRow (v := .slice a ([] : List RE).length cap) ((hg.block b hb.lt (fun e => hne e.symm)).trans hb) ⟨fun _ => 0, ⟨⟨by simp, .mk (by simp)⟩, a, cap, rfl, fun k hk => by simp at hk⟩, fun i k hk => by simp at hk⟩
theorem rOne_kids (s : BitVec 256) : (rOne s).kids = [] := by unfold rOne; split <;> rfl

/-- What Any keeps in its loop. -/
structure AnyW (w w1 : World) (B1 CB : Nat) (out : Value) (ps : List (Nat × RE)) (s : BitVec 256) (W : World) : Prop where
  own : OwnP W B1 out ps
  elem : ∀ p ∈ ps, ReAt w p.1 p.2
  box : Blk W CB (WS s) 42
  below : Below B1 w1 W
theorem AnyW.append {w w1 W W' : World} {B1 CB : Nat} {out v' : Value} {ps qs : List (Nat × RE)} {s : BitVec 256} (h : AnyW w w1 B1 CB out ps s W) (hB : B1 = w1.heap.size) (hq : ∀ p ∈ qs, ReAt w p.1 p.2)
    (hown : W'.ownsRow B1 26 1 v' (ps.length + qs.length) (ptrs ps ++ ptrs qs)) (hg : W.grownBy W' out.ownBlock) : AnyW w w1 B1 CB v' (ps ++ qs) s W' := by
  refine ⟨?_, fun p hp => ?_, ?_, below_grown h.below hg h.own (Nat.le_of_eq hB)⟩
  · unfold OwnP
    rw [List.length_append, show ptrs (ps ++ qs) = ptrs ps ++ ptrs qs from by simp [ptrs]]
    exact hown
  · rcases List.mem_append.1 hp with hp | hp
    · exact h.elem p hp
    · exact hq p hp
  · exact (hg.block CB h.box.lt (fun e => h.own.apart h.box e.symm)).trans h.box
theorem AnyW.step {w w1 W W' : World} {B1 CB : Nat} {out : Value} {ps : List (Nat × RE)} {s : BitVec 256} (h : AnyW w w1 B1 CB out ps s W) (hB : B1 = w1.heap.size) (hb : Below W.heap.size W W') : AnyW w w1 B1 CB out ps s W' :=
  ⟨h.own.keep hb, h.elem, h.box.below hb h.box.lt, h.below.trans (hb.mono (by rw [hB]; exact h.below.size))⟩
theorem AnyW.store {w w1 W : World} {B1 CB : Nat} {out : Value} {ps : List (Nat × RE)} {s : BitVec 256} (h : AnyW w w1 B1 CB out ps s W) (hC : B1 ≤ CB) (t : BitVec 256) : AnyW w w1 B1 CB out ps t (put4 W CB t) :=
  ⟨h.own.other fun g hg => put4_other (fun e => h.own.apart h.box (by rw [← e]; exact hg)) t, h.elem, put4_blk h.box t, put4_below h.below hC t⟩

set_option maxHeartbeats 2000000 in
theorem any_re (l : List RE) (v : Value) (w : World) (h : ResRow w v l) (hw : ∀ r ∈ l, Wf r) (hl : l.length ≤ 1099511627776) (hlen : (flatL 4 l).length ≤ 1099511627776) (hT : TabAt w) :
    Calls Tryz.prog 30 #[v] w fun e w' => ∃ b, e = .returned (PT b) ∧ ReAt w' b (rAny l) ∧ Below w.heap.size w w' := by
  obtain ⟨i, hi, hz0, hz1, hz2⟩ := info_parts infoP
  have hG : 1 < w.heap.size := World.block_lt_of_cell? _ _ (hT 0 (by omega))
  have HT := hide hT
  have HR := hide h
  clear hT h
  obtain ⟨fl, hfl⟩ : ∃ fl, fl = flatL 4 l := ⟨_, rfl⟩
  have hwf : ∀ r ∈ fl, Wf r := fun r hr => by
    rw [hfl] at hr
    obtain ⟨q, hq, hr⟩ := List.mem_flatMap.1 hr
    split at hr
    · exact (hw q hq).kid r hr
    · simp at hr; subst hr; exact hw _ hq
  obtain ⟨res, hres⟩ : ∃ res, res = rAny l := ⟨_, rfl⟩
  rw [← hres]
  unfold rAny at hres
  simp only [← hfl] at hres
  have HRES := hide hres
  clear hres
  rw [← hfl] at hlen
  obtain ⟨-, ad0, cap0, rfl, -⟩ := HR.out.at
  go_enter Tryz.func30, Tryz.ntmps30
  go_wp2_with fail
  refine (flat_any 4 l _ w HR.out (fun r hr e => by have := ((hw r hr).shp.or (.inl e)).1; omega) hl (by rw [← hfl]; exact hlen)).mono ?_
  rintro e w1 ⟨vf, ps0, rfl, hps, hO, hE, hb⟩
  rw [← hfl] at hps
  have hpl : ps0.length = fl.length := by rw [← hps]; simp
  have hrow1 := (hO.row (by omega)).res (fun p hp => (hE p hp).keep hb)
  rw [hps] at hrow1
  obtain ⟨-, adf, capf, rfl, -⟩ := hrow1.at
  have HROW := hide hrow1
  have HPR := hide (hO.row (by omega))
  have HPS := hide hps
  have HE0 := hide hE
  have HB := hide hb
  obtain ⟨B1, hB1⟩ : ∃ B1, B1 = w1.heap.size := ⟨_, rfl⟩
  have HB1 := hide hB1
  have hwB : w.heap.size ≤ B1 := by rw [hB1]; exact hb.size
  clear hO hE hb hrow1 hps hB1 hfl
  go_wp2_with (refine wpList_make_own _ rfl _ _ _ rfl B1 _ i _ 1 Tryz.underlying56 hi hz0 hz1 .i64 .i64 _ fl.length rfl rfl rfl (by rw [hz2]; omega) (by unfold maxLen; omega) (Nat.le_of_eq HB1.out) ?_; intro w2 ho1 hg1)
  obtain ⟨CB, hCB⟩ : ∃ CB, CB = w2.heap.size := ⟨_, rfl⟩
  rw [← hCB]
  have hBC : B1 ≤ CB := by rw [hCB, HB1.out]; exact hg1.size
  have hA0 : AnyW w w1 B1 CB (.slice (some ⟨w1.heap.size, 0, none⟩) 0 fl.length) [] 0#256 (w2.alloc (.cells #[.int .u64 0, .int .u64 0, .int .u64 0, .int .u64 0] 42)) := by
    have ho : OwnP w2 B1 (.slice (some ⟨w1.heap.size, 0, none⟩) 0 fl.length) [] := ho1
    have hbb : Below B1 w1 w2 := HB1.out ▸ grown_none hg1
    refine ⟨ho.keep ((Below.refl _ _).alloc (Nat.le_refl _) _), fun p hp => by simp at hp, ?_, hbb.alloc (by omega) _⟩
    have := Blk.newAt (w := w2) hCB (WS (0#256)) 42
    rw [← WS_zero] at this ⊢
    exact this
  clear ho1 hg1 hCB
  go_loopw [3, 14] (fun out c wr => ∃ (k : Nat) (ps : List (Nat × RE)), k ≤ fl.length ∧ c = .int .i64 k ∧ Hid (ps.map Prod.snd = orKeep (fl.take k)) ∧ Hid (AnyW w w1 B1 CB out ps (orSet (fl.take k)) wr)) (fun _ c _ => fl.length - (intOf c).toNat)
  case atStart => exact ⟨0, [], by omega, rfl, rfl, hA0⟩
  case round =>
    clear hA0
    obtain ⟨k, ps, hk, rfl, HS, HA⟩ := hrel
    have hple : ps.length ≤ k := by
      have e : ps.length = (orKeep (fl.take k)).length := by rw [← HS.out]; simp
      have := orKeep_le (fl.take k)
      simp at this; omega
    have hBW : B1 ≤ wr.heap.size := by rw [HB1.out]; exact HA.out.below.size
    by_cases hlt : k < fl.length
    · have hkd : decide (k < fl.length) = true := by simp [hlt]
      have hk0 : k < ps0.length := by omega
      obtain ⟨-, a', c', e1, g1⟩ := HPR.out.below (show Below w1.heap.size w1 wr from HB1.out ▸ HA.out.below)
      obtain ⟨rfl, rfl⟩ : adf = a' ∧ capf = c' := by injection e1 with ea el ec; exact ⟨ea, ec⟩
      obtain ⟨b1, o1, rfl, -, d1⟩ := g1 k _ (List.getElem?_eq_getElem hk0)
      have hre := HE0.out _ (List.getElem_mem hk0)
      have hflk : fl[k] = (ps0[k]).2 := by
        have h1 : (ps0.map Prod.snd)[k]? = some fl[k] := by rw [HPS.out]; exact List.getElem?_eq_getElem hlt
        rw [List.getElem?_map, List.getElem?_eq_getElem hk0] at h1
        simpa using h1.symm
      rw [← hflk] at hre
      have HTK := hide (orKeep_take fl k hlt)
      have HTS := hide (orSet_take fl k hlt)
      have hwk := hwf _ (List.getElem_mem hlt)
      generalize hp1 : (ps0[k]).1 = p1 at d1 hre
      generalize fl[k] = r at HTK HTS hre hwk
      have hbw : Below w.heap.size w wr := HB.out.trans (HA.out.below.mono hwB)
      have HR1 := hide (hre.keep hbw)
      have HR0 := hide hre
      have c0 := HR1.out.cell0
      unfold PT at d1
      clear e1 g1 hre hbw hflk hp1
      by_cases hop0 : r.op = 0
      · have ho0 : ((r.op : Int) == 0) = true := by simp [hop0]
        have HK := hide (show orKeep (fl.take (k + 1)) = orKeep (fl.take k) from by rw [HTK.out, if_pos (.inl hop0), List.append_nil])
        have HSS := hide (show orSet (fl.take (k + 1)) = orSet (fl.take k) from by rw [HTS.out, if_neg (by omega)])
        clear hop0
        go_wp2
        exact ⟨⟨k + 1, ps, by omega, by go_num, HS.out.trans HK.out.symm, (show AnyW _ _ _ _ _ _ _ _ from by rw [HSS.out]; exact HA.out)⟩, by simp [intOf]; omega⟩
      · by_cases hop2 : r.op = 2
        · have ho0 : ((r.op : Int) == 0) = false := beq_eq_false_iff_ne.2 (by omega)
          have ho2 : ((r.op : Int) == 2) = true := by simp [hop2]
          have HK := hide (show orKeep (fl.take (k + 1)) = orKeep (fl.take k) from by rw [HTK.out, if_pos (.inr hop2), List.append_nil])
          have HSS := hide (show orSet (fl.take (k + 1)) = orSet (fl.take k) ||| r.set from by rw [HTS.out, if_pos hop2])
          clear hop0 hop2
          generalize orSet (fl.take k) = cs at *
          go_wp2
          rw [show Value.pointer (some ⟨p1, 0, none⟩) = PT p1 from rfl, show Value.pointer (some ⟨CB, 0, none⟩) = PT CB from rfl]
          obtain ⟨S, hSd⟩ : ∃ S : World → Prop, S = fun W => Below B1 w1 W := ⟨_, rfl⟩
          have hSb : ∀ W, S W → Below B1 w1 W := fun W h => by rw [hSd] at h; exact h
          have hbS : ∀ W, Below B1 w1 W → S W := fun W h => by rw [hSd]; exact h
          have hSr : ∀ W, S W → ReAt W p1 r := fun W h => HR0.out.keep (HB.out.trans ((hSb W h).mono hwB))
          have hA1 : AnyW w w1 B1 CB u3 ps cs { wr with drawn := wr.drawn + 1 } := ⟨HA.out.own, HA.out.elem, HA.out.box, ⟨HA.out.below.os, HA.out.below.tape, HA.out.below.output, HA.out.below.size, HA.out.below.block⟩⟩
          have hS := hbS _ hA1.below
          clear hSd
          refine wp_region_noPanic (wp_region_held (S := S) (by kernel_rfl) ?_)
          show wpAnyH _ _ _ _ _ 7 #[false, false, false, false, false, false, false] _ _
          generalize ({ wr with drawn := wr.drawn + 1 } : World) = W at hA1 hS ⊢
          refine h_take 1 (PT p1) rfl (by kernel_rfl) (by kernel_rfl) (by kernel_rfl) rfl (fun w hw => x_move _ _ _ _ _ _ _ _ rfl w) hS ?_
          simp only [Act.put, List.setIfInBounds_toArray, List.set_cons_succ, List.set_cons_zero]
          refine h_take 2 (PT p1) rfl (by kernel_rfl) (by kernel_rfl) (by kernel_rfl) rfl (fun w hw => x_nilCheck _ _ _ _ _ _ _ _ rfl w) hS ?_
          simp only [Act.put, List.setIfInBounds_toArray, List.set_cons_succ, List.set_cons_zero]
          refine h_take 3 (.pointer (some ⟨p1, 1, none⟩)) rfl (by kernel_rfl) (by kernel_rfl) (by kernel_rfl) rfl (fun w hw => x_field1 _ _ _ _ _ _ _ _ rfl w) hS ?_
          simp only [Act.put, List.setIfInBounds_toArray, List.set_cons_succ, List.set_cons_zero]
          refine h_take 4 (SV r.set) rfl (by kernel_rfl) (by kernel_rfl) (by kernel_rfl) rfl (fun w hw => x_loadAt _ _ _ _ _ _ _ _ _ _ rfl w (hSr w hw).cellS) hS ?_
          simp only [Act.put, List.setIfInBounds_toArray, List.set_cons_succ, List.set_cons_zero]
          refine h_alloc 0 (SV cs) W rfl (by kernel_rfl) rfl (x_loadSet _ _ _ _ _ _ _ _ cs rfl W hA1.box) hS ?_
          simp only [Act.put, List.setIfInBounds_toArray, List.set_cons_succ, List.set_cons_zero]
          refine h_callE 5 57 #[SV cs, SV r.set] (fun v w' => v = SV (cs ||| r.set) ∧ Below W.heap.size W w') rfl (by kernel_rfl) rfl (x_call2 _ _ _ _ _ _ _ _ _ _ _ _ _ rfl rfl rfl (enters_of Tryz.func57 (by kernel_rfl) rfl) _) ((or_any cs r.set _).mono fun e w' h => ⟨_, h.1, rfl, h.2⟩) (fun v w' h => hbS _ (hA1.step HB1.out h.2).below) ?_
          rintro v3 W3 ⟨rfl, hb3⟩
          simp only [Act.put, List.setIfInBounds_toArray, List.set_cons_succ, List.set_cons_zero]
          have hA3 := hA1.step HB1.out hb3
          have hA4 := hA3.store hBC (cs ||| r.set)
          refine h_step 6 (put4 W3 CB (cs ||| r.set)) rfl (by kernel_rfl) rfl (x_storeSet _ _ _ _ _ _ _ _ CB _ cs rfl rfl _ hA3.box) (hbS _ hA4.below) ?_
          simp only [Act.put, List.setIfInBounds_toArray, List.set_cons_succ, List.set_cons_zero]
          refine wpAnyH_done (by kernel_rfl) ?_ _
          refine NoPanic.normal ?_
          have HA4 := hide hA4
          clear hA1 hA3 hA4 hS hSb hbS hSr hb3
          unfold PT
          go_wp2
          exact ⟨⟨k + 1, ps, by omega, by go_num, HS.out.trans HK.out.symm, (show AnyW _ _ _ _ _ _ _ _ from by rw [HSS.out]; exact HA4.out)⟩, by simp [intOf]; omega⟩
        · have ho0 : ((r.op : Int) == 0) = false := beq_eq_false_iff_ne.2 (by omega)
          have ho2 : ((r.op : Int) == 2) = false := beq_eq_false_iff_ne.2 (by omega)
          have HK := hide (show orKeep (fl.take (k + 1)) = orKeep (fl.take k) ++ [r] from by rw [HTK.out, if_neg (by omega)])
          have HSS := hide (show orSet (fl.take (k + 1)) = orSet (fl.take k) from by rw [HTS.out, if_neg (by omega)])
          clear hop0 hop2
          have HA2 := hide (HA.out.step HB1.out ((Below.refl wr.heap.size wr).alloc (Nat.le_refl _) (.cells #[PT p1] 26)))
          have hnw := World.news_of_block (Blk.newAt (w := wr) rfl #[PT p1] 26)
          go_wp2_with (refine wpList_append_lies _ rfl _ _ _ rfl B1 _ i _ 1 8 Tryz.underlying56 hi hz0 hz1 hz2 rfl (by omega) _ _ _ rfl HA2.out.own _ 1 _ (ptrs [(p1, r)]) rfl rfl hnw (ptrs_one _) (by omega) (by unfold maxLen; omega) (by omega) (by simp; omega) _ rfl ?_; intro g cap' w4 hown hgrow hat hlt4)
          refine ⟨⟨k + 1, ps ++ [(p1, r)], by omega, by go_num, ?_, ?_⟩, by simp [intOf]; omega⟩
          · show (ps ++ [(p1, r)]).map Prod.snd = _
            rw [HK.out, List.map_append, HS.out]; rfl
          · show AnyW _ _ _ _ _ _ _ _
            rw [HSS.out]
            exact HA2.out.append HB1.out (fun p hp => by simp at hp; subst hp; exact HR0.out) hown hgrow
    · obtain rfl : k = fl.length := by omega
      rw [List.take_length] at HS HA
      have hcon : Below w.heap.size w wr := HB.out.trans (HA.out.below.mono hwB)
      have c := HA.out.box
      have HCON := hide hcon
      have HEW : Hid (∀ p ∈ ps, WfK p.2) := fun p hp => (hwf p.2 (by
        have : p.2 ∈ ps.map Prod.snd := List.mem_map.2 ⟨p, hp, rfl⟩
        rw [HS.out] at this
        exact (List.mem_filter.1 this).1)).k
      generalize hcs : orSet fl = cs at *
      have c0 := c.cell 0; have c1 := c.cell 1; have c2 := c.cell 2; have c3 := c.cell 3
      simp only [List.getElem?_toArray, List.getElem?_cons_zero, List.getElem?_cons_succ] at c0 c1 c2 c3
      clear hcon c
      go_wp2_with fail
      refine (empty_any cs _).mono ?_
      rintro e w5 ⟨rfl, hb5⟩
      have HA5 := hide (HA.out.step HB1.out hb5)
      have HC5 := hide (HCON.out.trans (hb5.mono HCON.out.size))
      clear hb5 HA HCON c0 c1 c2 c3
      by_cases he : cs = 0#256
      · rw [show (cs == 0#256) = true from by simp [he]]
        have HRE := hide (show res = if orKeep fl = [] then rNothing else rJoin 4 (ordL (orKeep fl)) from by have := HRES.out; rw [if_pos he, List.append_nil] at this; exact this)
        clear he HRES
        obtain ⟨ado, lno, capo, hu⟩ : ∃ a n c, u3 = .slice a n c := by
          rcases HA5.out.own.2 with ⟨rfl, -⟩ | ⟨g, cap, cur, rfl, -⟩ <;> exact ⟨_, _, _, rfl⟩
        have hln : lno = ps.length := by
          rcases HA5.out.own.2 with ⟨e, hn⟩ | ⟨g, cap, cur, e, -⟩
          · rw [hu] at e; injection e with _ e _; rw [e, hn]
          · rw [hu] at e; injection e
        subst hu hln
        by_cases h0 : ps.length = 0
        · have h0d : ((ps.length : Int) == 0) = true := by simp [h0]
          have HE0 : Hid (orKeep fl = []) := by
            show orKeep fl = []
            rw [← HS.out, List.eq_nil_of_length_eq_zero h0]; rfl
          clear h0
          go_wp2_with fail
          refine (nothing_any _).mono ?_
          rintro e w6 ⟨b, rfl, h1, h2⟩
          go_wp2
          go_ret
          refine ⟨b, rfl, ?_, HC5.out.trans (h2.mono HC5.out.size)⟩
          rw [HRE.out, if_pos HE0.out]; exact h1
        · have h0d : ((ps.length : Int) == 0) = false := beq_eq_false_iff_ne.2 (by omega)
          have h0' : ps ≠ [] := fun e => h0 (by rw [e]; rfl)
          have HE0 : Hid (¬ orKeep fl = []) := fun e => h0' (by have := HS.out; rw [e] at this; exact List.map_eq_nil_iff.1 this)
          obtain ⟨g, cap', c, hv, hg, hcap, hblk, hmk⟩ := HA5.out.own.ptrs (w := w) h0'
          injection hv with hv1 _ hv3
          subst hv1 hv3
          have hP := hmk fun p hp => ⟨wipe_old (HA5.out.elem p hp) HC5.out (by omega), HEW.out p hp⟩
          have hino := inOrder_any g capo ps w5 (HT.out.agree (Agree.of_all (K := fun _ => True) HC5.out) trivial) (by omega) (by omega) h0' hcap hP
          clear hmk h0
          go_wp2_with fail
          refine hino.mono ?_
          rintro e w6 ⟨v', rfl, hr6, e1, e2, e3, hs6, hk6⟩
          have HC6 := hide (show Below w.heap.size w w6 from ⟨e1.trans HC5.out.os, e2.trans HC5.out.tape, e3.trans HC5.out.output, Nat.le_trans HC5.out.size hs6, fun k hk => (hk6 k (by have := HC5.out.size; omega) (by omega)).trans (HC5.out.block k hk)⟩)
          rw [HS.out] at hr6
          have HR6 := hide hr6
          clear hr6 e1 e2 e3 hs6 hk6 hino hP
          go_wp2_with fail
          refine (join_any 4 _ _ _ (by omega) (by omega) HR6.out).mono ?_
          rintro e w7 ⟨b, rfl, h1, h2⟩
          go_wp2
          go_ret
          refine ⟨b, rfl, ?_, HC6.out.trans (h2.mono HC6.out.size)⟩
          rw [HRE.out, if_neg HE0.out]; exact h1
      · rw [show (cs == 0#256) = false from by simp [he]]
        have HRE := hide (show res = rJoin 4 (ordL (orKeep fl ++ [rOne cs])) from by have := HRES.out; rw [if_neg he, if_neg (by simp)] at this; exact this)
        have HCE := hide he
        clear he HRES
        have c := HA5.out.box
        have c0 := c.cell 0; have c1 := c.cell 1; have c2 := c.cell 2; have c3 := c.cell 3
        simp only [List.getElem?_toArray, List.getElem?_cons_zero, List.getElem?_cons_succ] at c0 c1 c2 c3
        clear c
        go_wp2_with fail
        refine (one_any cs _).mono ?_
        rintro e w6 ⟨ob, rfl, h6, hb6⟩
        have HA6 := hide (HA5.out.step HB1.out hb6)
        have HC6 := hide (HC5.out.trans (hb6.mono HC5.out.size))
        have H6 := hide h6
        clear h6 hb6 HA5 HC5 c0 c1 c2 c3
        have HA7 := hide (HA6.out.step HB1.out ((Below.refl w6.heap.size w6).alloc (Nat.le_refl _) (.cells #[PT ob] 26)))
        have HC7 := hide (HC6.out.alloc HC6.out.size (.cells #[PT ob] 26))
        have H7 := hide (H6.out.keep ((Below.refl w6.heap.size w6).alloc (Nat.le_refl _) (.cells #[PT ob] 26)))
        have hnw := World.news_of_block (Blk.newAt (w := w6) rfl #[PT ob] 26)
        have hB6 : B1 ≤ w6.heap.size := by rw [HB1.out]; exact HA6.out.below.size
        have hne1 : ((ps.length : Int) + 1 == 0) = false := beq_eq_false_iff_ne.2 (by omega)
        unfold PT
        go_wp2_with (refine wpList_append_lies _ rfl _ _ _ rfl B1 _ i _ 1 8 Tryz.underlying56 hi hz0 hz1 hz2 rfl (by omega) _ _ _ rfl HA7.out.own _ 1 _ (ptrs [(ob, rOne cs)]) rfl rfl hnw (ptrs_one _) (by omega) (by unfold maxLen; omega) (by omega) (by simp; omega) _ rfl ?_; intro g cap' w8 hown hgrow hat hlt8)
        have hO8 : OwnP w8 B1 (.slice (some ⟨g, 0, none⟩) (ps.length + 1) cap') (ps ++ [(ob, rOne cs)]) := by
          unfold OwnP
          rw [List.length_append, show ptrs (ps ++ [(ob, rOne cs)]) = ptrs ps ++ ptrs [(ob, rOne cs)] from by simp [ptrs]]
          exact hown
        have hC8 : Below w.heap.size w w8 := by
          have hb8 := below_grown HA7.out.below hgrow HA7.out.own (Nat.le_of_eq HB1.out)
          exact HB.out.trans (hb8.mono hwB)
        have hr8 : ReAt w8 ob (rOne cs) := HA7.out.own.leaf hgrow H7.out (rOne_kids cs)
        obtain ⟨g', cap'', c, hv, hg, hcap, hblk, hmk⟩ := hO8.ptrs (w := w) (by simp)
        have hgg : g = g' ∧ cap' = cap'' := by
          injection hv with h1 h2 h3
          injection h1 with h1
          injection h1 with h1
          exact ⟨h1, h3⟩
        obtain ⟨rfl, rfl⟩ := hgg
        clear hv
        have hP := hmk fun p hp => by
          rcases List.mem_append.1 hp with hp | hp
          · exact ⟨wipe_old (HA7.out.elem p hp) hC8 (by omega), HEW.out p hp⟩
          · simp at hp; subst hp
            exact ⟨wipe_leaf hr8 (rOne_kids cs) hblk, (wf_one cs).k⟩
        have hino := inOrder_any g cap' (ps ++ [(ob, rOne cs)]) w8 (HT.out.agree (Agree.of_all (K := fun _ => True) hC8) trivial) (by omega) (by simp; omega) (by simp) hcap hP
        rw [List.length_append] at hino
        have HC8 := hide hC8
        clear hmk hO8 hC8 hr8 hown hgrow hat hne1 hcap hblk hnw HA6 HC6 H6 HA7 HC7 H7 hlt8
        refine hino.mono ?_
        rintro e w9 ⟨v', rfl, hr9, e1, e2, e3, hs9, hk9⟩
        have HC9 := hide (show Below w.heap.size w w9 from ⟨e1.trans HC8.out.os, e2.trans HC8.out.tape, e3.trans HC8.out.output, Nat.le_trans HC8.out.size hs9, fun k hk => (hk9 k (by have := HC8.out.size; omega) (by omega)).trans (HC8.out.block k hk)⟩)
        rw [List.map_append, HS.out] at hr9
        have HR9 := hide hr9
        clear hr9 e1 e2 e3 hs9 hk9 hino hP
        go_wp2_with fail
        refine (join_any 4 _ _ _ (by omega) (by omega) HR9.out).mono ?_
        rintro e w10 ⟨b, rfl, h1, h2⟩
        go_wp2
        go_ret
        refine ⟨b, rfl, ?_, HC9.out.trans (h2.mono HC9.out.size)⟩
        rw [HRE.out]; exact h1
end Go.Proofs.YtkjmjppmpcnejaaGreatDoor
