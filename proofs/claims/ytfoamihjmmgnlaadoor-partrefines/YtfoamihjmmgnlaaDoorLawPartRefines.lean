/- PartRefines: the parts are apart, all bytes together, in order; two bytes are in one just where no set parts them. -/
import Derived.Test.YtfoamihjmmgnlaaDoorLawPartIndexes
import Derived.Test.YtfoamihjmmgnlaaDoorMathPart2
import Derived.Test.YtfoamihjmmgnlaaDoorQuiet3
namespace Go.Proofs.YtfoamihjmmgnlaaDoor
set_option maxRecDepth 100000
open Go.RowKit

theorem x_idxN (ρ : Operand → Value) (d : Option Tmp) (x y : Operand) (t : TypeId) (pos : String) (af : Array Edge) (g : Option (Nat × Bool)) (b n : Nat) (hx : ρ x = .pointer (some ⟨b, 0, none⟩)) (hy : ρ y = .int .i64 n) (h1 : n < 256) (w : World) :
    (execOp ρ { dst := d, op := .indexAddr 49 x y, type := t, pos := pos, after := af, guard := g }).run Tryd.prog w = .ok (.value (.pointer (some ⟨b, n, none⟩))) w := by
  have hi : ¬ (256 : Int) ≤ n := by omega
  simp [go_sem, hx, hy, hi]
theorem x_loadU8 (ρ : Operand → Value) (d : Option Tmp) (x : Operand) (t : TypeId) (pos : String) (af : Array Edge) (g : Option (Nat × Bool)) (b n : Nat) (v : Int) (hx : ρ x = .pointer (some ⟨b, n, none⟩)) (w : World) (hc : w.cell? ⟨b, n, none⟩ = some (.int .u8 v)) :
    (execOp ρ { dst := d, op := .load 5 x, type := t, pos := pos, after := af, guard := g }).run Tryd.prog w = .ok (.value (.int .u8 v)) w := by
  simp [go_sem, hx, hc]

/-- What PartRefines keeps. -/
structure PR (pl : List (BitVec 256)) (k N : Nat) (wI W : World) : Prop where
  at0 : W.rangeAt N 0 (nArr (idxF pl pl.length)).toList
  all : Blk W (N + 1) (WS (orL (pl.take k))) 24
  below : Below N wI W
theorem PR.step {pl : List (BitVec 256)} {k N : Nat} {wI W W' : World} (h : PR pl k N wI W) (hb : Below W.heap.size W W') : PR pl k N wI W' :=
  ⟨range_below h.at0 hb (by have := h.all.lt; omega), h.all.below hb h.all.lt, h.below.trans (hb.mono (by have := h.all.lt; omega))⟩
theorem PR.at_cell {pl : List (BitVec 256)} {k N : Nat} {wI W : World} (h : PR pl k N wI W) (j : Nat) (hj : j < 256) : W.cell? ⟨N, j, none⟩ = some (.int .u8 (idxF pl pl.length j)) := by
  have := h.at0 j (.int .u8 (idxF pl pl.length j)) (by have := nArr_get (idxF pl pl.length) j hj; simpa using this)
  rwa [Nat.zero_add] at this
structure PR2 (pl : List (BitVec 256)) (k N : Nat) (p : BitVec 256) (pb : Nat) (wI W : World) : Prop where
  r : PR pl k N wI W
  p0 : Blk W pb (WS p) 24
theorem PR2.step {pl : List (BitVec 256)} {k N : Nat} {p : BitVec 256} {pb : Nat} {wI W W' : World} (h : PR2 pl k N p pb wI W) (hb : Below W.heap.size W W') : PR2 pl k N p pb wI W' := ⟨h.r.step hb, h.p0.below hb h.p0.lt⟩
theorem PR2.drew {pl : List (BitVec 256)} {k N : Nat} {p : BitVec 256} {pb : Nat} {wI W : World} (h : PR2 pl k N p pb wI W) : PR2 pl k N p pb wI { W with drawn := W.drawn + 1 } :=
  ⟨⟨h.r.at0, h.r.all, ⟨h.r.below.os, h.r.below.tape, h.r.below.output, h.r.below.size, h.r.below.block⟩⟩, h.p0⟩
/-- The least byte of the part before. -/
def lastOf (pl : List (BitVec 256)) : Nat → Int
  | 0 => -1
  | k + 1 => least (pl.getD k 0)
theorem last_lt {pl : List (BitVec 256)} (hr : pl.Pairwise fun x y => least x < least y) (k : Nat) (hk : k < pl.length) : lastOf pl k < least (pl.getD k 0) ∧ -1 ≤ lastOf pl k := by
  cases k with
  | zero => simp [lastOf]; omega
  | succ k =>
    have := List.pairwise_iff_getElem.1 hr k (k + 1) (by omega) hk (by omega)
    simp only [lastOf, List.getD_eq_getElem?_getD, List.getElem?_eq_getElem hk, List.getElem?_eq_getElem (show k < pl.length by omega), Option.getD_some]
    omega

theorem x_neqSet (ρ : Operand → Value) (d : Option Tmp) (x y : Operand) (t : TypeId) (pos : String) (af : Array Edge) (g : Option (Nat × Bool)) (u v : BitVec 256) (hx : ρ x = SV u) (hy : ρ y = SV v) (w : World) :
    (execOp ρ { dst := d, op := .binOp .neq 24 x y 24, type := t, pos := pos, after := af, guard := g }).run Tryd.prog w = .ok (.value (.bool (u != v))) w := by
  have h := eqSV u v
  simp [go_sem, hx, hy, h, bne]
theorem x_eqU8 (ρ : Operand → Value) (d : Option Tmp) (x y : Operand) (t : TypeId) (pos : String) (af : Array Edge) (g : Option (Nat × Bool)) (u v : Int) (hx : ρ x = .int .u8 u) (hy : ρ y = .int .u8 v) (w : World) :
    (execOp ρ { dst := d, op := .binOp .eql 5 x y 5, type := t, pos := pos, after := af, guard := g }).run Tryd.prog w = .ok (.value (.bool (u == v))) w := by
  simp [go_sem, hx, hy]
def clsB (l : List (BitVec 256)) (a b : Nat) : Bool := l.all fun s => s.getLsbD a == s.getLsbD b
theorem clsB_iff (l : List (BitVec 256)) (a b : Nat) : clsB l a b = true ↔ cls l a b := by simp [clsB, cls]
theorem clsB_succ (l : List (BitVec 256)) (q : Nat) (h : q < l.length) (a b : Nat) : clsB (l.take (q + 1)) a b = (clsB (l.take q) a b && ((l.getD q 0).getLsbD a == (l.getD q 0).getLsbD b)) := by
  unfold clsB
  rw [List.take_succ_eq_append_getElem h, List.all_append]
  simp [List.getD_eq_getElem?_getD, h]
theorem PR.drew {pl : List (BitVec 256)} {k N : Nat} {wI W : World} (h : PR pl k N wI W) : PR pl k N wI { W with drawn := W.drawn + 1 } :=
  ⟨h.at0, h.all, ⟨h.below.os, h.below.tape, h.below.output, h.below.size, h.below.block⟩⟩
theorem IsPart.idx_lt {l pl : List (BitVec 256)} (h : IsPart l pl) {b : Nat} (hb : b < 256) : idxF pl pl.length b < pl.length := by
  obtain ⟨i, hi, hib⟩ := h.some_at hb
  rw [(h.idx hb hi).2 hib]; exact hi
theorem PR2.store {pl : List (BitVec 256)} {k N : Nat} {p : BitVec 256} {pb : Nat} {wI W : World} (h : PR2 pl k N p pb wI W) (hk : k < pl.length) (hp : p = pl.getD k 0) (hpb : N + 1 < pb) :
    PR2 pl (k + 1) N p pb wI ((((W.setCell ⟨N + 1, 0, none⟩ (.int .u64 (wd (orL (pl.take k) ||| p) 0))).setCell ⟨N + 1, 1, none⟩ (.int .u64 (wd (orL (pl.take k) ||| p) 1))).setCell ⟨N + 1, 2, none⟩ (.int .u64 (wd (orL (pl.take k) ||| p) 2))).setCell ⟨N + 1, 3, none⟩ (.int .u64 (wd (orL (pl.take k) ||| p) 3))) := by
  have e : orL (pl.take (k + 1)) = orL (pl.take k) ||| p := by
    have hpl : p = pl[k] := by rw [hp]; simp [List.getD_eq_getElem?_getD, hk]
    unfold orL
    rw [List.take_succ_eq_append_getElem hk, List.foldl_append, hpl]; rfl
  refine ⟨⟨fun j v hv => ?_, ?_, (((h.r.below.setCell (by simp) _).setCell (by simp) _).setCell (by simp) _).setCell (by simp) _⟩, (((h.p0.setOther _ _ (by simp; omega)).setOther _ _ (by simp; omega)).setOther _ _ (by simp; omega)).setOther _ _ (by simp; omega)⟩
  · rw [← h.r.at0 j v hv]
    refine World.cell?_of_block (w := W) ?_
    rw [Below.heap_setCell _ _ _ _ (by simp), Below.heap_setCell _ _ _ _ (by simp), Below.heap_setCell _ _ _ _ (by simp), Below.heap_setCell _ _ _ _ (by simp)]
  · have h4 := (((h.r.all.set 0 (.int .u64 (wd (orL (pl.take k) ||| p) 0))).set 1 (.int .u64 (wd (orL (pl.take k) ||| p) 1))).set 2 (.int .u64 (wd (orL (pl.take k) ||| p) 2))).set 3 (.int .u64 (wd (orL (pl.take k) ||| p) 3))
    rw [e]
    simpa using h4

set_option maxRecDepth 100000 in
set_option maxHeartbeats 2000000 in
theorem partRefines_any (v : Value) (l : List (BitVec 256)) (w : World) (hv : SetsRow w v l) (hT : TabAt w) :
    Calls Tryd.prog 7 #[v] w fun e w' => e = .returned (.bool true) ∧ Below w.heap.size w w' := by
  have HV := hide hv
  have HT := hide hT
  obtain ⟨hlen, ad, cap, rfl, -⟩ := hv
  clear hT
  go_enter Tryd.func7, Tryd.ntmps7
  go_wp2_with fail
  refine (head2_any _ HT.out).mono ?_
  rintro e w1 ⟨rfl, hb⟩
  have HB1 := hide hb
  clear hb
  by_cases h8 : 8 < l.length
  · have hd : decide ((8 : Int) < l.length) = true := by simp; omega
    have hd2 : decide (8 < l.length) = true := by simp [h8]
    go_wp2
    go_ret
    exact ⟨rfl, HB1.out⟩
  · have hd2 : decide (8 < l.length) = false := by simp; omega
    go_wp2_with fail
    refine (refine_any l _ w1 (HV.out.below HB1.out) (by omega) (HT.out.agree (Agree.of_all (K := fun _ => True) HB1.out) trivial)).mono ?_
    rintro e w2 ⟨v', pl, rfl, hp, hs, hrow, hb⟩
    have HB2 := hide (HB1.out.trans (hb.mono HB1.out.size))
    have HP := hide ((isPart_ref l).perm hp)
    have HR := hide (HP.out.rising hs)
    have hpl := HP.out.length_le
    have HROW := hide hrow
    obtain ⟨-, ad2, cap2, rfl, -⟩ := hrow
    clear hb hp hs
    go_wp2_with fail
    refine (index_any pl _ w2 HROW.out hpl (HT.out.agree (Agree.of_all (K := fun _ => True) HB2.out) trivial)).mono ?_
    rintro e wI ⟨rfl, hb⟩
    have HB3 := hide (HB2.out.trans (hb.mono HB2.out.size))
    have HROW2 := hide (HROW.out.below hb)
    have HV2 := hide (HV.out.below HB3.out)
    clear hb HROW
    have hz := zeroN
    have hth : (wI.alloc (.cells (nArr fun _ => 0) 49)).there wI.heap.size 0 (nArr (idxF pl pl.length)).size := by
      have h := (Blk.newAt (w := wI) rfl (nArr fun _ => 0) 49).there
      rw [nArr_size] at h ⊢; exact h
    go_wp2_with (refine wpList_store_mid rfl 49 _ _ rfl wI.heap.size 0 (nArr (idxF pl pl.length)) rfl rfl hth (by rw [infoN, nArr_size]) (by rw [Array.all_eq_true']; intro v hv; simp [nArr] at hv; obtain ⟨i, _, rfl⟩ := hv; rfl) ?_)
    clear hz hth
    refine wp_world (fun W => PR pl 0 wI.heap.size wI W) ?_ ?_
    · have h1 := (Blk.newAt (w := wI) rfl (nArr fun _ => 0) 49)
      refine ⟨World.rangeAt_alloc (World.rangeAt_setCells_same _ _ _ _ (by have := h1.there; simpa [nArr_size] using this)) _, ?_, ?_⟩
      · have h2 := Blk.newAt (w := (wI.alloc (.cells (nArr fun _ => 0) 49)).setCells wI.heap.size 0 (nArr (idxF pl pl.length)).toList) (n := wI.heap.size + 1) (by rw [size_setCells]; simp) (WS (0#256)) 24
        rw [← WS_zero] at h2
        rw [show orL (pl.take 0) = 0#256 from rfl, ← WS_zero]
        exact h2
      · exact (below_setCells _ (Nat.le_refl _) _ _ ((Below.refl _ _).alloc (Nat.le_refl _) _)).alloc (by rw [size_setCells]; simp) _
    intro W0 hPR
    generalize hN : wI.heap.size = N at *
    go_loopw [6, 28] (fun last i wr => ∃ k : Nat, k ≤ pl.length ∧ i = .int .i64 k ∧ last = .int .i64 (lastOf pl k) ∧ PR pl k N wI wr) (fun _ i _ => pl.length - (intOf i).toNat)
    case atStart => exact ⟨0, by omega, rfl, rfl, hPR⟩
    case round =>
      clear hPR
      obtain ⟨k, hk, rfl, rfl, hPR⟩ := hrel
      by_cases hlt : k < pl.length
      · obtain ⟨-, ad', cap', hv', hc⟩ := HROW2.out.below (hN ▸ hPR.below)
        obtain ⟨rfl, rfl⟩ : ad2 = ad' ∧ cap2 = cap' := by cases hv'; exact ⟨rfl, rfl⟩
        obtain ⟨bb, off, rfl, hbb, hc⟩ := hc k hlt
        obtain ⟨p, hp⟩ : ∃ p, p = pl.getD k 0 := ⟨_, rfl⟩
        rw [← hp] at hc
        have HPK := hide hp
        have hmem : p ∈ pl := by rw [hp]; simp [List.getD_eq_getElem?_getD, hlt]
        have hne := (HP.out.mem p hmem).1
        have HLST := hide (last_lt HR.out k hlt)
        have HNX := hide (HP.out.next hlt)
        have HBE : (!(bytesOf p).isEmpty) = true := by
          obtain ⟨a, ha, hpa⟩ := has_byte hne
          have := (mem_bytes p a).2 ⟨ha, hpa⟩
          cases e : bytesOf p with
          | nil => rw [e] at this; simp at this
          | cons x r => rfl
        have HBE := hide HBE
        have c0 := hc 0 (by omega); have c1 := hc 1 (by omega); have c2 := hc 2 (by omega); have c3 := hc 3 (by omega)
        rw [Nat.add_zero] at c0
        clear hv' hp hc hmem hne
        have hkd : decide (k < pl.length) = true := by simp [hlt]
        have HPR := hide hPR
        have hzN := hPR.all.lt
        clear hPR
        go_wp2_with fail
        have hstep := HPR.out.step ((Below.refl _ _).alloc (Nat.le_refl _) (.cells (WS p) 24))
        refine (least_any p _ (HT.out.agree (Agree.of_all (K := fun _ => True) (HB3.out.trans (hstep.below.mono (by have := HB3.out.size; omega)))) trivial)).mono ?_
        rintro e w5 ⟨rfl, hb⟩
        have hPR2 : PR2 pl k N p wr.heap.size wI w5 := ⟨hstep.step hb, (Blk.newAt (w := wr) rfl (WS p) 24).below hb (by simp)⟩
        rw [show leastV (bytesOf p) = .tuple #[.int .u8 (least p), .bool (!(bytesOf p).isEmpty)] from rfl, HBE.out]
        clear hstep hb c0 c1 c2 c3
        obtain ⟨lo, hlo⟩ : ∃ lo, lo = lastOf pl k := ⟨_, rfl⟩
        obtain ⟨le, hle⟩ : ∃ le, le = least p := ⟨_, rfl⟩
        have hlt2 : lo < le ∧ -1 ≤ lo := by rw [hlo, hle, HPK.out]; exact HLST.out
        have hle2 : le < 256 := by rw [hle]; exact least_lt p
        obtain ⟨hlt3, hlt4⟩ := hlt2
        have hdl : decide ((le : Int) ≤ lo) = false := by simp; omega
        rw [← hlo, ← hle]
        have HLE := hide hle
        obtain ⟨pb, hpb⟩ : ∃ pb, pb = wr.heap.size := ⟨_, rfl⟩
        rw [← hpb] at hPR2 ⊢
        have hpbN : N + 1 < pb := by omega
        clear hlo hle hpb hzN hbb
        have HP2 := hide hPR2
        have c0 := hPR2.p0.cell 0; have c1 := hPR2.p0.cell 1; have c2 := hPR2.p0.cell 2; have c3 := hPR2.p0.cell 3
        have d0 := hPR2.r.all.cell 0; have d1 := hPR2.r.all.cell 1; have d2 := hPR2.r.all.cell 2; have d3 := hPR2.r.all.cell 3
        simp only [List.getElem?_toArray, List.getElem?_cons_zero, List.getElem?_cons_succ] at c0 c1 c2 c3 d0 d1 d2 d3
        clear hPR2
        go_wp2_with fail
        refine (and_any (orL (pl.take k)) p _).mono ?_
        rintro e w6 ⟨rfl, hb⟩
        have HP3 := hide (HP2.out.step hb)
        rw [show orL (pl.take k) &&& p = 0#256 from by rw [HPK.out]; exact HNX.out]
        clear hb c0 c1 c2 c3 d0 d1 d2 d3 HP2
        go_wp2_with fail
        refine (empty_any 0#256 _).mono ?_
        rintro e w7 ⟨rfl, hb⟩
        rw [show ((0#256 : BitVec 256) == 0#256) = true from by simp]
        have hPR2 := HP3.out.step hb
        have HP4 := hide hPR2
        clear hb HP3
        have c0 := hPR2.p0.cell 0; have c1 := hPR2.p0.cell 1; have c2 := hPR2.p0.cell 2; have c3 := hPR2.p0.cell 3
        have d0 := hPR2.r.all.cell 0; have d1 := hPR2.r.all.cell 1; have d2 := hPR2.r.all.cell 2; have d3 := hPR2.r.all.cell 3
        simp only [List.getElem?_toArray, List.getElem?_cons_zero, List.getElem?_cons_succ] at c0 c1 c2 c3 d0 d1 d2 d3
        clear hPR2
        go_wp2_with fail
        refine (or_any (orL (pl.take k)) p _).mono ?_
        rintro e w8 ⟨rfl, hb⟩
        have hPR2 := HP4.out.step hb
        clear hb c0 c1 c2 c3 d0 d1 d2 d3 HP4
        have d0 := hPR2.r.all.cell 0; have d1 := hPR2.r.all.cell 1; have d2 := hPR2.r.all.cell 2; have d3 := hPR2.r.all.cell 3
        simp only [List.getElem?_toArray, List.getElem?_cons_zero, List.getElem?_cons_succ] at d0 d1 d2 d3
        have f0 := hPR2.r.all.frozen 0; have f1 := hPR2.r.all.frozen 1; have f2 := hPR2.r.all.frozen 2; have f3 := hPR2.r.all.frozen 3
        have HP5 := hide hPR2
        clear hPR2
        go_wp2
        refine wp_world (fun W => PR2 pl (k + 1) N p pb wI W) (HP5.out.store hlt HPK.out hpbN) ?_
        intro wJ hPJ
        clear HP5 d0 d1 d2 d3 f0 f1 f2 f3
        have hGr : Grows (PR2 pl (k + 1) N p pb wI) := fun W W' h hb => h.step hb
        go_loopw [11] (fun b wr => ∃ j : Nat, j ≤ 256 ∧ b = .int .i64 j ∧ PR2 pl (k + 1) N p pb wI wr) (fun b _ => 256 - (intOf b).toNat)
        case atStart => exact ⟨0, by omega, rfl, hPJ⟩
        case round =>
          clear hPJ
          obtain ⟨j, hj, rfl, hPJ⟩ := hrel
          by_cases hj2 : j < 256
          · have hjd : decide ((j : Int) < 256) = true := by simp; omega
            have hidl := HP.out.idx_lt hj2
            have hval : (p.getLsbD j != ((idxF pl pl.length j : Int) == (k : Int))) = false := by
              have h1 := HP.out.idx hj2 hlt
              rw [← HPK.out] at h1
              by_cases e : idxF pl pl.length j = k
              · rw [h1.1 e, e]; simp
              · have : p.getLsbD j = false := Bool.eq_false_iff.2 fun h => e (h1.2 h)
                rw [this]; simp; omega
            have HVAL := hide hval
            clear hval
            go_wp2
            refine quiet_lit (C := PR2 pl (k + 1) N p pb wI) (by kernel_rfl) (by kernel_rfl) hPJ.drew ?_
            refine q_want rfl fun K hK => q_value (SV p) (fun w hw => x_loadSet _ _ _ _ _ _ _ _ p rfl w hw.p0) ?_
            simp only [Act.put, List.setIfInBounds_toArray, List.set_cons_succ, List.set_cons_zero]
            refine hK _ ?_
            clear hK K
            refine q_want rfl fun K hK => q_value (.int .i64 j) (fun w _ => x_move _ _ _ _ _ _ _ _ rfl w) ?_
            simp only [Act.put, List.setIfInBounds_toArray, List.set_cons_succ, List.set_cons_zero]
            refine hK _ ?_
            clear hK K
            refine q_want rfl fun K hK => q_value (.int .u8 j) (fun w _ => x_convU8 _ _ _ _ _ _ _ j rfl (by omega) (by omega) w) ?_
            simp only [Act.put, List.setIfInBounds_toArray, List.set_cons_succ, List.set_cons_zero]
            refine hK _ ?_
            clear hK K
            refine q_want rfl fun K hK => q_call hGr 32 #[SV p, .int .u8 j] (.bool (p.getLsbD j)) (x_call2 _ _ _ _ _ _ _ _ _ _ _ _ _ rfl rfl rfl (enters_of Tryd.func32 (by kernel_rfl) rfl)) (fun w _ => by have h := has_any p (j : Int) (by omega) (by omega) w; rw [Int.toNat_natCast] at h; exact h) ?_
            simp only [Act.put, List.setIfInBounds_toArray, List.set_cons_succ, List.set_cons_zero]
            refine hK _ ?_
            clear hK K
            refine q_want rfl fun K hK => q_value (.int .i64 j) (fun w _ => x_move _ _ _ _ _ _ _ _ rfl w) ?_
            simp only [Act.put, List.setIfInBounds_toArray, List.set_cons_succ, List.set_cons_zero]
            refine hK _ ?_
            clear hK K
            refine q_want rfl fun K hK => q_value (.pointer (some ⟨N, j, none⟩)) (fun w _ => x_idxN _ _ _ _ _ _ _ _ N j rfl rfl (by omega) w) ?_
            simp only [Act.put, List.setIfInBounds_toArray, List.set_cons_succ, List.set_cons_zero]
            refine hK _ ?_
            clear hK K
            refine q_want rfl fun K hK => q_value (.int .u8 (idxF pl pl.length j)) (fun w hw => x_loadU8 _ _ _ _ _ _ _ N j _ rfl w (hw.r.at_cell j (by omega))) ?_
            simp only [Act.put, List.setIfInBounds_toArray, List.set_cons_succ, List.set_cons_zero]
            refine hK _ ?_
            clear hK K
            refine q_want rfl fun K hK => q_value (.int .i64 (idxF pl pl.length j)) (fun w _ => x_convInt _ _ _ _ _ _ _ _ rfl (by omega) (by omega) w) ?_
            simp only [Act.put, List.setIfInBounds_toArray, List.set_cons_succ, List.set_cons_zero]
            refine hK _ ?_
            clear hK K
            refine q_want rfl fun K hK => q_value (.int .i64 k) (fun w _ => x_move _ _ _ _ _ _ _ _ rfl w) ?_
            simp only [Act.put, List.setIfInBounds_toArray, List.set_cons_succ, List.set_cons_zero]
            refine hK _ ?_
            clear hK K
            refine q_want rfl fun K hK => q_value (.bool ((idxF pl pl.length j : Int) == (k : Int))) (fun w _ => x_eqInt _ _ _ _ _ _ _ _ _ _ rfl rfl w) ?_
            simp only [Act.put, List.setIfInBounds_toArray, List.set_cons_succ, List.set_cons_zero]
            refine hK _ ?_
            clear hK K
            refine q_want rfl fun K hK => q_value (.bool (p.getLsbD j != ((idxF pl pl.length j : Int) == (k : Int)))) (fun w _ => x_neqBool _ _ _ _ _ _ _ _ _ _ rfl rfl w) ?_
            simp only [Act.put, List.setIfInBounds_toArray, List.set_cons_succ, List.set_cons_zero]
            refine hK _ ?_
            clear hK K
            refine wpQuiet_nil ?_
            intro w9 hP9
            rw [HVAL.out]
            go_wp2
            exact ⟨⟨j + 1, by omega, by go_num, hP9⟩, by simp [intOf]; omega⟩
          · obtain rfl : j = 256 := by omega
            go_wp2
            refine ⟨⟨k + 1, by omega, by go_num, ?_, hPJ.r⟩, by simp [intOf]; omega⟩
            rw [show lastOf pl (k + 1) = (least (pl.getD k 0) : Int) from rfl, ← HPK.out, ← HLE.out]
      · obtain rfl : k = pl.length := by omega
        have hGrA : Grows (PR pl pl.length N wI) := fun W W' h hb => h.step hb
        have HALL := hide HP.out.all
        go_wp2
        refine quiet_lit (C := PR pl pl.length N wI) (by kernel_rfl) (by kernel_rfl) hPR.drew ?_
        refine q_want rfl fun K hK => q_value (SV (orL pl)) (fun w hw => x_loadSet _ _ _ _ _ _ _ _ (orL pl) rfl w (by have := hw.all; rwa [List.take_length] at this)) ?_
        simp only [Act.put, List.setIfInBounds_toArray, List.set_cons_succ, List.set_cons_zero]
        refine hK _ ?_
        clear hK K
        refine q_want rfl fun K hK => q_call hGrA 26 #[] (SV allB) (x_call0 _ _ _ _ _ _ _ rfl (enters_of Tryd.func26 (by kernel_rfl) rfl)) (fun w _ => all_any w) ?_
        simp only [Act.put, List.setIfInBounds_toArray, List.set_cons_succ, List.set_cons_zero]
        refine hK _ ?_
        clear hK K
        refine q_want rfl fun K hK => q_value (.bool (orL pl != allB)) (fun w _ => x_neqSet _ _ _ _ _ _ _ _ _ _ rfl rfl w) ?_
        simp only [Act.put, List.setIfInBounds_toArray, List.set_cons_succ, List.set_cons_zero]
        refine hK _ ?_
        clear hK K
        refine wpQuiet_nil ?_
        clear hPR
        intro w5 hPR
        rw [show (orL pl != allB) = false from by rw [HALL.out]; simp]
        go_wp2
        go_loopw [12] (fun a wr => ∃ x : Nat, x ≤ 256 ∧ a = .int .i64 x ∧ PR pl pl.length N wI wr) (fun a _ => 256 - (intOf a).toNat)
        case atStart => exact ⟨0, by omega, rfl, hPR⟩
        case round =>
          clear hPR
          obtain ⟨x, hx, rfl, hPR⟩ := hrel
          by_cases hx2 : x < 256
          · have hxd : decide ((x : Int) < 256) = true := by simp; omega
            go_wp2
            go_loopw [13] (fun b wr => ∃ y : Nat, x < y ∧ y ≤ 263 ∧ b = .int .i64 y ∧ PR pl pl.length N wI wr) (fun b _ => 300 - (intOf b).toNat)
            case atStart => exact ⟨x + 1, by omega, by omega, by go_num, hPR⟩
            case round =>
              clear hPR
              obtain ⟨y, hxy, hy, rfl, hPR⟩ := hrel
              by_cases hy2 : y < 256
              · have hyd : decide ((y : Int) < 256) = true := by simp; omega
                go_wp2
                go_loopw [14, 89] (fun same i wr => ∃ q : Nat, q ≤ l.length ∧ i = .int .i64 q ∧ same = .bool (clsB (l.take q) x y) ∧ PR pl pl.length N wI wr) (fun _ i _ => l.length - (intOf i).toNat)
                case atStart => exact ⟨0, by omega, rfl, rfl, hPR⟩
                case round =>
                  clear hPR
                  obtain ⟨q, hq, rfl, rfl, hPR⟩ := hrel
                  by_cases hq2 : q < l.length
                  · obtain ⟨-, ad', cap', hv', hc⟩ := HV2.out.below (hN ▸ hPR.below)
                    obtain ⟨rfl, rfl⟩ : ad = ad' ∧ cap = cap' := by cases hv'; exact ⟨rfl, rfl⟩
                    obtain ⟨bb, off, rfl, hbb, hc⟩ := hc q hq2
                    obtain ⟨s, hs⟩ : ∃ s, s = l.getD q 0 := ⟨_, rfl⟩
                    rw [← hs] at hc
                    have HS := hide (show clsB (l.take (q + 1)) x y = (clsB (l.take q) x y && (s.getLsbD x == s.getLsbD y)) from by rw [hs]; exact clsB_succ l q hq2 x y)
                    have c0 := hc 0 (by omega); have c1 := hc 1 (by omega); have c2 := hc 2 (by omega); have c3 := hc 3 (by omega)
                    rw [Nat.add_zero] at c0
                    clear hv' hs hc
                    have hqd : decide (q < l.length) = true := by simp [hq2]
                    generalize clsB (l.take q) x y = same at *
                    have hP2 : PR2 pl pl.length N s wr.heap.size wI (wr.alloc (.cells (WS s) 24)) := ⟨hPR.step ((Below.refl _ _).alloc (Nat.le_refl _) _), Blk.newAt rfl _ _⟩
                    have HP2 := hide hP2
                    clear hPR hP2
                    go_wp2
                    clear c0 c1 c2 c3
                    have hGr2 : Grows (PR2 pl pl.length N s wr.heap.size wI) := fun W W' h hb => h.step hb
                    refine w_lit (C := PR2 pl pl.length N s wr.heap.size wI) (by kernel_rfl) (by kernel_rfl) HP2.out.drew ?_
                    cases same
                    · refine w_value (.bool false) (by kernel_rfl) (fun w _ => x_move _ _ _ _ _ _ _ _ rfl w) ?_
                      simp only [Act.put, List.setIfInBounds_toArray, List.set_cons_succ, List.set_cons_zero]
                      refine w_value (.bool false) (by kernel_rfl) (fun w _ => x_move _ _ _ _ _ _ _ _ rfl w) ?_
                      simp only [Act.put, List.setIfInBounds_toArray, List.set_cons_succ, List.set_cons_zero]
                      refine w_skip (by kernel_rfl) ?_
                      simp only [Act.put, List.setIfInBounds_toArray, List.set_cons_succ, List.set_cons_zero]
                      refine w_skip (by kernel_rfl) ?_
                      simp only [Act.put, List.setIfInBounds_toArray, List.set_cons_succ, List.set_cons_zero]
                      refine w_skip (by kernel_rfl) ?_
                      simp only [Act.put, List.setIfInBounds_toArray, List.set_cons_succ, List.set_cons_zero]
                      refine w_skip (by kernel_rfl) ?_
                      simp only [Act.put, List.setIfInBounds_toArray, List.set_cons_succ, List.set_cons_zero]
                      refine w_skip (by kernel_rfl) ?_
                      simp only [Act.put, List.setIfInBounds_toArray, List.set_cons_succ, List.set_cons_zero]
                      refine w_skip (by kernel_rfl) ?_
                      simp only [Act.put, List.setIfInBounds_toArray, List.set_cons_succ, List.set_cons_zero]
                      refine w_skip (by kernel_rfl) ?_
                      simp only [Act.put, List.setIfInBounds_toArray, List.set_cons_succ, List.set_cons_zero]
                      refine w_skip (by kernel_rfl) ?_
                      simp only [Act.put, List.setIfInBounds_toArray, List.set_cons_succ, List.set_cons_zero]
                      refine w_skip (by kernel_rfl) ?_
                      simp only [Act.put, List.setIfInBounds_toArray, List.set_cons_succ, List.set_cons_zero]
                      refine w_value (.bool false) (by kernel_rfl) (fun w _ => x_pick _ _ _ _ _ _ _ _ _ false _ _ rfl rfl rfl w) ?_
                      simp only [Act.put, List.setIfInBounds_toArray, List.set_cons_succ, List.set_cons_zero]
                      refine w_value (.bool false) (by kernel_rfl) (fun w _ => x_assign _ _ _ _ _ _ _ _ rfl w) ?_
                      simp only [Act.put, List.setIfInBounds_toArray, List.set_cons_succ, List.set_cons_zero]
                      refine w_nil ?_
                      intro w9 hP9
                      go_wp2
                      refine ⟨⟨q + 1, by omega, by go_num, by rw [HS.out]; rfl, hP9.r⟩, by simp [intOf]; omega⟩
                    · refine w_value (.bool true) (by kernel_rfl) (fun w _ => x_move _ _ _ _ _ _ _ _ rfl w) ?_
                      simp only [Act.put, List.setIfInBounds_toArray, List.set_cons_succ, List.set_cons_zero]
                      refine w_value (.bool true) (by kernel_rfl) (fun w _ => x_move _ _ _ _ _ _ _ _ rfl w) ?_
                      simp only [Act.put, List.setIfInBounds_toArray, List.set_cons_succ, List.set_cons_zero]
                      refine w_value (SV s) (by kernel_rfl) (fun w hw => x_loadSet _ _ _ _ _ _ _ _ s rfl w hw.p0) ?_
                      simp only [Act.put, List.setIfInBounds_toArray, List.set_cons_succ, List.set_cons_zero]
                      refine w_value (.int .i64 x) (by kernel_rfl) (fun w _ => x_move _ _ _ _ _ _ _ _ rfl w) ?_
                      simp only [Act.put, List.setIfInBounds_toArray, List.set_cons_succ, List.set_cons_zero]
                      refine w_value (.int .u8 x) (by kernel_rfl) (fun w _ => x_convU8 _ _ _ _ _ _ _ x rfl (by omega) (by omega) w) ?_
                      simp only [Act.put, List.setIfInBounds_toArray, List.set_cons_succ, List.set_cons_zero]
                      refine w_call hGr2 32 #[SV s, .int .u8 x] (.bool (s.getLsbD x)) (by kernel_rfl) (x_call2 _ _ _ _ _ _ _ _ _ _ _ _ _ rfl rfl rfl (enters_of Tryd.func32 (by kernel_rfl) rfl)) (fun w _ => by have h := has_any s (x : Int) (by omega) (by omega) w; rw [Int.toNat_natCast] at h; exact h) ?_
                      simp only [Act.put, List.setIfInBounds_toArray, List.set_cons_succ, List.set_cons_zero]
                      refine w_value (SV s) (by kernel_rfl) (fun w hw => x_loadSet _ _ _ _ _ _ _ _ s rfl w hw.p0) ?_
                      simp only [Act.put, List.setIfInBounds_toArray, List.set_cons_succ, List.set_cons_zero]
                      refine w_value (.int .i64 y) (by kernel_rfl) (fun w _ => x_move _ _ _ _ _ _ _ _ rfl w) ?_
                      simp only [Act.put, List.setIfInBounds_toArray, List.set_cons_succ, List.set_cons_zero]
                      refine w_value (.int .u8 y) (by kernel_rfl) (fun w _ => x_convU8 _ _ _ _ _ _ _ y rfl (by omega) (by omega) w) ?_
                      simp only [Act.put, List.setIfInBounds_toArray, List.set_cons_succ, List.set_cons_zero]
                      refine w_call hGr2 32 #[SV s, .int .u8 y] (.bool (s.getLsbD y)) (by kernel_rfl) (x_call2 _ _ _ _ _ _ _ _ _ _ _ _ _ rfl rfl rfl (enters_of Tryd.func32 (by kernel_rfl) rfl)) (fun w _ => by have h := has_any s (y : Int) (by omega) (by omega) w; rw [Int.toNat_natCast] at h; exact h) ?_
                      simp only [Act.put, List.setIfInBounds_toArray, List.set_cons_succ, List.set_cons_zero]
                      refine w_value (.bool (s.getLsbD x == s.getLsbD y)) (by kernel_rfl) (fun w _ => x_eqBool _ _ _ _ _ _ _ _ _ _ rfl rfl w) ?_
                      simp only [Act.put, List.setIfInBounds_toArray, List.set_cons_succ, List.set_cons_zero]
                      refine w_value (.bool (s.getLsbD x == s.getLsbD y)) (by kernel_rfl) (fun w _ => x_pick _ _ _ _ _ _ _ _ _ true _ _ rfl rfl rfl w) ?_
                      simp only [Act.put, List.setIfInBounds_toArray, List.set_cons_succ, List.set_cons_zero]
                      refine w_value (.bool (s.getLsbD x == s.getLsbD y)) (by kernel_rfl) (fun w _ => x_assign _ _ _ _ _ _ _ _ rfl w) ?_
                      simp only [Act.put, List.setIfInBounds_toArray, List.set_cons_succ, List.set_cons_zero]
                      refine w_nil ?_
                      intro w9 hP9
                      go_wp2
                      refine ⟨⟨q + 1, by omega, by go_num, by rw [HS.out, Bool.true_and], hP9.r⟩, by simp [intOf]; omega⟩
                  · obtain rfl : q = l.length := by omega
                    rw [List.take_length] at *
                    have hval : (clsB l x y != ((idxF pl pl.length x : Int) == (idxF pl pl.length y : Int))) = false := by
                      have h1 := HP.out.idx_cls (show x < 256 by omega) (show y < 256 by omega)
                      rw [← clsB_iff] at h1
                      by_cases e : clsB l x y = true
                      · rw [e, h1.2 e]; simp
                      · have e2 : ¬ idxF pl pl.length x = idxF pl pl.length y := fun h => e (h1.1 h)
                        rw [Bool.eq_false_iff.2 e]; simp; omega
                    have HVAL := hide hval
                    clear hval
                    go_wp2
                    refine quiet_lit (C := PR pl pl.length N wI) (by kernel_rfl) (by kernel_rfl) hPR.drew ?_
                    refine q_want rfl fun K hK => q_value (.bool (clsB l x y)) (fun w _ => x_move _ _ _ _ _ _ _ _ rfl w) ?_
                    simp only [Act.put, List.setIfInBounds_toArray, List.set_cons_succ, List.set_cons_zero]
                    refine hK _ ?_
                    clear hK K
                    refine q_want rfl fun K hK => q_value (.int .i64 x) (fun w _ => x_move _ _ _ _ _ _ _ _ rfl w) ?_
                    simp only [Act.put, List.setIfInBounds_toArray, List.set_cons_succ, List.set_cons_zero]
                    refine hK _ ?_
                    clear hK K
                    refine q_want rfl fun K hK => q_value (.pointer (some ⟨N, x, none⟩)) (fun w _ => x_idxN _ _ _ _ _ _ _ _ N x rfl rfl (by omega) w) ?_
                    simp only [Act.put, List.setIfInBounds_toArray, List.set_cons_succ, List.set_cons_zero]
                    refine hK _ ?_
                    clear hK K
                    refine q_want rfl fun K hK => q_value (.int .u8 (idxF pl pl.length x)) (fun w hw => x_loadU8 _ _ _ _ _ _ _ N x _ rfl w (hw.at_cell x (by omega))) ?_
                    simp only [Act.put, List.setIfInBounds_toArray, List.set_cons_succ, List.set_cons_zero]
                    refine hK _ ?_
                    clear hK K
                    refine q_want rfl fun K hK => q_value (.int .i64 y) (fun w _ => x_move _ _ _ _ _ _ _ _ rfl w) ?_
                    simp only [Act.put, List.setIfInBounds_toArray, List.set_cons_succ, List.set_cons_zero]
                    refine hK _ ?_
                    clear hK K
                    refine q_want rfl fun K hK => q_value (.pointer (some ⟨N, y, none⟩)) (fun w _ => x_idxN _ _ _ _ _ _ _ _ N y rfl rfl (by omega) w) ?_
                    simp only [Act.put, List.setIfInBounds_toArray, List.set_cons_succ, List.set_cons_zero]
                    refine hK _ ?_
                    clear hK K
                    refine q_want rfl fun K hK => q_value (.int .u8 (idxF pl pl.length y)) (fun w hw => x_loadU8 _ _ _ _ _ _ _ N y _ rfl w (hw.at_cell y (by omega))) ?_
                    simp only [Act.put, List.setIfInBounds_toArray, List.set_cons_succ, List.set_cons_zero]
                    refine hK _ ?_
                    clear hK K
                    refine q_want rfl fun K hK => q_value (.bool ((idxF pl pl.length x : Int) == (idxF pl pl.length y : Int))) (fun w _ => x_eqU8 _ _ _ _ _ _ _ _ _ _ rfl rfl w) ?_
                    simp only [Act.put, List.setIfInBounds_toArray, List.set_cons_succ, List.set_cons_zero]
                    refine hK _ ?_
                    clear hK K
                    refine q_want rfl fun K hK => q_value (.bool (clsB l x y != ((idxF pl pl.length x : Int) == (idxF pl pl.length y : Int)))) (fun w _ => x_neqBool _ _ _ _ _ _ _ _ _ _ rfl rfl w) ?_
                    simp only [Act.put, List.setIfInBounds_toArray, List.set_cons_succ, List.set_cons_zero]
                    refine hK _ ?_
                    clear hK K
                    refine wpQuiet_nil ?_
                    intro w9 hP9
                    rw [HVAL.out]
                    go_wp2
                    exact ⟨⟨y + 7, by omega, by omega, by go_num, hP9⟩, by simp [intOf]; omega⟩
              · go_wp2
                exact ⟨⟨x + 1, by omega, by go_num, hPR⟩, by simp [intOf]; omega⟩
          · obtain rfl : x = 256 := by omega
            go_wp2
            go_ret
            exact ⟨rfl, HB3.out.trans (hPR.below.mono (by have := HB3.out.size; omega))⟩
end Go.Proofs.YtfoamihjmmgnlaaDoor
