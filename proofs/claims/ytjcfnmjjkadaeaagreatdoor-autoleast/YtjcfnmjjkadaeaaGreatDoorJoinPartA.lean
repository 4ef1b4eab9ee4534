/- Texts of this claim put together: SetH, PartA. -/
import Derived.Test.YtjcfnmjjkadaeaaGreatDoorJoinSetG
import Derived.Laws.BytesArg
import Derived.Test.YtjcfnmjjkadaeaaGreatDoorJoinReB
import Derived.Deep.MidRow
/- Contract: the document's example, as the statements of layer 1 ask it first. -/
namespace Go.Proofs.YtjcfnmjjkadaeaaGreatDoor
set_option maxRecDepth 100000
open Go.RowKit Go.Shelf
attribute [local go_sem] Oper.semAt_some

/-- a, b, c and x. -/
def sEx : BitVec 256 := setOf [97, 98, 99, 120]
end Go.Proofs.YtjcfnmjjkadaeaaGreatDoor
/- Index: of each byte, in which of some sets it is. -/
namespace Go.Proofs.YtjcfnmjjkadaeaaGreatDoor
set_option maxRecDepth 100000
open Go.RowKit Go.Shelf
attribute [local go_sem] Oper.semAt_some

/-- 256 numbers of eight bits. -/
def nArr (f : Nat → Nat) : Array Value := (Array.range 256).map fun i => .int .u8 (f i)
theorem nArr_get (f : Nat → Nat) (i : Nat) (h : i < 256) : (nArr f)[i]? = some (.int .u8 (f i)) := by simp [nArr, h]
theorem nArr_size (f : Nat → Nat) : (nArr f).size = 256 := by simp [nArr]
theorem nArr_set (f : Nat → Nat) (i v : Nat) (h : i < 256) : (nArr f).setIfInBounds i (.int .u8 v) = nArr (fun j => if j = i then v else f j) := by
  apply Array.ext_getElem?
  intro j
  by_cases hj : j < 256
  · rw [nArr_get _ j hj]
    by_cases e : i = j
    · subst e
      rw [Array.getElem?_setIfInBounds_self_of_lt (by rw [nArr_size]; exact h)]; simp
    · rw [Array.getElem?_setIfInBounds_ne e, nArr_get f j hj, if_neg (fun h => e h.symm)]
  · rw [Array.getElem?_eq_none (by simp [nArr]; omega), Array.getElem?_eq_none (by simp [nArr]; omega)]
theorem nArr_congr {f g : Nat → Nat} (h : ∀ i, i < 256 → f i = g i) : nArr f = nArr g := by
  apply Array.ext_getElem?
  intro j
  by_cases hj : j < 256
  · rw [nArr_get _ j hj, nArr_get _ j hj, h j hj]
  · rw [Array.getElem?_eq_none (by simp [nArr]; omega), Array.getElem?_eq_none (by simp [nArr]; omega)]
theorem zeroN (w : World) : (zeroValue 69).run Tryz.prog w = .ok (.agg (nArr fun _ => 0)) w := by
  have h : (Tryz.prog.info? 69).map (fun i => i.zero) = some (some (.agg (nArr fun _ => 0))) := by kernel_rfl
  cases hi : Tryz.prog.info? 69 with
  | none => rw [hi] at h; cases h
  | some i =>
    rw [hi] at h
    have hz : i.zero = some (.agg (nArr fun _ => 0)) := by simpa using h
    simp [zeroValue, typeInfo, hi, hz]
theorem infoN : (Tryz.prog.info? 69).map (·.size) = some 256 := by kernel_rfl

/-- Of each byte, which of the first k sets has it: the last one. -/
def idxF (l : List (BitVec 256)) : Nat → Nat → Nat
  | 0, _ => 0
  | k + 1, b => if (l.getD k 0).getLsbD b then k else idxF l k b

theorem wpIn_value {o : Oper} {a : Act} {w w' : World} {K : Act → World → Prop} {Q : Exit → Act → World → Prop} {v : Value} (h : (execOp a.eval o).run Tryz.prog w = .ok (.value v) w') (hk : K (a.put o.dst v) w') : o.wpIn Fence.wide 0 Tryz.prog a w K Q := by
  refine ⟨fun _ _ => trivial, ?_⟩
  show o.uponIn Fence.wide 0 Tryz.prog a K Q ((execOp a.eval o).run Tryz.prog w)
  rw [h]; exact hk
theorem wpIn_skipped {o : Oper} {a : Act} {w w' : World} {K : Act → World → Prop} {Q : Exit → Act → World → Prop} (h : (execOp a.eval o).run Tryz.prog w = .ok .skip w') (hk : K (a.put o.dst undef) w') : o.wpIn Fence.wide 0 Tryz.prog a w K Q := by
  refine ⟨fun _ _ => trivial, ?_⟩
  show o.uponIn Fence.wide 0 Tryz.prog a K Q ((execOp a.eval o).run Tryz.prog w)
  rw [h]; exact hk
theorem Blk.range {w : World} {b : Nat} {c : Array Value} {t : TypeId} (h : Blk w b c t) : w.rangeAt b 0 c.toList := fun j v hv => by
  rw [Nat.zero_add, h.cell j]; simpa using hv
theorem Blk.there {w : World} {b : Nat} {c : Array Value} {t : TypeId} (h : Blk w b c t) : w.there b 0 c.size := fun j hj => by
  refine ⟨?_, ?_⟩
  · rw [Nat.zero_add, h.cell j]; simp [hj]
  · rw [Nat.zero_add]; exact h.frozen j
theorem x_loadN (ρ : Operand → Value) (d : Option Tmp) (x : Operand) (t : TypeId) (pos : String) (af : Array Edge) (g : Option (Nat × Bool)) (b : Nat) (f : Nat → Nat) (hx : ρ x = .pointer (some ⟨b, 0, none⟩)) (w : World) (hB : w.rangeAt b 0 (nArr f).toList) :
    (execOp ρ { dst := d, op := .load 69 x, type := t, pos := pos, after := af, guard := g }).run Tryz.prog w = .ok (.value (.agg (nArr f))) w := by
  have h := run_loadAt_mid (P := Tryz.prog) w b 0 69 (nArr f).toList _ hB Tryz.underlying69 rfl (by rw [infoN]; simp [nArr])
  simp [execOp, hx, h]
theorem x_storeN (ρ : Operand → Value) (d : Option Tmp) (x y : Operand) (t : TypeId) (pos : String) (af : Array Edge) (g : Option (Nat × Bool)) (b : Nat) (f : Nat → Nat) (hx : ρ x = .pointer (some ⟨b, 0, none⟩)) (hy : ρ y = .agg (nArr f)) (w : World) (hB : w.there b 0 256) :
    (execOp ρ { dst := d, op := .store 69 x y, type := t, pos := pos, after := af, guard := g }).run Tryz.prog w = .ok .skip (w.setCells b 0 (nArr f).toList) := by
  have h := run_storeAt_mid (P := Tryz.prog) w b 0 69 (nArr f) (by rw [nArr_size]; exact hB) (by rw [infoN, nArr_size]) (by rw [Array.all_eq_true']; intro v hv; simp [nArr] at hv; obtain ⟨i, _, rfl⟩ := hv; rfl)
  simp [execOp, hx, hy, h]
theorem heap_shutAll (k : Nat) : ∀ (Ds : List Nat) (w : World), (∀ D ∈ Ds, k ≠ D) → (shutAll w Ds).heap[k]? = w.heap[k]?
  | [], _, _ => rfl
  | D :: Ds, w, h => (heap_shutAll k Ds _ (fun D' h' => h D' (by simp [h']))).trans (World.putObj_heap_other (h D (by simp)))

def mark (D : Nat) : Deferred := { target := .collected D, args := #[] }

set_option maxRecDepth 100000 in
set_option maxHeartbeats 1000000 in
theorem index_in (l : List (BitVec 256)) (v : Value) (w : World) (hv : SetsRow w v l) (hl : l.length ≤ 256) (hT : TabAt w) :
    CallsIn Fence.wide 0 Tryz.prog 80 #[v] w fun e w' => e = .returned (.agg (nArr (idxF l l.length))) ∧ Below w.heap.size w w' := by
  have HV := hide hv
  obtain ⟨hlen, ad, cap, rfl, -⟩ := hv
  have HT := hide hT
  have hG : 0 < w.heap.size := World.block_lt_of_cell? _ _ (hT 0 (by omega))
  clear hT
  refine callsIn_of_wp_marks Tryz.func80 rfl trivial ?_ rfl
  simp only [Tryz.ntmps80, List.size_toArray, List.length_cons, List.length_nil, Nat.reduceAdd, Nat.reduceSub, Array.replicate_succ, Array.replicate_zero, List.push_toArray, List.append_toArray, List.nil_append, List.cons_append]
  have hz := zeroN
  gi_wp2
  clear hz
  have hB0 : w.heap.size = w.heap.size := rfl
  generalize hB : w.heap.size = B at hB0 ⊢
  clear hB0
  refine wpIn_loop (fun a wr => ∃ (k : Nat) (Ds : List Nat) (u4 u5 u10 u11 u12 u13 u14 u15 u21 : Value), a = { tmps := #[.slice ad l.length cap, undef, .pointer (some ⟨B, 0, none⟩), .pointer (some ⟨B + 1, 0, none⟩), u4, u5, undef, .slice ad l.length cap, .int .i64 l.length, .int .i64 k, u10, u11, u12, u13, u14, u15, undef, undef, undef, undef, undef, u21, undef], defers := Ds.map mark } ∧ k ≤ l.length ∧
      Blk wr B (nArr fun _ => 0) 69 ∧ Blk wr (B + 1) (nArr (idxF l k)) 69 ∧ (∀ D ∈ Ds, B + 1 < D ∧ wr.heap[D]? = some (.deferred (some []))) ∧ Ds.Nodup ∧ Below B w wr)
    (fun a _ => l.length - (intOf (a.tmps.getD 9 undef)).toNat) ?start ?round
  case start =>
    refine ⟨0, [], undef, undef, undef, undef, undef, undef, undef, undef, undef, rfl, by omega, ?_, ?_, by simp, by simp, ?_⟩
    · exact (Blk.newAt hB.symm _ _).alloc _
    · exact Blk.newAt (by simp [hB]) _ _
    · exact ((Below.refl B w).alloc (by omega) _).alloc (by simp; omega) _
  case round =>
    rintro _ wr ⟨k, Ds, u4, u5, u10, u11, u12, u13, u14, u15, u21, rfl, hk, h2, h3, hDs, hnd, hbel⟩
    have HD := hide hDs
    have HND := hide hnd
    have HB := hide hbel
    clear hDs hnd hbel
    by_cases hlt : k < l.length
    · have hRow := HV.out.below (hB ▸ HB.out)
      obtain ⟨-, ad', cap', hv', hc⟩ := hRow
      obtain ⟨rfl, -, rfl⟩ : ad = ad' ∧ True ∧ cap = cap' := by cases hv'; exact ⟨rfl, trivial, rfl⟩
      obtain ⟨bb, off, rfl, hbb, hc⟩ := hc k hlt
      obtain ⟨s, hs⟩ : ∃ s, s = l.getD k 0 := ⟨_, rfl⟩
      rw [← hs] at hc
      have c0 := hc 0 (by omega); have c1 := hc 1 (by omega); have c2 := hc 2 (by omega); have c3 := hc 3 (by omega)
      rw [Nat.add_zero] at c0
      clear hv'
      have hkI : (k : Int) < l.length := by omega
      have hkd : decide (k < l.length) = true := by simp [hlt]
      have hb1 : bb < wr.heap.size + 1 := by omega
      have hb2 : bb < wr.heap.size + 1 + 1 := by omega
      have HS := hide hs
      clear hs
      gi_wp2_with fail
      refine ⟨trivial, rfl, ?_⟩
      refine (callsIn_wide.2 (bytes_any s _)).mono ?_
      rintro e w5 ⟨rfl, rfl⟩
      gi_wp2
      clear c0 c1 c2 c3 hb1 hb2 hkI hkd hc
      refine wpIn_world (fun W => Blk W B (nArr fun _ => 0) 69 ∧ Blk W (B + 1) (nArr (idxF l k)) 69 ∧ Blk W wr.heap.size #[.int .i64 k] 3 ∧ Blk W (wr.heap.size + 2) (WS s) 89 ∧ (∀ D ∈ Ds, B + 1 < D ∧ D < wr.heap.size ∧ W.heap[D]? = some (.deferred (some []))) ∧ Below B w W) ⟨?_, ?_, ?_, ?_, ?_, ?_⟩ ?_
      · exact ((h2.alloc _).alloc _).alloc _
      · exact ((h3.alloc _).alloc _).alloc _
      · exact ((Blk.newAt rfl _ _).alloc _).alloc _
      · exact Blk.newAt (by simp) _ _
      · intro D hD
        obtain ⟨q1, q2⟩ := HD.out D hD
        have hlt := (Array.getElem?_eq_some_iff.1 q2).1
        refine ⟨q1, hlt, ?_⟩
        rw [Below.heap_alloc _ _ _ (by simp; omega), Below.heap_alloc _ _ _ (by simp; omega), Below.heap_alloc _ _ _ hlt]; exact q2
      · have := HB.out.size
        exact ((HB.out.alloc (by omega) _).alloc (by simp; omega) _).alloc (by simp; omega) _
      have h3l := h3.lt
      clear h2 h3 HD HB hbb
      rintro W0 ⟨h2, h3, h4, k5, hDs, hbel⟩
      have HT0 := hide (HT.out.agree (Agree.of_all (K := fun _ => True) (hB ▸ hbel)) trivial)
      have z5 := k5.lt
      generalize hN : wr.heap.size = N at *
      refine wpIn_rangeM (gf := 137) (lb := #[.pointer (some ⟨N + 2, 0, none⟩)]) rfl enters_bytes (encs := fun x : Nat => #[.int .u8 x]) (xs := bytesOf s)
        (own := fun k => k = N + 2 ∨ k = 0)
        (fun W1 hb => bytes1_any s _ W1 (k5.below hb z5) (HT0.out.agree (Agree.of_all (K := fun _ => True) hb) trivial)) (fun _ => rfl)
        (fun pre M W => M (B + 1) ∧ M N ∧ Blk W (B + 1) (nArr fun j => if j ∈ pre then k else idxF l k j) 69 ∧ Blk W N #[.int .i64 k] 3)
        (fun _ _ _ _ => False)
        (fun _ M X Y h ha => ⟨h.1, h.2.1, h.2.2.1.agree ha h.1, h.2.2.2.agree ha h.2.1⟩)
        (fun _ _ M A B h ha => h)
        (fun k => k = B + 1 ∨ k = N) (fun k hk => by omega)
        (fun k hk => by rcases hk with rfl | rfl <;> exact ⟨fun h => by omega, by omega⟩) ⟨.inl rfl, .inr rfl, by simpa using h3, h4⟩
        (fun x => { tmps := #[.slice (some ⟨bb, off, none⟩) l.length cap, undef, .pointer (some ⟨B, 0, none⟩), .pointer (some ⟨B + 1, 0, none⟩), .pointer (some ⟨N, 0, none⟩), .pointer (some ⟨N + 1, 0, none⟩), .int .u8 x, .slice (some ⟨bb, off, none⟩) l.length cap, .int .i64 l.length, .int .i64 k, .bool true, .int .i64 k, .pointer (some ⟨bb, off + k * 4, none⟩), SV s, SV s, .func (.func 137) #[] #[.pointer (some ⟨N + 1 + 1, 0, none⟩)], .int .u8 x, undef, undef, undef, undef, u21, undef], defers := [] }) ?assign ?body ?done ?stop
      case stop =>
        rintro D c pre M' W hp h
        exact h.elim
      case assign =>
        intro l x W K hK
        gi_wp2
        exact hK
      case body =>
        rintro l' pre x M W hpre ⟨m1, m2, b3, b4⟩ hM
        have hx : x < 256 := bytesOf_lt s x (hpre.subset (by simp))
        have g4 := b4.cell 0
        have g3 := b3.cell x
        rw [nArr_get _ x hx] at g3
        have f3 := b3.frozen x
        simp only [List.getElem?_toArray, List.getElem?_cons_zero] at g4
        have hk8 : IntKind.u8.wrap (k : Int) = (k : Int) := u8_nat k (by omega)
        clear hpre
        gi_wp2
        refine ⟨M, Foot.same hM (Agree.setCell _ _ _ (fun h => h m1)), m1, m2, ?_, b4.setOther _ _ (by simp; omega)⟩
        have b5 := b3.set x (.int .u8 k)
        rw [nArr_set _ x k hx] at b5
        rw [nArr_congr (g := fun j => if j = x then k else if j ∈ pre then k else idxF l k j) (fun j _ => by
          by_cases e : j = x
          · subst e; simp
          · simp [e])]
        exact b5
      case done =>
        rintro D M' W ⟨m1, m2, b3, b4⟩ hF hD hK hn
        have hD' : ∀ D' ∈ D :: Ds, B + 1 < D' ∧ W.heap[D']? = some (.deferred (some [])) := by
          intro D' h
          rcases List.mem_cons.1 h with rfl | h
          · exact ⟨by omega, hK⟩
          · obtain ⟨q1, q2, q3⟩ := hDs D' h
            exact ⟨q1, (hF.agree.block D' (by omega) (fun h => by omega)).trans q3⟩
        have hnd' : (D :: Ds).Nodup := List.nodup_cons.2 ⟨fun h => by have := (hDs D h).2.1; omega, HND.out⟩
        have h2' := h2.agree hF.agree (fun h => by omega)
        have hbel' := hbel.trans (hF.agree.below B (by omega) (fun k hk h => by omega))
        have h3' : Blk W (B + 1) (nArr (idxF l (k + 1))) 69 := by
          rw [nArr_congr (f := idxF l (k + 1)) (g := fun j => if j ∈ bytesOf s then k else idxF l k j) (fun j hj => by
            have hm := mem_bytes s j
            rw [HS.out] at hm
            show (if (l.getD k 0).getLsbD j then k else idxF l k j) = _
            by_cases e : (l.getD k 0).getLsbD j = true
            · rw [if_pos e, if_pos (by rw [HS.out]; exact hm.2 ⟨hj, e⟩)]
            · rw [if_neg e, if_neg (fun h => e (by rw [HS.out] at h; exact (hm.1 h).2))])]
          exact b3
        have HD2 := hide hD'
        have HND2 := hide hnd'
        have HB2 := hide hbel'
        clear hDs hF hK hn hD' hnd' hbel' hbel m1 m2 b3 b4
        have hk9 : k < 256 := by omega
        gi_wp2
        exact ⟨⟨k + 1, D :: Ds, _, _, _, _, _, _, _, _, _, rfl, by omega, h2', h3', HD2.out, HND2.out, HB2.out⟩, by simp [intOf]; omega⟩
    · obtain rfl : k = l.length := by omega
      gi_wp2
      refine wpIn_value (x_loadN _ _ _ _ _ _ _ (B + 1) _ rfl _ h3.range) ?_
      gi_step
      refine wpListIn_plain rfl fun K hK => wpIn_skipped (x_storeN _ _ _ _ _ _ _ _ B _ rfl rfl _ (by have := h2.there; rwa [nArr_size] at this)) (hK _ _ ?_)
      clear hK K
      have hres : (wr.setCells B 0 (nArr (idxF l l.length)).toList).rangeAt B 0 (nArr (idxF l l.length)).toList := World.rangeAt_setCells_same _ _ _ _ (by have := h2.there; simpa [nArr_size] using this)
      have HR := hide hres
      have HH := hide (fun k hk => heap_setCells B k hk (nArr (idxF l l.length)).toList 0 wr)
      have HBW := hide (below_setCells B (Nat.le_refl _) (nArr (idxF l l.length)).toList 0 HB.out)
      clear hres h2 h3
      generalize wr.setCells B 0 (nArr (idxF l l.length)).toList = WA at *
      gi_wp2
      have hne : ∀ D ∈ Ds, B ≠ D := fun D h => by have := (HD.out D h).1; omega
      refine leaves_marks Ds WA HND.out (fun D h => (HH.out D (fun e => hne D h e.symm)).trans (HD.out D h).2) (v := .agg (nArr (idxF l l.length))) ?_ ⟨rfl, ?_⟩
      · have hrg : (shutAll WA Ds).rangeAt B 0 (nArr (idxF l l.length)).toList := fun j v hv => by
          rw [← HR.out j v hv]
          exact World.cell?_of_block (w := WA) (heap_shutAll B Ds WA hne)
        have hld := run_loadVar_mid (P := Tryz.prog) (shutAll WA Ds) B 0 69 (nArr (idxF l l.length)).toList _ hrg Tryz.underlying69 rfl (by rw [infoN]; simp [nArr])
        simp [results, Tryz.results80, asAddr, hld, Act.put]
      · rw [hB]; exact below_shutAll Ds HBW.out (fun D h => by have := (HD.out D h).1; omega)
theorem index_any (l : List (BitVec 256)) (v : Value) (w : World) (hv : SetsRow w v l) (hl : l.length ≤ 256) (hT : TabAt w) :
    Calls Tryz.prog 80 #[v] w fun e w' => e = .returned (.agg (nArr (idxF l l.length))) ∧ Below w.heap.size w w' := callsIn_wide.1 (index_in l v w hv hl hT)
end Go.Proofs.YtjcfnmjjkadaeaaGreatDoor
