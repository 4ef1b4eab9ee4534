/- Contracts: Bytes, Runs, Least; the iterator that Runs hands out. -/
import Derived.Test.YtfoamihjmmgnlaaDoorSetE
import Derived.Test.YtfoamihjmmgnlaaDoorMathRuns
namespace Go.Proofs.YtfoamihjmmgnlaaDoor
set_option maxRecDepth 100000
open Go.RowKit Go.Shelf
attribute [local go_sem] Oper.semAt_some

set_option maxHeartbeats 400000 in
theorem bytes_any (s : BitVec 256) (w : World) :
    Calls Tryd.prog 27 #[SV s] w fun e w' => e = .returned (.func (.func 54) #[] #[.pointer (some ⟨w.heap.size, 0, none⟩)]) ∧ w' = w.alloc (.cells (WS s) 24) := by
  go_enter Tryd.func27, Tryd.ntmps27
  go_wp2
  go_ret
  exact ⟨rfl, rfl⟩
set_option maxHeartbeats 400000 in
theorem runs_any (s : BitVec 256) (w : World) :
    Calls Tryd.prog 28 #[SV s] w fun e w' => e = .returned (.func (.func 56) #[] #[.pointer (some ⟨w.heap.size, 0, none⟩)]) ∧ w' = w.alloc (.cells (WS s) 24) := by
  go_enter Tryd.func28, Tryd.ntmps28
  go_wp2
  go_ret
  exact ⟨rfl, rfl⟩

theorem enters_bytes : ∀ args w, (callFunc 54 args).run Tryd.prog w = .ok (.enter 54 args) w := enters_of Tryd.func54 (by kernel_rfl) rfl

/-- The least of some bytes that go up. -/
def leastV (l : List Nat) : Value := .tuple #[.int .u8 (l.headD 0), .bool (!l.isEmpty)]

set_option maxRecDepth 100000 in
set_option maxHeartbeats 1000000 in
theorem least_in (s : BitVec 256) (w : World) (hT : TabAt w) :
    CallsIn Fence.wide 0 Tryd.prog 16 #[SV s] w fun e w' => e = .returned (leastV (bytesOf s)) ∧ Below w.heap.size w w' ∧ w.drawn ≤ w'.drawn := by
  refine callsIn_of_wp_marks Tryd.func16 rfl trivial ?_ rfl
  simp only [Tryd.ntmps16, List.size_toArray, List.length_cons, List.length_nil, Nat.reduceAdd, Nat.reduceSub, Array.replicate_succ, Array.replicate_zero, List.push_toArray, List.append_toArray, List.nil_append, List.cons_append]
  gi_wp2_with fail
  refine ⟨trivial, rfl, ?_⟩
  refine (callsIn_wide.2 (bytes_any s _)).mono ?_
  rintro e w1 ⟨rfl, rfl⟩
  gi_wp2
  refine wpIn_world (fun W => Blk W (w.heap.size + 1) #[.int .u8 0] 5 ∧ Blk W (w.heap.size + 2) #[.bool false] 4 ∧ Blk W (w.heap.size + 3) (WS s) 24 ∧ Below w.heap.size w W ∧ w.drawn ≤ W.drawn) ⟨?_, ?_, ?_, ?_, Nat.le_refl _⟩ ?_
  · exact ((Blk.newAt (by simp) _ _).alloc _).alloc _
  · exact (Blk.newAt (by simp) _ _).alloc _
  · exact Blk.newAt (by simp) _ _
  · exact ((((Below.refl _ _).alloc (Nat.le_refl _) _).alloc (by simp) _).alloc (by simp; omega) _).alloc (by simp; omega) _
  rintro W0 ⟨k1, k2, k3, hbel, hdr⟩
  have z1 := k1.lt; have z2 := k2.lt; have z3 := k3.lt
  have hT0 : TabAt W0 := hT.agree (Agree.of_all (K := fun _ => True) hbel) trivial
  have hG : 0 < w.heap.size := World.block_lt_of_cell? _ _ (hT 0 (by omega))
  have HT := hide hT0
  have HB := hide hbel
  clear hT hT0 hbel
  refine wpIn_rangeM (gf := 54) (lb := #[.pointer (some ⟨w.heap.size + 3, 0, none⟩)]) rfl enters_bytes (encs := fun x : Nat => #[.int .u8 x]) (xs := bytesOf s)
    (own := fun k => k = w.heap.size + 3 ∨ k = 0)
    (fun W1 hb => bytes1_any s _ W1 (k3.below hb z3) (HT.out.agree (Agree.of_all (K := fun _ => True) hb) trivial)) (fun _ => rfl)
    (fun pre M W => pre = [] ∧ M (w.heap.size + 1) ∧ M (w.heap.size + 2) ∧ Blk W (w.heap.size + 1) #[.int .u8 0] 5 ∧ Blk W (w.heap.size + 2) #[.bool false] 4)
    (fun c pre M W => c = .ret ∧ ∃ x, pre = [x] ∧ Blk W (w.heap.size + 1) #[.int .u8 (x : Nat)] 5 ∧ Blk W (w.heap.size + 2) #[.bool true] 4 ∧ M (w.heap.size + 1) ∧ M (w.heap.size + 2))
    (fun _ M A B h ha => ⟨h.1, h.2.1, h.2.2.1, h.2.2.2.1.agree ha h.2.1, h.2.2.2.2.agree ha h.2.2.1⟩)
    (fun _ _ M A B h ha => by obtain ⟨rfl, x, rfl, b1, b2, m1, m2⟩ := h; exact ⟨rfl, x, rfl, b1.agree ha m1, b2.agree ha m2, m1, m2⟩)
    (fun k => k = w.heap.size + 1 ∨ k = w.heap.size + 2) (fun k hk => by rcases hk with rfl | rfl <;> assumption)
    (fun k hk => by rcases hk with rfl | rfl <;> exact ⟨fun h => by omega, by omega⟩) ⟨rfl, .inl rfl, .inr rfl, k1, k2⟩
    (fun x => { tmps := #[SV s, .pointer (some ⟨w.heap.size, 0, none⟩), .pointer (some ⟨w.heap.size + 1, 0, none⟩), .pointer (some ⟨w.heap.size + 1 + 1, 0, none⟩), .int .u8 x, SV s,
      .func (.func 54) #[] #[.pointer (some ⟨w.heap.size + 1 + 1 + 1, 0, none⟩)], .int .u8 x, undef], defers := [] }) ?assign ?body ?done ?stop
  case assign =>
    intro l x W K hK
    gi_wp2
    exact hK
  case body =>
    rintro l pre x M W hpre ⟨rfl, m1, m2, b1, b2⟩ hM
    have f1 := b1.frozen 0; have f2 := b2.frozen 0
    have g1 := b1.cell 0; have g2 := b2.cell 0
    simp only [List.getElem?_toArray, List.getElem?_cons_zero] at g1 g2
    gi_wp2
    have b3 := (b1.set 0 (.int .u8 x)).setOther ⟨w.heap.size + 1 + 1, 0, none⟩ (.bool true) (by simp)
    have b4 := (b2.setOther ⟨w.heap.size + 1, 0, none⟩ (.int .u8 x) (by simp)).set 0 (.bool true)
    exact ⟨M, Foot.same hM ((Agree.setCell _ _ _ (fun h => h m1)).trans (Agree.setCell _ _ _ (fun h => h m2))), rfl, x, rfl, b3, b4, m1, m2⟩
  case done =>
    rintro D M' W ⟨hnil, m1, m2, b1, b2⟩ hF hD hK hn
    have f1 := b1.frozen 0; have f2 := b2.frozen 0
    have g1 := b1.cell 0; have g2 := b2.cell 0
    simp only [List.getElem?_toArray, List.getElem?_cons_zero] at g1 g2
    have HN := hide hnil
    have HF := hide hF
    have HK := hide hK
    clear hnil hF hK
    gi_wp2
    have e1 := ((b1.set 0 (.int .u8 0)).setOther ⟨w.heap.size + 1 + 1, 0, none⟩ (.bool false) (by simp)).putObj D (.deferred none) (by omega)
    have e2 := ((b2.setOther ⟨w.heap.size + 1, 0, none⟩ (.int .u8 0) (by simp)).set 0 (.bool false)).putObj D (.deferred none) (by omega)
    have q1 := e1.cell 0; have q2 := e2.cell 0
    simp only [List.setIfInBounds_toArray, List.set_cons_zero, List.getElem?_toArray, List.getElem?_cons_zero] at q1 q2
    refine leave_mark (v := leastV (bytesOf s)) ?_ ?_ ⟨rfl, ?_, Nat.le_trans hdr HF.out.agree.drawn⟩
    · rw [Below.heap_setCell _ _ _ _ (by simp; omega), Below.heap_setCell _ _ _ _ (by simp; omega)]; exact HK.out
    · rw [HN.out]; simp [results, Tryd.results16, go_sem, q1, q2, leastV]
    · have hb : Below w.heap.size W0 W := HF.out.agree.below w.heap.size (by omega) (fun k hk h => by omega)
      exact below_put (((HB.out.trans hb).setCell (p := ⟨w.heap.size + 1, 0, none⟩) (by simp) _).setCell (p := ⟨w.heap.size + 1 + 1, 0, none⟩) (by simp; omega) _) (by omega) _
  case stop =>
    rintro D c pre M' W hp ⟨rfl, x, rfl, b1, b2, m1, m2⟩ hF hD hK hn
    have HF := hide hF
    have HK := hide hK
    have HP := hide hp
    clear hF hK hp
    gi_wp2
    have e1 := b1.putObj D (.deferred none) (by omega)
    have e2 := b2.putObj D (.deferred none) (by omega)
    have q1 := e1.cell 0; have q2 := e2.cell 0
    simp only [List.getElem?_toArray, List.getElem?_cons_zero] at q1 q2
    refine leave_mark (v := leastV (bytesOf s)) HK.out ?_ ⟨rfl, ?_, Nat.le_trans hdr HF.out.agree.drawn⟩
    · obtain ⟨q, hq⟩ := HP.out
      rw [← hq]; simp [results, Tryd.results16, go_sem, q1, q2, leastV]
    · have hb : Below w.heap.size W0 W := HF.out.agree.below w.heap.size (by omega) (fun k hk h => by omega)
      exact below_put (HB.out.trans hb) (by omega) _

theorem least_any (s : BitVec 256) (w : World) (hT : TabAt w) :
    Calls Tryd.prog 16 #[SV s] w fun e w' => e = .returned (leastV (bytesOf s)) ∧ Below w.heap.size w w' := callsIn_wide.1 ((least_in s w hT).mono fun _ _ h => ⟨h.1, h.2.1⟩)
theorem least_drawn (s : BitVec 256) (w : World) (hT : TabAt w) :
    Calls Tryd.prog 16 #[SV s] w fun e w' => e = .returned (leastV (bytesOf s)) ∧ Below w.heap.size w w' ∧ w.drawn ≤ w'.drawn := callsIn_wide.1 (least_in s w hT)
end Go.Proofs.YtfoamihjmmgnlaaDoor
