/- Contract: the document's example, as the statements of layer 1 ask it first. -/
import Derived.Test.YtfoamihjmmgnlaaDoorSetG
import Derived.Laws.BytesArg
namespace Go.Proofs.YtfoamihjmmgnlaaDoor
set_option maxRecDepth 100000
open Go.RowKit Go.Shelf
attribute [local go_sem] Oper.semAt_some

theorem enters_runs : ∀ args w, (callFunc 56 args).run Tryd.prog w = .ok (.enter 56 args) w := enters_of Tryd.func56 (by kernel_rfl) rfl

/-- a, b, c and x. -/
def sEx : BitVec 256 := setOf [97, 98, 99, 120]
theorem sEx_card : card sEx = 4 := by decide +kernel
theorem allB_card : card allB = 256 := by decide +kernel
theorem sEx_runs : runsOf sEx = [(97, 99), (120, 120)] := by decide +kernel

/-- The text that the example gathers. -/
def outS (l : List (Nat × Nat)) : ByteArray := ⟨(l.flatMap fun r => [UInt8.ofNat r.1, UInt8.ofNat r.2]).toArray⟩
theorem outS_snoc (l : List (Nat × Nat)) (x : Nat × Nat) : outS (l ++ [x]) = outS l ++ strOfNums [(x.1 : Int), (x.2 : Int)] := by
  apply ByteArray.ext
  simp [outS, strOfNums, ByteArray.data_append]
theorem outS_size (l : List (Nat × Nat)) : (outS l).size = 2 * l.length := by
  induction l with
  | nil => rfl
  | cons a l ih =>
    simp [outS, ByteArray.size] at *
    omega
theorem two_bytes (W : World) (a b : Nat) : (convert 35 9 (.slice (some ⟨W.heap.size, 0, none⟩) 2 2)).run Tryd.prog (W.alloc (.cells #[.int .u8 a, .int .u8 b] 5)) = .ok (.string (strOfNums [(a : Int), (b : Int)])) (W.alloc (.cells #[.int .u8 a, .int .u8 b] 5)) := by
  refine run_convert_bytes_arg _ 35 5 Tryd.underlying35 Tryd.underlying5 _ 0 2 2 [(a : Int), (b : Int)] rfl ?_ 9 Tryd.underlying9
  intro i hi
  rw [(Blk.new W _ _).cell]
  match i, hi with
  | 0, _ => rfl
  | 1, _ => rfl

set_option maxRecDepth 100000 in
set_option maxHeartbeats 2000000 in
theorem head1_in (w : World) (hT : TabAt w) :
    CallsIn Fence.wide 0 Tryd.prog 14 #[] w fun e w' => e = .returned (.bool true) ∧ Below w.heap.size w w' := by
  refine callsIn_of_wp_marks Tryd.func14 rfl trivial ?_ rfl
  simp only [Tryd.ntmps14, List.size_toArray, List.length_nil, Nat.reduceSub, Array.replicate_succ, Array.replicate_zero, List.push_toArray, List.append_toArray, List.nil_append, List.cons_append]
  gi_wp2_with fail
  refine ⟨trivial, rfl, ?_⟩
  refine (callsIn_wide.2 (of_any [97, 98, 99, 120] (by decide) _ (some ⟨w.heap.size, 0, none⟩) 4 ?_ (by decide))).mono ?_
  · intro k hk
    refine ⟨w.heap.size, 0, rfl, by simp, ?_⟩
    rw [(Blk.new w _ _).cell]
    match k, hk with
    | 0, _ => rfl
    | 1, _ => rfl
    | 2, _ => rfl
    | 3, _ => rfl
  rw [show setOf [97, 98, 99, 120] = sEx from rfl]
  rintro e w1 ⟨rfl, hb1⟩
  have HB1 := hide ((Below.refl w.heap.size w).alloc (Nat.le_refl _) (.cells #[.int .u8 97, .int .u8 98, .int .u8 99, .int .u8 120] 5) |>.trans (hb1.mono (by simp)))
  clear hb1
  gi_wp2_with fail
  refine ⟨trivial, rfl, ?_⟩
  refine (callsIn_wide.2 (len_any sEx _)).mono ?_
  rw [sEx_card]
  rintro e w2 ⟨rfl, hb2⟩
  have k2 := (Blk.new w1 (WS sEx) 24).below hb2 (by simp)
  have HB2 := hide (HB1.out.trans ((((Below.refl w1.heap.size w1).alloc (Nat.le_refl _) (.cells (WS sEx) 24)).trans (hb2.mono (by simp))).mono HB1.out.size))
  clear hb2
  gi_wp2_with fail
  refine ⟨trivial, rfl, ?_⟩
  refine (callsIn_wide.2 (all_any _)).mono ?_
  rintro e w3 ⟨rfl, hb3⟩
  have k3 := k2.below hb3 k2.lt
  have HB3 := hide (HB2.out.trans (hb3.mono HB2.out.size))
  clear hb3 k2
  gi_wp2_with fail
  refine ⟨trivial, rfl, ?_⟩
  refine (callsIn_wide.2 (len_any allB _)).mono ?_
  rw [allB_card]
  rintro e w4 ⟨rfl, hb4⟩
  have k4 := k3.below hb4 k3.lt
  have HB4 := hide (HB3.out.trans (hb4.mono HB3.out.size))
  clear hb4 k3
  have c0 := k4.cell 0; have c1 := k4.cell 1; have c2 := k4.cell 2; have c3 := k4.cell 3
  simp only [List.getElem?_toArray, List.getElem?_cons_zero, List.getElem?_cons_succ] at c0 c1 c2 c3
  have hz4 := k4.lt
  gi_wp2_with fail
  refine ⟨trivial, rfl, ?_⟩
  refine (callsIn_wide.2 (runs_any sEx _)).mono ?_
  rintro e w5 ⟨rfl, rfl⟩
  gi_wp2
  refine wpIn_world (fun W => Blk W w4.heap.size #[.string (outS [])] 9 ∧ Blk W (w4.heap.size + 1) (WS sEx) 24 ∧ Below w4.heap.size w4 W) ⟨?_, ?_, ?_⟩ ?_
  · exact (Blk.newAt (by simp) _ _).alloc _
  · exact Blk.newAt (by simp) _ _
  · exact ((Below.refl _ _).alloc (Nat.le_refl _) _).alloc (by simp) _
  rintro W0 ⟨k1, k2, hbel⟩
  have z1 := k1.lt; have z2 := k2.lt
  have hT0 : TabAt W0 := hT.agree (Agree.of_all (K := fun _ => True) (HB4.out.trans (hbel.mono HB4.out.size))) trivial
  have hG : 0 < w.heap.size := World.block_lt_of_cell? _ _ (hT 0 (by omega))
  have hsz := HB4.out.size
  have HT := hide hT0
  have HB := hide hbel
  clear hT hT0 hbel c0 c1 c2 c3
  generalize hN : w4.heap.size = N at *
  refine wpIn_rangeM (gf := 56) (lb := #[.pointer (some ⟨N + 1, 0, none⟩)]) rfl enters_runs (encs := fun x : Nat × Nat => #[.int .u8 x.1, .int .u8 x.2]) (xs := runsOf sEx)
    (own := fun k => k = N + 1 ∨ k = 0)
    (fun W1 hb => runs1_any sEx _ W1 (k2.below hb z2) (HT.out.agree (Agree.of_all (K := fun _ => True) hb) trivial)) (fun _ => rfl)
    (fun pre M W => M N ∧ Blk W N #[.string (outS pre)] 9)
    (fun _ _ _ _ => False)
    (fun _ M A B h ha => ⟨h.1, h.2.agree ha h.1⟩)
    (fun _ _ M A B h ha => h)
    (fun k => k = N) (fun k hk => by omega)
    (fun k hk => by rcases hk with rfl | rfl <;> exact ⟨fun h => by omega, by omega⟩) ⟨rfl, k1⟩
    (fun x => { tmps := #[.bool false, .pointer (some ⟨w1.heap.size, 0, none⟩), .pointer (some ⟨N, 0, none⟩), .int .u8 x.1, .int .u8 x.2, .slice (some ⟨w.heap.size, 0, none⟩) 4 4, SV sEx, SV sEx,
        .int .i64 4, .bool false, .bool false, SV allB, .int .i64 256, .bool false, .bool false, SV sEx, .func (.func 56) #[] #[.pointer (some ⟨N + 1, 0, none⟩)],
        .int .u8 x.1, .int .u8 x.2, undef, undef, undef, undef, undef, undef, undef, undef], defers := [] }) ?assign ?body ?done ?stop
  case assign =>
    intro l x W K hK
    gi_wp2
    exact hK
  case body =>
    rintro l pre x M W hpre ⟨m1, b1⟩ hM
    have f1 := b1.frozen 0
    have hNW := b1.lt
    have e1 := b1.cell 0
    simp only [List.getElem?_toArray, List.getElem?_cons_zero] at e1
    have hcv := two_bytes W x.1 x.2
    have hlen : pre.length ≤ 1 := by
      have := hpre.length_le
      rw [sEx_runs] at this
      simp at this; omega
    have hso : (outS pre).size ≤ 2 := by rw [outS_size]; omega
    have hst : (strOfNums [(x.1 : Int), (x.2 : Int)]).size ≤ 2 := by rw [strOfNums_size]; simp
    have hsn := outS_snoc pre x
    generalize outS pre = o at *
    generalize strOfNums [(x.1 : Int), (x.2 : Int)] = tt at *
    have HSN := hide hsn
    clear hsn hpre hlen
    gi_wp2
    have b2 := (b1.set 0 (.string (o ++ tt))).alloc (.cells #[.int .u8 x.1, .int .u8 x.2] 5)
    refine ⟨M, Foot.same hM ((Agree.setCell _ _ _ (fun h => h m1)).trans (Agree.alloc _ _ _)), m1, ?_⟩
    rw [HSN.out]; exact b2
  case done =>
    rintro D M' W ⟨m1, b1⟩ hF hD hK hn
    have e1 := b1.cell 0
    simp only [List.getElem?_toArray, List.getElem?_cons_zero] at e1
    rw [sEx_runs, show outS [(97, 99), (120, 120)] = ⟨#[97, 99, 120, 120]⟩ from by decide +kernel] at e1
    have HF := hide hF
    have HK := hide hK
    clear hF hK
    gi_wp2
    refine leave_mark HK.out (results_tmp rfl _ _ _) ⟨rfl, ?_⟩
    have hb : Below w.heap.size W0 W := HF.out.agree.below w.heap.size (by omega) (fun k hk h => by omega)
    exact below_put ((HB4.out.trans (HB.out.mono (by omega))).trans hb) (by omega) _
  case stop =>
    rintro D c pre M' W hp h
    exact h.elim

theorem head1_any (w : World) (hT : TabAt w) :
    Calls Tryd.prog 14 #[] w fun e w' => e = .returned (.bool true) ∧ Below w.heap.size w w' := callsIn_wide.1 (head1_in w hT)
end Go.Proofs.YtfoamihjmmgnlaaDoor
