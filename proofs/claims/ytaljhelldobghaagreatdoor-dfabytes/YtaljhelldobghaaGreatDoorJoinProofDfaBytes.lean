/- DfaBytes answers true for every shape: bytes of one part lead everywhere to the same. Conditions: the table of math/bits holds what its initialiser lays (the card ties that to the program's text). -/
/- Texts of this claim put together: DfaM, LawDfaBytes, ProofDfaBytes. -/
import Derived.Test.YtaljhelldobghaaGreatDoorJoinHead6
import Derived.Laws.OwnMore
import Derived.Lib.SliceRun
import Derived.Test.YtaljhelldobghaaGreatDoorJoinSomeInts
import Derived.Test.YtaljhelldobghaaGreatDoorJoinSetG
import Derived.Test.YtaljhelldobghaaGreatDoorCards
import Derived.Test.YtaljhelldobghaaGreatDoorTie
/- Heads: a row of their own. -/
namespace Go.Proofs.YtaljhelldobghaaGreatDoor
set_option maxRecDepth 100000
set_option linter.unusedSimpArgs false
set_option linter.unusedVariables false
open Go.RowKit

theorem clone_bytes (v : Value) (l : List Nat) (w : World) (h : OwnG w 0 5 (.int .u8 0) v (byteV l)) (h0 : 0 < l.length) (hl : l.length ≤ 1000000) :
    Calls Tryz.prog 52 #[v] w fun e w' => ∃ v', e = .returned v' ∧ OwnG w' w.heap.size 5 (.int .u8 0) v' (byteV l) ∧ Below w.heap.size w w' := by
  have hbl : (byteV l).length = l.length := by simp [byteV]
  obtain ⟨g, cap, rfl, -, hg, hcap, hc⟩ := h.at (by rw [hbl]; exact h0)
  rw [hbl] at hcap ⊢
  have hb1 := (Below.refl w.heap.size w).alloc (Nat.le_refl _) (.cells #[] 5)
  have hblk := Blk.newAt (w := w) rfl #[] 5
  have hown : OwnG (w.alloc (.cells #[] 5)) w.heap.size 5 (.int .u8 0) (.slice (some ⟨w.heap.size, 0, none⟩) 0 0) [] := .inr ⟨w.heap.size, 0, #[], rfl, Nat.le_refl _, hblk, by simp, by unfold maxLen; omega, by simp⟩
  obtain ⟨v', W', hr, ho, ha⟩ := run_appendG 29 5 29 (.int .u8 0) 1 Tryz.underlying29 infoB8 (by omega) rfl hown ⟨g, 0, none⟩ cap (byteV l) (by rw [hbl]; exact h0)
    (fun j u hj => by
      rw [Go.WideShapes.add_plain, Nat.zero_add]
      have := hc j u hj
      rw [← this]
      exact World.cell?_of_block (w := w) (hb1.block g hg)) (fun u hu => by
        obtain ⟨x, -, rfl⟩ := List.mem_map.1 hu
        rfl) (by rw [hbl]; simp; omega) (by simp)
  rw [hbl] at hr
  rw [List.nil_append] at ho
  have HO := hide ho
  have HB := hide ((hb1.mono (Nat.le_refl _)).trans ha.below)
  obtain ⟨av, cv, rfl, -⟩ := ho.slice
  rw [hbl] at HO hr
  clear ho ha hown hblk hb1 hc h
  have hne := Go.Lib.run_eql_slice_nil (P := Tryz.prog) w 29 5 (some ⟨g, 0, none⟩) l.length cap 0 0 Tryz.underlying29
  go_enter Tryz.func52, Tryz.ntmps52
  go_wp2_with (refine wpList_append_run rfl _ _ _ rfl _ _ _ rfl rfl hr ?_)
  go_ret
  exact ⟨_, rfl, HO.out, HB.out⟩
theorem DfaR.heads {W : World} {p : Nat} {r : RE} {pl : List (BitVec 256)} {S : List RE} {rows : List (List Nat)} (h : DfaR W p r pl S rows) :
    Calls Tryz.prog 16 #[PT p] W fun e w' => ∃ v', e = .returned v' ∧ OwnG w' W.heap.size 5 (.int .u8 0) v' (byteV (pl.map least)) ∧ Below W.heap.size W w' := by
  obtain ⟨vh, vn, vy, vs, h1, h2, -⟩ := h.at'.ex
  have hpl : pl.length ≤ 256 := parts_256 h.ok.part
  have hp0 : 0 < pl.length := by have := (head_of h.ok.part (b := 0) (by omega)).1; omega
  have HC := hide (clone_bytes vh (pl.map least) W h2 (by simpa using hp0) (by simp; omega))
  have c0 := h1.cell 0
  rw [dfaC_0] at c0
  obtain ⟨av, cv, rfl, -⟩ := h2.slice
  clear h h1 h2
  unfold PT
  go_enter Tryz.func16, Tryz.ntmps16
  go_wp2_with fail
  refine HC.out.mono ?_
  rintro e w1 ⟨v', rfl, ho, hb⟩
  obtain ⟨a1, c1, rfl, -⟩ := ho.slice
  have HO := hide ho
  have HB := hide hb
  clear ho hb HC
  go_wp2
  go_ret
  exact ⟨_, rfl, HO.out, HB.out⟩
/-- The part of a byte, told by any part that has it. -/
theorem idx_at {l pl : List (BitVec 256)} (h : IsPart l pl) {b j : Nat} (hb : b < 256) (hj : j < pl.length) (hjb : (pl.getD j 0).getLsbD b = true) : idxF pl pl.length b = j := by
  obtain ⟨h1, h2⟩ := idx_part h hb
  generalize idxF pl pl.length b = i at *
  rcases Nat.lt_trichotomy i j with hlt | e | hgt
  · have := (List.pairwise_iff_getElem.1 h.apart) i j h1 hj hlt b (by simpa [List.getD_eq_getElem?_getD, h1] using h2)
    rw [List.getD_eq_getElem?_getD, List.getElem?_eq_getElem hj] at hjb
    rw [show pl[j].getLsbD b = true from hjb] at this
    cases this
  · exact e
  · have := (List.pairwise_iff_getElem.1 h.apart) j i hj h1 hgt b (by simpa [List.getD_eq_getElem?_getD, hj] using hjb)
    rw [List.getD_eq_getElem?_getD, List.getElem?_eq_getElem h1] at h2
    rw [show pl[i].getLsbD b = true from h2] at this
    cases this
theorem idx_least {l pl : List (BitVec 256)} (h : IsPart l pl) {j : Nat} (hj : j < pl.length) : idxF pl pl.length ((pl.map least).getD j 0) = j ∧ (pl.map least).getD j 0 < 256 := by
  have e : (pl.map least).getD j 0 = least pl[j] := by simp [List.getD_eq_getElem?_getD, hj]
  have hne := (h.mem _ (List.getElem_mem hj)).1
  rw [e]
  refine ⟨idx_at h (least_lt _) hj ?_, least_lt _⟩
  rw [List.getD_eq_getElem?_getD, List.getElem?_eq_getElem hj]
  exact (least_mem hne).1
end Go.Proofs.YtaljhelldobghaaGreatDoor
/- DfaBytes: bytes of one part lead everywhere to the same. -/
namespace Go.Proofs.YtaljhelldobghaaGreatDoor
set_option maxRecDepth 100000
set_option linter.unusedSimpArgs false
set_option linter.unusedVariables false
open Go.RowKit

theorem x_idxH (ρ : Operand → Value) (d : Option Tmp) (x y : Operand) (t : TypeId) (pos : String) (af : Array Edge) (g : Option (Nat × Bool)) (b len cap : Nat) (n : Nat) (hx : ρ x = .slice (some ⟨b, 0, none⟩) len cap) (hy : ρ y = .int .i64 n) (h1 : n < len) (w : World) :
    (execOp ρ { dst := d, op := .indexAddr 29 x y, type := t, pos := pos, after := af, guard := g }).run Tryz.prog w = .ok (.value (.pointer (some ⟨b, n, none⟩))) w := by
  simp [go_sem, hx, hy, h1]
theorem x_loadH (ρ : Operand → Value) (d : Option Tmp) (x : Operand) (t : TypeId) (pos : String) (af : Array Edge) (g : Option (Nat × Bool)) (b n : Nat) (v : Value) (hx : ρ x = .pointer (some ⟨b, n, none⟩)) (w : World) (hc : w.cell? ⟨b, n, none⟩ = some v) :
    (execOp ρ { dst := d, op := .load 5 x, type := t, pos := pos, after := af, guard := g }).run Tryz.prog w = .ok (.value v) w := by
  simp [go_sem, hx, hc]
theorem x_neqSame (ρ : Operand → Value) (d : Option Tmp) (x y : Operand) (t : TypeId) (pos : String) (af : Array Edge) (g : Option (Nat × Bool)) (u : Int) (hx : ρ x = .int .i64 u) (hy : ρ y = .int .i64 u) (w : World) :
    (execOp ρ { dst := d, op := .binOp .neq 3 x y 3, type := t, pos := pos, after := af, guard := g }).run Tryz.prog w = .ok (.value (.bool false)) w := by
  simp [go_sem, hx, hy]

set_option maxHeartbeats 4000000 in
theorem dfaBytes_any (cs : List Value) (s : SHP) (w : World) (hs : ShC w cs s) (hT : TabAt w) :
    Calls Tryz.prog 5 #[ShVal cs] w fun e w' => e = .returned (.bool true) ∧ Below w.heap.size w w' := by
  have HC := hide hs
  have HT := hide hT
  obtain ⟨kv, hcs, hrow, -⟩ := hs.open
  obtain ⟨-, a, cap, rfl, -⟩ := hrow.at
  have HCS := hide hcs
  have hv0 : ShVal cs = .agg #[.int .i64 s.op, .int .u8 s.lo, .int .u8 s.hi, .string s.text, .slice a s.kids.length cap] := by rw [hcs]; rfl
  rw [hv0]
  have HV0 := hide hv0
  clear hs hT hrow hcs hv0
  obtain ⟨B, hB⟩ : ∃ B, B = w.heap.size := ⟨_, rfl⟩
  go_enter Tryz.func5, Tryz.ntmps5
  go_wp2_with fail
  have hb0 : Below B w (w.alloc (.cells #[.int .i64 s.op, .int .u8 s.lo, .int .u8 s.hi, .string s.text, .slice a s.kids.length cap] 24)) := (Below.refl _ _).alloc (Nat.le_of_eq hB) _
  have hbx : Blk (w.alloc (.cells #[.int .i64 s.op, .int .u8 s.lo, .int .u8 s.hi, .string s.text, .slice a s.kids.length cap] 24)) B #[.int .i64 s.op, .int .u8 s.lo, .int .u8 s.hi, .string s.text, .slice a s.kids.length cap] 24 := Blk.newAt hB _ _
  refine (head6_any _ (HT.out.agree (Agree.of_all (K := fun _ => True) (hB ▸ hb0)) trivial)).mono ?_
  rintro e w1 ⟨rfl, hb1⟩
  have hbx1 := hbx.below hb1 hbx.lt
  have HX1 := hide hbx1
  have HB1 := hide (hb0.trans (hb1.mono (by simp; omega)))
  have HB := hide hB
  rw [← hB]
  clear hb0 hbx hb1 hB
  have xB := hbx1
  have x0 := xB.cell 0; have x1 := xB.cell 1; have x2 := xB.cell 2; have x3 := xB.cell 3; have x4 := xB.cell 4
  simp only [List.getElem?_toArray, List.getElem?_cons_zero, List.getElem?_cons_succ] at x0 x1 x2 x3 x4
  clear xB
  clear hbx1
  have hfew := few_any s _ w1 (HC.out.keep (HB.out ▸ HB1.out))
  rw [HV0.out] at hfew
  have HFEW := hide hfew
  clear hfew
  go_wp2_with fail
  refine HFEW.out.mono ?_
  rintro e w2 ⟨few, rfl, hfw, hb2⟩
  have hsB1 : B ≤ w1.heap.size := by have := HX1.out.lt; omega
  have HB2 := hide (HB1.out.trans (hb2.mono hsB1))
  have hbx2 := HX1.out.below hb2 HX1.out.lt
  have HX2 := hide hbx2
  have HFW := hide hfw
  clear hb2 hfw HFEW x0 x1 x2 x3 x4 HX1 HB1
  cases few
  · clear hbx2
    go_wp2
    go_ret
    exact ⟨rfl, HB.out ▸ HB2.out⟩
  obtain ⟨htx, hnd⟩ := HFW.out rfl
  clear HFW
  have xB := hbx2
  have x0 := xB.cell 0; have x1 := xB.cell 1; have x2 := xB.cell 2; have x3 := xB.cell 3; have x4 := xB.cell 4
  simp only [List.getElem?_toArray, List.getElem?_cons_zero, List.getElem?_cons_succ] at x0 x1 x2 x3 x4
  clear xB
  clear hbx2
  have hsB2 : B ≤ w2.heap.size := by have := HX2.out.lt; omega
  have hmk := make_any s _ w2 (HC.out.keep (HB.out ▸ HB2.out)) htx hnd (HT.out.agree (Agree.of_all (K := fun _ => True) (HB.out ▸ HB2.out)) trivial)
  rw [HV0.out] at hmk
  have HMK := hide hmk
  clear hmk
  go_wp2_with fail
  refine HMK.out.mono ?_
  rintro e w3 ⟨rb, rfl, hr3, hb3⟩
  have HB3 := hide (HB2.out.trans (hb3.mono hsB2))
  have HR3 := hide hr3
  have hsB3 : B ≤ w3.heap.size := by have := hb3.size; omega
  have hwf := s.wf
  have hcnt : s.re.cnt ≤ 660 := by have := s.cnt htx; omega
  clear x0 x1 x2 x3 x4 HX2 HB2 HMK hsB2 hsB1 hb3 hr3
  go_wp2_with fail
  refine (grant_any 300 w3 (by omega)).mono ?_
  rintro e w4 ⟨bud, rfl, hbd, hbl, hb4⟩
  rw [show max (300 : Int) 0 = 300 from by omega] at hbd
  have HB4 := hide (HB3.out.trans (hb4.mono hsB3))
  have hwb : B ≤ bud := Nat.le_trans hsB3 hbl
  have HT4 := hide (HT.out.agree (Agree.of_all (K := fun _ => True) (HB.out ▸ HB4.out)) trivial)
  have HR4 := hide (HR3.out.keep hb4)
  have HBU := hide (build_new s.re rb w4 HR4.out hwf bud 300 hbd (by omega) (by omega) HT4.out)
  have hBs4 : B ≤ w4.heap.size := Nat.le_trans hsB3 hb4.size
  have HBD := hide hbd
  clear hbd hbl hb4 HR3
  unfold PT at HBU
  try unfold PT
  go_wp2_with fail
  refine HBU.out.mono ?_
  rintro e w5 ⟨pl, hp1, hp2, hl, hh⟩
  have HB5 := hide (HB4.out.trans (hl.below hBs4 hwb))
  have HR5 := hide (@ReAt.left forbNone forbNone w4 w5 rb w4.heap.size bud _ _ s.re HR4.out hl (Nat.le_refl _) HBD.out (FL.none _) (fun _ _ h => h))
  have hsB5 : B ≤ w5.heap.size := by have := hl.size; omega
  clear HBU HBD
  rcases hh with ⟨-, rfl, -, -⟩ | ⟨sb, rows, p, -, rfl, -, hd, -, -⟩
  · clear hl
    go_wp2
    go_ret
    exact ⟨rfl, HB.out ▸ HB5.out⟩
  have HD := hide hd
  have HP1 := hide hp1
  have HP2 := hide hp2
  have hip := hd.ok.part
  have HIP := hide hip
  have hplen : pl.length ≤ 256 := parts_256 hip
  clear hl hd hp1 hp2 hip
  have HSE := hide (Sets_any s.re rb w5 HR5.out (by have := sts_le false s.re; omega))
  clear HR4
  unfold PT at HSE
  go_wp2_with fail
  refine HSE.out.mono ?_
  rintro e w6 ⟨v6, rfl, ho6, hb6⟩
  have HB6 := hide (HB5.out.trans (hb6.mono hsB5))
  have HRF := hide (refine_big (s.re.sts false) v6 w6 (ho6.row (by have := sts_le false s.re; omega)) (by have := sts_le false s.re; omega) (HT.out.agree (Agree.of_all (K := fun _ => True) (HB.out ▸ HB6.out)) trivial))
  obtain ⟨a6, c6, rfl, -⟩ := ho6.slice
  have HD6 := hide (HD.out.keep hb6)
  have hsB6 : B ≤ w6.heap.size := by have := hb6.size; omega
  clear ho6 hb6 HSE HD HR5
  go_wp2_with fail
  refine HRF.out.mono ?_
  rintro e w7 ⟨v7, pl7, rfl, hq1, hq2, hrow7, hb7⟩
  have hpl7 : pl7 = pl := parts_one hq1 HP1.out (fun _ _ _ _ => Iff.rfl) hq2 HP2.out
  subst hpl7
  have HB7 := hide (HB6.out.trans (hb7.mono hsB6))
  have HD7 := hide (HD6.out.keep hb7)
  have HROW := hide hrow7
  have HHE := hide (HD6.out.keep hb7).heads
  obtain ⟨-, a7, c7, rfl, -⟩ := hrow7
  have hsB7 : B ≤ w7.heap.size := by have := hb7.size; omega
  clear hq1 hq2 hb7 HRF HD6 HP1 HP2
  unfold PT at HHE
  go_wp2_with fail
  refine HHE.out.mono ?_
  rintro e w8 ⟨v8, rfl, ho8, hb8⟩
  have HB8 := hide (HB7.out.trans (hb8.mono hsB7))
  have HD8 := hide (HD7.out.keep hb8)
  have HROW8 := hide (HROW.out.below hb8)
  have HO8 := hide ho8
  have hsB8 : B ≤ w8.heap.size := by have := hb8.size; omega
  have hpl0 : 0 < pl7.length := by have := (idx_part HIP.out (b := 0) (by omega)).1; omega
  obtain ⟨hg, hc, rfl, -, -, -, hcell⟩ := ho8.at (by simp [byteV]; omega)
  have hbl : (byteV (pl7.map least)).length = pl7.length := by simp [byteV]
  rw [hbl] at HO8 ⊢
  have HCELL := hide hcell
  clear ho8 hb8 HHE HD7 HROW hcell hbl
  obtain ⟨n, hn⟩ : ∃ n, n = pl7.length := ⟨_, rfl⟩
  rw [← hn] at hplen hpl0 HO8 ⊢
  have HN := hide hn
  clear hn
  have hne : ((n : Int) == n) = true := by simp
  have hst := HD8.out.ok.len
  go_wp2
  go_loopw [41] (fun c wr => ∃ (i : Nat), i ≤ n ∧ c = .int .i64 i ∧ Hid (Below w8.heap.size w8 wr)) (fun c _ => n - (intOf c).toNat)
  case atStart => exact ⟨0, by omega, rfl, Below.refl _ _⟩
  case round =>
    obtain ⟨i, hi, rfl, HBI⟩ := hrel
    by_cases hin : i < n
    · have hkd : decide (i < n) = true := by simp [hin]
      have hii : (0 : Int) ≤ i ∧ (i : Int) < n := by omega
      obtain ⟨-, a9, c9, e9, hc9⟩ := HROW8.out.below HBI.out
      obtain ⟨rfl, rfl⟩ : a7 = a9 ∧ c7 = c9 := by injection e9 with x1 x2 x3; exact ⟨x1, x3⟩
      obtain ⟨rbk, roff, rfl, -, hcc⟩ := hc9 i (by rw [← HN.out]; exact hin)
      obtain ⟨st, hst⟩ : ∃ st, st = pl7.getD i 0 := ⟨_, rfl⟩
      rw [← hst] at hcc
      have c0 := hcc 0 (by omega); have c1 := hcc 1 (by omega); have c2 := hcc 2 (by omega); have c3 := hcc 3 (by omega)
      rw [Nat.add_zero] at c0
      have HST := hide hst
      clear hc9 e9 hcc hst
      have hb9 := (Below.refl wr.heap.size wr).alloc (Nat.le_refl _) (.cells (WS st) 54)
      have hX0 := Blk.newAt (w := wr) rfl (WS st) 54
      obtain ⟨X, hX⟩ : ∃ X, X = wr.heap.size := ⟨_, rfl⟩
      have HB9 := hide (HBI.out.trans (hb9.mono HBI.out.size))
      clear hb9
      go_wp2
      rw [← hX] at hX0 ⊢
      clear c0 c1 c2 c3 hX
      generalize wr.alloc (.cells #[.int .u64 (wd st 0), .int .u64 (wd st 1), .int .u64 (wd st 2), .int .u64 (wd st 3)] 54) = w9 at *
      go_loopw [10] (fun c wr => ∃ (b : Nat), b ≤ 256 ∧ c = .int .i64 b ∧ Hid (Blk wr X (WS st) 54) ∧ Hid (Below w8.heap.size w8 wr)) (fun c _ => 256 - (intOf c).toNat)
      case atStart => exact ⟨0, by omega, rfl, hX0, HB9⟩
      case round =>
        clear hX0 HB9 HBI
        obtain ⟨b, hb, rfl, HX, HBB⟩ := hrel
        by_cases hlt : b < 256
        · have hkd2 : decide ((b : Int) < 256) = true := decide_eq_true (by omega)
          have hcv : IntKind.u8.wrap (b : Int) = (b : Int) := by simp [IntKind.wrap, IntKind.signed, IntKind.bits]; omega
          have x0 := HX.out.cell 0; have x1 := HX.out.cell 1; have x2 := HX.out.cell 2; have x3 := HX.out.cell 3
          simp only [List.getElem?_toArray, List.getElem?_cons_zero, List.getElem?_cons_succ] at x0 x1 x2 x3
          have HHS := hide (has_any st b (by omega) (by omega) wr)
          rw [Int.toNat_natCast] at HHS
          unfold SV at HHS
          go_wp2_with fail
          refine HHS.out.mono ?_
          rintro e w10 ⟨rfl, hb10⟩
          have HB10 := hide (HBB.out.trans (hb10.mono HBB.out.size))
          have HX10 := hide (HX.out.below hb10 HX.out.lt)
          clear hb10 HHS x0 x1 x2 x3
          cases hbit : st.getLsbD b with
          | false =>
            go_wp2
            exact ⟨⟨b + 1, by omega, by go_num, HX10.out, HB10.out⟩, by simp [intOf]; omega⟩
          | true =>
            have HBIT := hide hbit
            clear hbit
            go_wp2
            go_loopw [11] (fun c wr => ∃ (q : Nat), q ≤ 20 ∧ c = .int .i64 q ∧ Hid (Blk wr X (WS st) 54) ∧ Hid (Below w8.heap.size w8 wr)) (fun c _ => 20 - (intOf c).toNat)
            case atStart => exact ⟨0, by omega, rfl, HX10.out, HB10.out⟩
            case round =>
              clear HX10 HB10 HX HBB
              obtain ⟨q, hq, rfl, HX, HBB⟩ := hrel
              have HDQ := hide (HD8.out.keep HBB.out)
              have HLN := hide HDQ.out.len
              unfold PT at HLN
              go_wp2_with fail
              refine HLN.out.mono ?_
              rintro e w11 ⟨rfl, rfl⟩
              clear HLN
              obtain ⟨ns, hns⟩ : ∃ ns, ns = sb.S.length := ⟨_, rfl⟩
              rw [← hns]
              have HNS := hide hns
              clear hns
              by_cases hlq : q < ns ∧ q < 20
              · have hd1 : decide ((q : Int) < min (ns : Int) 20) = true := decide_eq_true (by omega)
                go_wp2
                clear hd1
                obtain ⟨sv, hsv⟩ : ∃ sv, sv = stepN rows (idxF pl7 pl7.length) q b := ⟨_, rfl⟩
                obtain ⟨lb, hlb⟩ : ∃ lb, lb = (pl7.map least).getD i 0 := ⟨_, rfl⟩
                have hi7 : i < pl7.length := by rw [← HN.out]; exact hin
                have hid1 : idxF pl7 pl7.length b = i := idx_at HIP.out hlt hi7 (by rw [← HST.out]; exact HBIT.out)
                obtain ⟨hid2, hlb2⟩ := idx_least HIP.out hi7
                rw [← hlb] at hid2 hlb2
                have hsv2 : stepN rows (idxF pl7 pl7.length) q lb = sv := by rw [hsv]; unfold stepN; rw [hid1, hid2]
                obtain ⟨C, hC⟩ : ∃ C : World → Prop, C = fun W => Below w11.heap.size w11 W := ⟨_, rfl⟩
                have hcb : ∀ W, C W → Below w11.heap.size w11 W := fun W h => by rw [hC] at h; exact h
                have hG : Grows C := fun W W' h hb => by rw [hC] at h ⊢; exact h.trans (hb.mono h.size)
                have hfit := HDQ.out.ok.fit
                have hq1 : ∀ W, C W → Calls Tryz.prog 19 #[PT p, .int .i64 q, .int .u8 b] W fun e w' => e = .returned (.int .i64 sv) ∧ Below W.heap.size W w' := fun W hW => by
                  rw [hsv]; exact dstep_all p _ _ rows _ _ _ q b W (HDQ.out.keep (hcb W hW)).at' hlt (hfit b hlt)
                have hq2 : ∀ W, C W → Calls Tryz.prog 19 #[PT p, .int .i64 q, .int .u8 lb] W fun e w' => e = .returned (.int .i64 sv) ∧ Below W.heap.size W w' := fun W hW => by
                  rw [← hsv2]; exact dstep_all p _ _ rows _ _ _ q lb W (HDQ.out.keep (hcb W hW)).at' hlb2 (hfit lb hlb2)
                have hqc : ∀ W, C W → W.cell? ⟨hg, i, none⟩ = some (.int .u8 lb) := fun W hW => by
                  have hb := HBB.out.trans ((hcb W hW).mono HBB.out.size)
                  have hcl := HCELL.out i (.int .u8 lb) (by rw [hlb]; simp [byteV, List.getD_eq_getElem?_getD, hi7])
                  rw [← hcl]
                  exact World.cell?_of_block (w := w8) (hb.block hg (World.block_lt_of_cell? _ _ hcl))
                have HC1 : Hid (C { w11 with drawn := w11.drawn + 1 }) := by
                  rw [hC]
                  exact ⟨rfl, rfl, rfl, Nat.le_refl _, fun _ _ => rfl⟩
                have HCB := hide hcb
                clear hC hcb hsv hlb hid1 hid2 hsv2 hfit
                refine w_lit (C := C) (by kernel_rfl) (by kernel_rfl) HC1.out ?_
                refine w_value (PT p) (by kernel_rfl) (fun w hw => x_move _ _ _ _ _ _ _ _ rfl w) ?_
                simp only [Act.put, List.setIfInBounds_toArray, List.set_cons_succ, List.set_cons_zero]
                refine w_value (.int .i64 q) (by kernel_rfl) (fun w hw => x_move _ _ _ _ _ _ _ _ rfl w) ?_
                simp only [Act.put, List.setIfInBounds_toArray, List.set_cons_succ, List.set_cons_zero]
                refine w_value (.int .i64 b) (by kernel_rfl) (fun w hw => x_move _ _ _ _ _ _ _ _ rfl w) ?_
                simp only [Act.put, List.setIfInBounds_toArray, List.set_cons_succ, List.set_cons_zero]
                refine w_value (.int .u8 b) (by kernel_rfl) (fun w hw => x_convU8 _ _ _ _ _ _ _ b rfl (by omega) (by omega) w) ?_
                simp only [Act.put, List.setIfInBounds_toArray, List.set_cons_succ, List.set_cons_zero]
                refine w_call hG 19 #[PT p, .int .i64 q, .int .u8 b] (.int .i64 sv) (by kernel_rfl) (fun w => x_call3 _ _ _ _ _ _ _ _ _ _ _ _ _ _ _ _ rfl rfl rfl rfl (enters_of Tryz.func19 (by kernel_rfl) rfl) w) (fun w hw => hq1 w hw) ?_
                simp only [Act.put, List.setIfInBounds_toArray, List.set_cons_succ, List.set_cons_zero]
                refine w_value (PT p) (by kernel_rfl) (fun w hw => x_move _ _ _ _ _ _ _ _ rfl w) ?_
                simp only [Act.put, List.setIfInBounds_toArray, List.set_cons_succ, List.set_cons_zero]
                refine w_value (.int .i64 q) (by kernel_rfl) (fun w hw => x_move _ _ _ _ _ _ _ _ rfl w) ?_
                simp only [Act.put, List.setIfInBounds_toArray, List.set_cons_succ, List.set_cons_zero]
                refine w_value (.slice (some ⟨hg, 0, none⟩) n hc) (by kernel_rfl) (fun w hw => x_move _ _ _ _ _ _ _ _ rfl w) ?_
                simp only [Act.put, List.setIfInBounds_toArray, List.set_cons_succ, List.set_cons_zero]
                refine w_value (.int .i64 i) (by kernel_rfl) (fun w hw => x_move _ _ _ _ _ _ _ _ rfl w) ?_
                simp only [Act.put, List.setIfInBounds_toArray, List.set_cons_succ, List.set_cons_zero]
                refine w_value (.pointer (some ⟨hg, i, none⟩)) (by kernel_rfl) (fun w hw => x_idxH _ _ _ _ _ _ _ _ hg n hc i rfl rfl hin w) ?_
                simp only [Act.put, List.setIfInBounds_toArray, List.set_cons_succ, List.set_cons_zero]
                refine w_value (.int .u8 lb) (by kernel_rfl) (fun w hw => x_loadH _ _ _ _ _ _ _ hg i _ rfl w (hqc w hw)) ?_
                simp only [Act.put, List.setIfInBounds_toArray, List.set_cons_succ, List.set_cons_zero]
                refine w_call hG 19 #[PT p, .int .i64 q, .int .u8 lb] (.int .i64 sv) (by kernel_rfl) (fun w => x_call3 _ _ _ _ _ _ _ _ _ _ _ _ _ _ _ _ rfl rfl rfl rfl (enters_of Tryz.func19 (by kernel_rfl) rfl) w) (fun w hw => hq2 w hw) ?_
                simp only [Act.put, List.setIfInBounds_toArray, List.set_cons_succ, List.set_cons_zero]
                refine w_value (.bool false) (by kernel_rfl) (fun w hw => x_neqSame _ _ _ _ _ _ _ _ sv rfl rfl w) ?_
                simp only [Act.put, List.setIfInBounds_toArray, List.set_cons_succ, List.set_cons_zero]
                refine w_nil ?_
                intro W hW
                have HX2 := hide (HX.out.below (HCB.out W hW) HX.out.lt)
                have HB2 := hide (HBB.out.trans ((HCB.out W hW).mono HBB.out.size))
                clear hG hq1 hq2 hqc
                go_wp2
                exact ⟨⟨q + 1, by omega, by go_num, HX2.out, HB2.out⟩, by simp [intOf]; omega⟩
              · have hd1 : decide ((q : Int) < min (ns : Int) 20) = false := decide_eq_false (by omega)
                go_wp2
                exact ⟨⟨b + 1, by omega, by go_num, HX, HBB⟩, by simp [intOf]; omega⟩
        · obtain rfl : b = 256 := by omega
          have hkd2 : decide ((256 : Int) < 256) = false := by simp
          go_wp2
          exact ⟨⟨i + 1, by omega, by go_num, HBB⟩, by simp [intOf]; omega⟩
    · have hkd : decide (i < n) = false := by simp [hin]
      have HF := hide (HB8.out.trans (HBI.out.mono hsB8))
      go_wp2
      go_ret
      exact ⟨rfl, HB.out ▸ HF.out⟩
theorem dfaBytes_all (v : Value) (s : SHP) (w : World) (hv : ∃ cs, v = ShVal cs ∧ ShC w cs s) (hT : TabAt w) :
    Calls Tryz.prog 5 #[v] w fun e w' => e = .returned (.bool true) ∧ Below w.heap.size w w' := by
  obtain ⟨cs, rfl, hs⟩ := hv
  exact dfaBytes_any cs s w hs hT
end Go.Proofs.YtaljhelldobghaaGreatDoor
/- DfaBytes answers true for every shape: bytes of one part lead everywhere to the same. Conditions: the table of math/bits holds what its initialiser lays (the card ties that to the program's text). -/
namespace Go.Proofs.YtaljhelldobghaaGreatDoor
set_option maxRecDepth 100000
open Go.ChangeShapes Go.WideShapes Go.ChangeAt Go.WideMaps Go.WideElems Go.RowKit

set_option maxRecDepth 100000 in
theorem dfaBytes_lifted (os : Os) (started : os.Started) (H : Type) (enc : TypeId × Value → H) :
    ReturnsInHanded {} Tryz.checked os 5 .any (fun w args => (Rows.dfaBytesSpec.pre enc Tryz.prog Tryz.f5 [] false w args ∧ laidMetH Tryz.prog [("math/bits.deBruijn64tab", Rows.laid_math_bits_deBruijn64tab)] w) ∧ sizedMet enc Tryz.prog Tryz.f5 (OpenSpec.ofChange Rows.dfaBytesSpec) false w args)
      (Rows.dfaBytesSpec.post enc Tryz.prog Tryz.f5 false true false false) := by
  refine returnsInHanded_of_change_and (C := Tryz.checked) (X := fun w _ => laidMetH Tryz.prog [("math/bits.deBruijn64tab", Rows.laid_math_bits_deBruijn64tab)] w) (fun _ _ _ hh h => h.of_heap hh) own started (by kernel_rfl) Tryz.func5
    (ChangeSpec.witness_shaped (enc := enc) (C := Tryz.checked) (os := os) (X := fun w _ => laidMetH Tryz.prog [("math/bits.deBruijn64tab", Rows.laid_math_bits_deBruijn64tab)] w) false (World.doorLaid Tryz.prog 400 os)
      #[.agg #[.int .i64 0, .int .u8 0, .int .u8 0, .string ⟨#[]⟩, .slice none 0 0]] 8 rfl (World.shaped_of_RefB (by kernel_rfl) (by kernel_rfl)) (by kernel_rfl) (by kernel_rfl) (by kernel_rfl) (door_met os _)) ?_
  intro W base args ds gs before hval0 hW _ _ hL _
  have hval : ∀ (j : Nat) t v, Tryz.f5.params[j]? = some t → args[j]? = some v → Value.okWide Tryz.prog W .any base t v := hval0
  have hW' := hW
  obtain ⟨p, q, hA0, hV, rfl, hfz, hnd⟩ := hW
  have hA : DataW.TrodAll enc Tryz.prog W 0 (fun _ => true) true Tryz.f5.params.toList args.toList ds p := hA0
  rw [Tryz.params5] at hA hval
  obtain ⟨v0, d0, rfl, rfl, h0⟩ := trodAll_one hA
  obtain ⟨rfl, rfl⟩ := trodVars_none hV
  have k0 := h0
  have lt0 : ∀ x ∈ p, x.block < W.heap.size := by obtain ⟨m, hm⟩ := k0; exact DataW.trod_lt m _ _ _ hm
  obtain ⟨z0, hz0⟩ := open_shape (hval 0 24 v0 rfl rfl) h0
  have hT := tab_of_laid hL
  clear hA0 hval0
  refine (dfaBytes_all v0 z0 W hz0 hT).mono fun e W' ⟨he, hb⟩ => ?_
  subst he
  exact ⟨_, rfl, _, _, _, [], _, [], hW', trodAll_mk1 (shut_bool Tryz.underlying4 _), trodAll_mk1 (Below.trod laidOut (by kernel_rfl) (of_decide_eq_true (by kernel_rfl)) k0 hb lt0), rfl, hb.frame _, fun h => by cases h⟩

theorem dfaBytes_said : Rows.DfaBytesSaid :=
  OpenClaim.holds_of_wide 5 Tryz.f5 rfl rfl rfl rfl rfl rfl rfl ⟨rfl, rfl, rfl, rfl, rfl⟩ rfl rfl rfl rfl rfl (by kernel_rfl) Tryz.func5 (by kernel_rfl)
    (of_decide_eq_true (by kernel_rfl)) (by unfold Func.isWrapper; first | (rw [if_pos (by decide +kernel)]; kernel_rfl) | (rw [if_neg (by decide +kernel)]; exact ⟨rfl, rfl⟩))
    (fun os started H enc _ => dfaBytes_lifted os started H enc)

theorem dfaBytes_card : Rows.DfaBytesCardSaid :=
  Claim7.holds_tied_plain_at .later [] [.data] true Rows.dfaBytesCard.stood.harness false
    dfaBytes_said (fun _ h => by cases h) (by kernel_rfl) (fun _ h => by cases h) dfaBytes_row_tie rfl ⟨rfl, rfl⟩ (by kernel_rfl) rfl
    (fun f fn hf hfn => by
      obtain rfl : f = 5 := Option.some.inj ((show Tryz.prog.funcNamed "periscope/periscopelaw06.DfaBytes" = some 5 by kernel_rfl).symm.trans hf) |>.symm
      obtain rfl : fn = Tryz.f5 := (Option.some.inj (Tryz.func5.symm.trans hfn)).symm
      exact ⟨by kernel_rfl, fun j t ht => by
        rw [Tryz.params5] at ht
        have hm : t ∈ [24] := by simpa using Array.mem_of_getElem? ht
        have hall : ([24].all fun u => !Tryz.prog.wantsStandIn u) = true := by kernel_rfl
        exact (show Tryz.prog.wantsStandIn t = false by simpa using List.all_eq_true.1 hall t hm)⟩)
    (by kernel_rfl)
#print axioms dfaBytes_card
end Go.Proofs.YtaljhelldobghaaGreatDoor
