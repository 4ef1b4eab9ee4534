/- Texts of this claim put together: AkS. -/
import Derived.Test.YtjcfnmjjkadaeaaGreatDoorJoinAkR
/- Package alike's Groups: the walk. -/
namespace Go.Proofs.YtjcfnmjjkadaeaaGreatDoor
set_option maxRecDepth 100000
set_option linter.unusedSimpArgs false
set_option linter.unusedVariables false
open Go.RowKit Go.Shelf

theorem Kp.cell {W W' : World} {o o' : Nat → Prop} (h : Kp W o W' o') {b i : Nat} {u : Value} (hc : W.cell? ⟨b, i, none⟩ = some u) (hb : ¬ o b) : W'.cell? ⟨b, i, none⟩ = some u := by
  rw [← hc]
  exact World.cell?_of_block (w := W) (h.out b (World.block_lt_of_cell? _ _ hc) hb).1
theorem Kp.blk {W W' : World} {o o' : Nat → Prop} (h : Kp W o W' o') {b : Nat} {c : Array Value} {t : TypeId} (hc : Blk W b c t) (hb : ¬ o b) : Blk W' b c t := (h.out b hc.lt hb).1.trans hc
theorem Kp.base {w W W' : World} {o o' : Nat → Prop} (h : Kp W o W' o') (hb : Below w.heap.size w W) (ho : ∀ k, o k → w.heap.size ≤ k) : Below w.heap.size w W' ∧ ∀ k, o' k → w.heap.size ≤ k := by
  have key : ∀ k, k < w.heap.size → ¬ o k := fun k hk hok => by have := ho k hok; omega
  refine ⟨⟨h.os.trans hb.os, h.tape.trans hb.tape, h.output.trans hb.output, Nat.le_trans hb.size h.size, fun k hk => ((h.out k (Nat.lt_of_lt_of_le hk hb.size) (key k hk)).1).trans (hb.block k hk)⟩, fun k hk => ?_⟩
  rcases Nat.lt_or_ge k w.heap.size with hlt | hge
  · exact absurd hk (h.out k (Nat.lt_of_lt_of_le hlt hb.size) (key k hlt)).2
  · exact hge
/-- All of one group at first. -/
theorem pst_one {W : World} {p n : Nat} {o : Nat → Prop} (h : PrtAt W p n (fun _ => 0) id id [(0, 0, n)] [] o) (h0 : 0 < n) : Pst W p n o (fun _ => 0) 1 (fun _ => false) := by
  refine ⟨id, id, _, [], h, Prt.start h0, List.nodup_nil, fun k => ⟨fun h => by simp at h, fun ⟨a, m, b, hx, hlt⟩ => ?_⟩, rfl, fun q hq => ?_⟩
  · cases k with
    | zero => simp at hx; omega
    | succ k => simp at hx
  · unfold mkd; simp
/-- What the steps from the ends say, and that no parting owns them. -/
theorem Backs.facts {W : World} {base n : Nat} {v : Value} {bks : List (Nat × Nat)} {cols : List (Nat → Nat)} {o : Nat → Prop} (h : Backs W base n v bks cols) (hl : bks.length = cols.length) (ho : ∀ k, o k → k < base) :
    ∃ a cap, v = .slice a cols.length cap ∧ ∀ (j : Nat) c, cols[j]? = some c → ∃ gB x y, a = some ⟨gB, 0, none⟩ ∧ ¬ o gB ∧ ¬ o x ∧ ¬ o y ∧ W.cell? ⟨gB, j * 2, none⟩ = some (.slice (some ⟨x, 0, none⟩) n n) ∧ W.cell? ⟨gB, j * 2 + 1, none⟩ = some (.slice (some ⟨y, 0, none⟩) n n) ∧ Blk W x (iCells n (bkF c n)) 3 ∧ Blk W y (iCells n (bkM c n)) 3 := by
  have hno : ∀ k, base ≤ k → ¬ o k := fun k hk hok => by have := ho k hok; omega
  by_cases h0 : 0 < bks.length
  · obtain ⟨gB, cap, rfl, hg, -, -, -, hcell⟩ := h.own.cell h0
    refine ⟨some ⟨gB, 0, none⟩, cap, by rw [hl], fun j c hc => ?_⟩
    have hj := (List.getElem?_eq_some_iff.1 hc).1
    obtain ⟨⟨x, y⟩, hx⟩ : ∃ z, bks[j]? = some z := ⟨_, List.getElem?_eq_getElem (by omega : j < bks.length)⟩
    obtain ⟨e1, e2, e3, e4⟩ := h.each j _ c hx hc
    have c0 := hcell j _ hx 0 (by show 0 < 2; decide)
    have c1 := hcell j _ hx 1 (by show 1 < 2; decide)
    exact ⟨gB, x, y, rfl, hno _ hg, hno _ e1, hno _ e2, c0, c1, e3, e4⟩
  · obtain ⟨a, cap, e, -⟩ := h.own.slice
    refine ⟨a, cap, by rw [e, hl], fun j c hc => ?_⟩
    have hj := (List.getElem?_eq_some_iff.1 hc).1
    omega
set_option maxHeartbeats 8000000 in
theorem alGroups_any (w : World) (by0 cy n : Nat) (ys : Nat → Bool) (vc : Value) (cols : List (Nat → Nat)) (hn : n ≤ 1000000) (h0 : 0 < n) (hy : ∀ q, q < n → w.cell? ⟨by0, q, none⟩ = some (.bool (ys q))) (hc : Cols w vc n cols) (hl : cols.length ≤ 1000000) (hlt : ∀ c ∈ cols, ∀ q, q < n → c q < n) :
    Calls Tryz.prog 61 #[.slice (some ⟨by0, 0, none⟩) n cy, vc] w fun e w' => ∃ (bo : Nat) (f : Nat → Nat), e = .returned (.slice (some ⟨bo, 0, none⟩) n n) ∧ Blk w' bo (iCells n fun j => ((numF f j : Nat) : Int)) 3 ∧ Below w.heap.size w w' ∧ w.heap.size ≤ bo ∧ ∀ p q, p < n → q < n → (f p = f q ↔ AlEq ys cols p q) := by
  have HONE := hide (oneGroup_any n w hn h0)
  have HY := hide hy
  have HC := hide hc
  have HLT := hide hlt
  clear hy hc hlt
  go_enter Tryz.func61, Tryz.ntmps61
  go_wp2_with fail
  refine HONE.out.mono ?_
  rintro e w1 ⟨p, o1, rfl, hpt, hb1, ho1⟩
  have HP0 := hide (pst_one hpt h0)
  have HB1 := hide hb1
  have HO1 := hide ho1
  clear hpt hb1 ho1 HONE
  unfold PT
  go_wp2
  go_loopw [20] (fun iv wr => ∃ (i : Nat) (o : Nat → Prop), iv = .int .i64 i ∧ i ≤ n ∧ Hid (Pst wr p n o (fun _ => 0) 1 (fun q => decide (q < i) && ys q)) ∧ Hid (Kp w1 o1 wr o)) (fun iv _ => n - (intOf iv).toNat)
  case atStart => exact ⟨0, o1, rfl, Nat.zero_le _, HP0.out.congr (fun q hq => by simp), Kp.refl _ _⟩
  case round =>
    rename World => wr
    obtain ⟨i, o, rfl, hi, HP, HK⟩ := hrel
    by_cases hin : i < n
    · have di : decide ((i : Int) < (n : Int)) = true := by simp; omega
      have hbb := (HK.out.base HB1.out HO1.out).1
      have cy := (World.cell?_of_block (w := w) (hbb.block by0 (World.block_lt_of_cell? _ _ (HY.out i hin)))).trans (HY.out i hin)
      cases hyi : ys i with
      | false =>
        have HP2 := hide (HP.out.congr (M' := fun q => decide (q < i + 1) && ys q) (fun q hq => by
          by_cases e : q = i
          · subst e; simp [hyi]
          · congr 1
            simp
            omega))
        rw [hyi] at cy
        clear hbb HP HC
        go_wp2
        exact ⟨⟨i + 1, o, by go_num, hin, HP2, HK⟩, by simp [intOf]; omega⟩
      | true =>
        have HM := hide (pst_mark HP.out hn i hin (by simp))
        rw [hyi] at cy
        clear hbb
        go_wp2_with fail
        refine HM.out.mono ?_
        rintro e w2 ⟨rfl, o', hp2, hk2⟩
        have HP2 := hide (hp2.congr (M' := fun q => decide (q < i + 1) && ys q) (fun q hq => by
          by_cases e : q = i
          · subst e; simp [hyi]
          · simp [e]
            congr 1
            simp
            omega))
        have HK2 := hide (HK.out.trans hk2)
        clear hp2 hk2 HM HP HK HC cy
        go_wp2
        exact ⟨⟨i + 1, o', by go_num, hin, HP2, HK2⟩, by simp [intOf]; omega⟩
    · have di : decide ((i : Int) < (n : Int)) = false := by simp; omega
      obtain rfl : n = i := by omega
      have HM := hide (pst_split HP.out hn)
      go_wp2_with fail
      refine HM.out.mono ?_
      rintro e w2 ⟨rfl, o2, f2, N2, hp2, hs2, hk2⟩
      have HA0 := hide (Ali.start (cs := cols) (fun _ _ _ _ => rfl) (hs2.congr (M' := ys) (fun q hq => by simp [hq])))
      obtain ⟨hbb, hob⟩ := (HK.out.trans hk2).base HB1.out HO1.out
      have HBS := hide (backSteps_any w2 vc n cols (HC.out.keep hbb) hn hl HLT.out)
      have HB2 := hide hbb
      have HO2 := hide hob
      have HP2 := hide hp2
      clear hbb hob hp2 hs2 hk2 HM HP HK HP0 HB1 HO1 HY HC
      go_wp2_with fail
      refine HBS.out.mono ?_
      rintro e w3 ⟨vo, bks, rfl, hbl, hbk, hb3⟩
      have HP3 := hide (HP2.out.keep hb3)
      have HB3 := hide (HB2.out.trans (hb3.mono HB2.out.size))
      obtain ⟨va, vcap, rfl, hbf⟩ := hbk.facts hbl (o := o2) (fun k hk => HP2.out.lt hk)
      have HBF := hide hbf
      clear hbk hb3 hbf hbl HBS HP2 HB2
      go_wp2
      go_loopw [8] (fun gv wr => ∃ (g N : Nat) (f : Nat → Nat) (o : Nat → Prop), gv = .int .i64 g ∧ Hid (Pst wr p n o f N (fun _ => false)) ∧ Hid (Kp w3 o2 wr o) ∧ Hid (Ali n ys cols g f N)) (fun gv _ => n - (intOf gv).toNat)
      case atStart => exact ⟨0, N2, f2, o2, rfl, HP3, Kp.refl _ _, HA0⟩
      case round =>
        rename World => wr
        obtain ⟨g, N, f, o, rfl, HP, HK, HA⟩ := hrel
        obtain ⟨⟨ga, gc, cg⟩, bf, c0, kf⟩ := HP.out.cells
        have hNn := HP.out.le
        have HKF := hide kf
        have HC0 := hide c0
        clear kf c0 HP3 HA0
        by_cases hgN : g < N
        · have dg : decide ((g : Int) < (N : Int)) = true := by simp; omega
          obtain ⟨a, b, od, hab, hbn, holt, hnd, hmem, hst⟩ := pst_states HP.out hn g hgN
          have HST := hide hst
          have HND := hide hnd
          have HMEM := hide hmem
          have HOLT := hide holt
          obtain ⟨L, hL⟩ : ∃ L, L = (List.range (b - a)).map fun j => od (a + j) := ⟨_, rfl⟩
          rw [← hL] at HND HMEM
          have HLI : Hid (∀ j, j < b - a → L[j]? = some (od (a + j))) := fun j hj => by rw [hL]; simp [hj]
          have HLL := hide (show L.length = b - a by rw [hL]; simp)
          clear hst hnd hmem holt hL
          go_wp2_with fail
          refine HST.out.mono ?_
          rintro e w4 ⟨bo, rfl, hbo, hb4⟩
          have HCL := hide (clone_ints bo b a (n - a) n od w4 hbo hab hbn hn)
          have HB4 := hide hb4
          clear hbo hb4 HST cg
          go_wp2_with fail
          refine HCL.out.mono ?_
          rintro e w5 ⟨v', rfl, hov, hb5⟩
          have hlen : ((List.range (b - a)).map fun j => Value.int .i64 ((od (a + j) : Nat) : Int)).length = b - a := by simp
          obtain ⟨cl, ccap, rfl, hcl1, hcl2, -, hcc⟩ := hov.at (by rw [hlen]; omega)
          rw [hlen]
          have HP5 := hide ((HP.out.keep HB4.out).keep hb5)
          have HK5 := hide (HK.out.trans ((Kp.of HB4.out).trans (Kp.of hb5)))
          have HNC : Hid (¬ o cl) := fun hk => by have := (HP.out.keep HB4.out).lt hk; omega
          have HCC : Hid (∀ j, j < b - a → w5.cell? ⟨cl, j, none⟩ = some (.int .i64 ((od (a + j) : Nat) : Int))) := fun j hj => hcc j _ (by simp [hj])
          have HM0 := hide (HA.out.open hgN)
          clear hov hb5 hcl1 hcl2 hcc hlen HP HK HCL HB4 HA HKF HC0
          go_wp2
          go_loopw [50] (fun jv wx => ∃ (j N' : Nat) (f' : Nat → Nat) (o' : Nat → Prop), jv = .int .i64 j ∧ j ≤ cols.length ∧ Hid (Pst wx p n o' f' N' (fun _ => false)) ∧ Hid (Kp w5 o wx o') ∧ Hid (AliM n ys cols g (fun q => decide (f q = g)) (cols.take j) f' N')) (fun jv _ => cols.length - (intOf jv).toNat)
          case atStart => exact ⟨0, N, f, o, rfl, Nat.zero_le _, HP5, Kp.refl _ _, by rw [List.take_zero]; exact HM0⟩
          case round =>
            rename World => wx
            obtain ⟨j, N', f', o', rfl, hj, HP, HK, HA⟩ := hrel
            by_cases hjl : j < cols.length
            · have dj : decide ((j : Int) < (cols.length : Int)) = true := by simp; omega
              have hcg : cols[j]? = some cols[j] := List.getElem?_eq_getElem hjl
              generalize cols[j] = c at hcg
              obtain ⟨gB, x, y, rfl, hn1, hn2, hn3, c0, c1, kx, ky⟩ := HBF.out j c hcg
              have hk3 := HK5.out.trans HK.out
              have d0 := hk3.cell c0 hn1
              have d1 := hk3.cell c1 hn1
              have HX := hide (hk3.blk kx hn2)
              have HYY := hide (hk3.blk ky hn3)
              have HNX := hide (hk3.out x kx.lt hn2).2
              have HNY := hide (hk3.out y ky.lt hn3).2
              clear hn1 hn2 hn3 c0 c1 kx ky hk3
              go_wp2
              have hb6 : Below wx.heap.size wx (wx.alloc (.cells #[.slice (some ⟨x, 0, none⟩) n n, .slice (some ⟨y, 0, none⟩) n n] 149)) := (Below.refl _ _).alloc (Nat.le_refl _) _
              have hkb : Blk (wx.alloc (.cells #[.slice (some ⟨x, 0, none⟩) n n, .slice (some ⟨y, 0, none⟩) n n] 149)) wx.heap.size #[.slice (some ⟨x, 0, none⟩) n n, .slice (some ⟨y, 0, none⟩) n n] 149 := Blk.newAt rfl _ _
              have hnb : ¬ o' wx.heap.size := fun h => by have := HP.out.lt h; omega
              have HX6 := hide (HX.out.below hb6 HX.out.lt)
              have HY6 := hide (HYY.out.below hb6 HYY.out.lt)
              have HC6 : Hid (∀ j, j < b - a → (wx.alloc (.cells #[.slice (some ⟨x, 0, none⟩) n n, .slice (some ⟨y, 0, none⟩) n n] 149)).cell? ⟨cl, j, none⟩ = some (.int .i64 ((od (a + j) : Nat) : Int))) := fun j hj => by
                have h1 := HK.out.cell (HCC.out j hj) HNC.out
                exact (World.cell?_of_block (w := wx) (hb6.block cl (World.block_lt_of_cell? _ _ h1))).trans h1
              have HN6 : Hid (¬ o' cl) := (HK.out.out cl (World.block_lt_of_cell? _ _ (HCC.out 0 (by omega))) HNC.out).2
              have HP6 := hide (HP.out.keep hb6)
              have HK6 := hide (HK.out.trans (Kp.of (o := o') hb6))
              have HCJ := hide hcg
              generalize (wx.alloc (.cells #[.slice (some ⟨x, 0, none⟩) n n, .slice (some ⟨y, 0, none⟩) n n] 149)) = w6 at hb6 hkb HX6 HY6 HC6 HP6 HK6 ⊢
              generalize wx.heap.size = pb at hkb hnb ⊢
              have HKB := hide hkb
              have HNB := hide hnb
              have hcn := HLT.out c (List.mem_of_getElem? hcg)
              have HCN := hide hcn
              clear hb6 hkb hnb HX HYY HP HK d0 d1 hcg HP5 hcn HBF
              go_loopw [56] (fun iv wy => ∃ (i : Nat) (o4 : Nat → Prop), iv = .int .i64 i ∧ i ≤ b - a ∧ Hid (Pst wy p n o4 f' N' (fun r => decide (c r ∈ L.take i))) ∧ Hid (Kp w6 o' wy o4)) (fun iv _ => (b - a) - (intOf iv).toNat)
              case atStart => exact ⟨0, o', rfl, Nat.zero_le _, HP6.out.congr (fun r _ => by simp), Kp.refl _ _⟩
              case round =>
                rename World => wy
                obtain ⟨i, o4, rfl, hi, HP4, HK4⟩ := hrel
                by_cases hib : i < b - a
                · have di2 : decide ((i : Int) < ((b - a : Nat) : Int)) = true := by simp; omega
                  have hqn := HOLT.out i (by omega)
                  have hLi := HLI.out i hib
                  have ccl := HK4.out.cell (HC6.out i hib) HN6.out
                  generalize od (a + i) = q at hqn hLi ccl
                  have cp0 : wy.cell? ⟨pb, 0, none⟩ = some (.slice (some ⟨x, 0, none⟩) n n) := HK4.out.cell (HKB.out.cell 0) HNB.out
                  have cxq := HK4.out.cell (HX6.out.cI hqn) HNX.out
                  have hqt : q ∉ L.take i := fun hm => by
                    have h1 := HND.out
                    rw [← List.take_append_drop i L] at h1
                    exact (List.nodup_append.1 h1).2.2 q hm q (List.mem_of_getElem? (i := 0) (by rw [List.getElem?_drop]; exact hLi)) rfl
                  have hts : ∀ z, z ∈ L.take (i + 1) ↔ z ∈ L.take i ∨ z = q := fun z => by
                    rw [List.take_add_one, hLi]; simp
                  have HQT := hide hqt
                  have HTS := hide hts
                  clear hqt hts hLi HP6
                  go_wp2
                  go_loopw [14] (fun fv wz => ∃ (k : Nat) (o5 : Nat → Prop), fv = .int .i64 (bkF c k q) ∧ k ≤ n ∧ Hid (Pst wz p n o5 f' N' (fun r => decide (c r ∈ L.take i) || (decide (c r = q) && decide (k ≤ r)))) ∧ Hid (Kp w6 o' wz o5)) (fun fv _ => (intOf fv + 1).toNat)
                  case atStart => exact ⟨n, o4, rfl, Nat.le_refl _, HP4.out.congr (fun r hr => by simp; omega), HK4⟩
                  case round =>
                    rename World => wz
                    obtain ⟨k, o5, rfl, hk, HP5, HKz⟩ := hrel
                    clear ccl cp0 cxq HP4 HK4
                    by_cases hneg : bkF c k q < 0
                    · have dn : decide (bkF c k q ≥ 0) = false := by simp; omega
                      have hno := bkF_no c k q hneg
                      have HPn := hide (HP5.out.congr (M' := fun r => decide (c r ∈ L.take (i + 1))) (fun r hr => by
                        by_cases e1 : c r = q
                        · have : k ≤ r := by
                            rcases Nat.lt_or_ge r k with h | h
                            · exact absurd e1 (hno r h)
                            · exact h
                          have e2 : c r ∈ L.take (i + 1) := (HTS.out _).2 (.inr e1)
                          simp [e1, this]
                          rw [← e1]; exact e2
                        · have e2 : (c r ∈ L.take (i + 1)) ↔ c r ∈ L.take i := by rw [HTS.out]; simp [e1]
                          simp [e1, e2]))
                      clear hno HP5 hneg
                      go_wp2
                      exact ⟨⟨i + 1, o5, by go_num, hib, HPn, HKz⟩, by simp [intOf]; omega⟩
                    · obtain ⟨z, hz⟩ : ∃ z : Nat, bkF c k q = (z : Int) := ⟨(bkF c k q).toNat, by omega⟩
                      obtain ⟨hzk, hcz, hbt⟩ := bkF_is c k q z hz
                      rw [hz]
                      have dn : decide ((z : Int) ≥ 0) = true := by simp
                      have hzn : z < n := by omega
                      have HM := hide (pst_mark HP5.out hn z hzn (by
                        simp only [hcz, Bool.or_eq_false_iff, Bool.and_eq_false_iff, decide_eq_false_iff_not, decide_true]
                        exact ⟨HQT.out, .inr (by omega)⟩))
                      have HZK := hide (show ((z : Int) < (k : Int)) by omega)
                      have HBT := hide hbt
                      have HCZ := hide hcz
                      have HZN := hide hzn
                      clear hbt hneg hz hcz hzk
                      go_wp2_with fail
                      refine HM.out.mono ?_
                      rintro e w7 ⟨rfl, o7, hp7, hk7⟩
                      have HP7 := hide (hp7.congr (M' := fun r => decide (c r ∈ L.take i) || (decide (c r = q) && decide (z ≤ r))) (fun r hr => by
                        by_cases e1 : c r = q
                        · have hb := HBT.out r
                          have hzk := HZK.out
                          by_cases e2 : r = z
                          · subst e2; simp [e1]
                          · have : (k ≤ r) ↔ (z ≤ r) := by
                              constructor
                              · intro h; omega
                              · intro h
                                rcases Nat.lt_or_ge r k with h2 | h2
                                · exact absurd e1 (hb (by omega) h2)
                                · exact h2
                            simp [e1, e2, this]
                        · have e2 : r ≠ z := fun e => e1 (by rw [e]; exact HCZ.out)
                          simp [e1, e2]))
                      have hk67 := HKz.out.trans hk7
                      have cp1 : w7.cell? ⟨pb, 1, none⟩ = some (.slice (some ⟨y, 0, none⟩) n n) := hk67.cell (HKB.out.cell 1) HNB.out
                      have cy2 := hk67.cell (HY6.out.cI HZN.out) HNY.out
                      have hbm : bkM c n z = bkF c z q := by unfold bkM; rw [if_pos HZN.out, HCZ.out]
                      rw [hbm] at cy2
                      have HK7 := hide hk67
                      clear hp7 hk7 hk67 HM HP5 HKz hbm
                      go_wp2
                      have h1 := bkF_lt c z q
                      have h2 := bkF_ge c z q
                      exact ⟨⟨z, o7, rfl, by have := HZN.out; omega, HP7, HK7⟩, by simp only [intOf]; omega⟩
                · have di2 : decide ((i : Int) < ((b - a : Nat) : Int)) = false := by simp; omega
                  obtain rfl : i = b - a := by omega
                  have HM := hide (pst_split HP4.out hn)
                  clear HP6
                  go_wp2_with fail
                  refine HM.out.mono ?_
                  rintro e w7 ⟨rfl, o7, f7, N7, hp7, hs7, hk7⟩
                  have HP7 := hide hp7
                  have HA7 := hide (HA.out.split (List.mem_of_getElem? HCJ.out) HCN.out (hs7.congr (M' := fun r => decide (f (c r) = g)) (fun r hr => by
                    have h1 := HMEM.out (c r) (HCN.out r hr)
                    have h2 : L.take (b - a) = L := List.take_of_length_le (by rw [HLL.out]; exact Nat.le_refl _)
                    simp only [h2, h1])))
                  have HK7 := hide ((HK6.out.trans HK4.out).trans hk7)
                  rw [show cols.take j ++ [c] = cols.take (j + 1) by rw [List.take_add_one, HCJ.out]; rfl] at HA7
                  clear hp7 hs7 hk7 HM HP4 HK4 HK6 HA
                  go_wp2
                  exact ⟨⟨j + 1, N7, f7, o7, by go_num, hjl, HP7, HK7, HA7⟩, by simp [intOf]; omega⟩
            · have dj : decide ((j : Int) < (cols.length : Int)) = false := by simp; omega
              obtain rfl : j = cols.length := by omega
              have HA2 := hide HA.out
              rw [List.take_length] at HA2
              have HA3 := hide HA2.out.close
              have HK3 := hide (HK5.out.trans HK.out)
              clear HA HA2 HK HK5 HP5
              go_wp2
              exact ⟨⟨g + 1, N', f', o', by go_num, HP, HK3, HA3⟩, by have := HA3.out.gN; have := HP.out.le; simp [intOf]; omega⟩
        · have dg : decide ((g : Int) < (N : Int)) = false := by simp; omega
          have hgN2 := HA.out.gN
          obtain rfl : N = g := by omega
          have hfl : ∀ q, q < n → f q ≤ 1000000 := fun q hq => by have := HA.out.lt q hq; omega
          have HN := hide (numbered_any bf n f wr HKF.out hn hfl)
          have c0 := HC0.out
          have HBW := hide ((HK.out.base HB3.out HO2.out).1)
          have HE := hide (fun (p q : Nat) (hp : p < n) (hq : q < n) => HA.out.end HLT.out hp hq)
          clear hfl HK HA HBF
          go_wp2_with fail
          refine HN.out.mono ?_
          rintro e w9 ⟨bo, rfl, hko, hb9, hlo⟩
          have HKO := hide hko
          have HBE := hide (HBW.out.trans (hb9.mono HBW.out.size))
          have HLO := hide (Nat.le_trans HBW.out.size hlo)
          clear hko hb9 hlo HN c0 cg
          go_wp2
          go_ret
          exact ⟨bo, f, rfl, HKO.out, HBE.out, HLO.out, HE.out⟩
end Go.Proofs.YtjcfnmjjkadaeaaGreatDoor
