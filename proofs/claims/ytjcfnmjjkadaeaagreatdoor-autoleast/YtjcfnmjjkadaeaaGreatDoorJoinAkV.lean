/- Texts of this claim put together: AkT, AkU, AkV. -/
import Derived.Test.YtjcfnmjjkadaeaaGreatDoorJoinAkS
import Derived.WalkMore
/- What auto.columns uses: a Dfa's answers, slices.Equal of numbers, rows of columns in memory. -/
namespace Go.Proofs.YtjcfnmjjkadaeaaGreatDoor
set_option maxRecDepth 100000
set_option linter.unusedSimpArgs false
set_option linter.unusedVariables false
open Go.RowKit Go.Shelf

theorem DfaR.yesQ {W : World} {p : Nat} {r : RE} {pl : List (BitVec 256)} {S : List RE} {rows : List (List Nat)} (h : DfaR W p r pl S rows) (q : Int) :
    Calls Tryz.prog 14 #[PT p, .int .i64 q] W fun e w' => e = .returned (.bool (yesN S q)) ∧ w' = W := by
  refine (dyes_all p _ _ rows _ _ _ q W h.at' (by rw [List.length_map, h.ok.len])).mono ?_
  rintro e w' ⟨rfl, rfl⟩
  rw [h.ok.len, yesB_null]
  exact ⟨rfl, rfl⟩
theorem DfaR.stepQ {W : World} {p : Nat} {r : RE} {pl : List (BitVec 256)} {S : List RE} {rows : List (List Nat)} (h : DfaR W p r pl S rows) (q : Int) (b : Nat) (hb : b < 256) :
    Calls Tryz.prog 16 #[PT p, .int .i64 q, .int .u8 b] W fun e w' => e = .returned (.int .i64 (stepN rows (idxF pl pl.length) q b)) ∧ Below W.heap.size W w' :=
  dstep_all p _ _ rows _ _ _ q b W h.at' hb fun q hq => h.ok.fit b hb q hq
/-- Where a byte leads to from each state. -/
def colN (rows : List (List Nat)) (hd : Nat → Nat) (b q : Nat) : Nat := (rows.getD q []).getD (hd b) 0
theorem stepN_col {rows : List (List Nat)} {hd : Nat → Nat} {b q : Nat} (h : q < rows.length) : stepN rows hd q b = (colN rows hd b q : Nat) := by
  unfold stepN colN
  rw [if_pos ⟨by omega, by omega⟩]
  rfl
theorem DfaOk.col {r : RE} {pl : List (BitVec 256)} {S : List RE} {rows : List (List Nat)} (h : DfaOk r pl S rows) {b q : Nat} (hb : b < 256) (hq : q < S.length) : colN rows (idxF pl pl.length) b q < S.length := by
  have hi := (head_of h.part hb).1
  exact ((h.rows.2 q (by rw [h.len]; exact hq)).at' _ (by simpa using hi)).1
set_option maxHeartbeats 2000000 in
theorem equal_ints (b1 b2 n : Nat) (c d : Nat → Nat) (w : World) (k1 : Blk w b1 (iCells n fun j => ((c j : Nat) : Int)) 3) (k2 : Blk w b2 (iCells n fun j => ((d j : Nat) : Int)) 3) (hn : n ≤ 1000000) :
    Calls Tryz.prog 99 #[.slice (some ⟨b1, 0, none⟩) n n, .slice (some ⟨b2, 0, none⟩) n n] w fun e w' => ∃ r : Bool, e = .returned (.bool r) ∧ (r = true ↔ ∀ q, q < n → c q = d q) ∧ Below w.heap.size w w' := by
  have K1 := hide k1
  have K2 := hide k2
  have hne : decide ((n : Int) ≠ (n : Int)) = false := by simp
  clear k1 k2
  go_enter Tryz.func99, Tryz.ntmps99
  go_wp2
  go_loopw [13] (fun iv wr => ∃ i : Nat, iv = .int .i64 i ∧ i ≤ n ∧ Hid (∀ q, q < i → c q = d q) ∧ Hid (Below w.heap.size w wr)) (fun iv _ => n - (intOf iv).toNat)
  case atStart => exact ⟨0, rfl, Nat.zero_le _, hide (fun q hq => by omega), hide (Below.refl _ _)⟩
  case round =>
    rename World => wr
    obtain ⟨i, rfl, hi, HE, HB⟩ := hrel
    by_cases hin : i < n
    · have di : decide ((i : Int) < (n : Int)) = true := by simp; omega
      have c1 := (K1.out.below HB.out K1.out.lt).cI hin
      have c2 := (K2.out.below HB.out K2.out.lt).cI hin
      have HB2 : Hid (Below w.heap.size w wr.drew) := HB.out.trans ⟨rfl, rfl, rfl, Nat.le_refl _, fun _ _ => rfl⟩
      by_cases he : c i = d i
      · have hd : decide (((c i : Nat) : Int) ≠ ((d i : Nat) : Int)) = false := by simp [he]
        have HE2 : Hid (∀ q, q < i + 1 → c q = d q) := fun q hq => by
          by_cases e : q = i
          · rw [e]; exact he
          · exact HE.out q (by omega)
        rw [he] at c1
        clear he hd HE HB
        go_wp2
        go_region
        go_wp2
        exact ⟨⟨i + 1, by go_num, hin, HE2, HB2⟩, by simp [intOf]; omega⟩
      · have hd : ((c i : Nat) : Int) ≠ ((d i : Nat) : Int) := by omega
        have HNE := hide he
        clear HE HB he
        go_wp2
        go_region
        go_wp2
        go_ret
        exact ⟨false, rfl, by simp; exact ⟨i, hin, HNE.out⟩, HB2.out⟩
    · have di : decide ((i : Int) < (n : Int)) = false := by simp; omega
      obtain rfl : n = i := by omega
      go_wp2
      go_ret
      exact ⟨true, rfl, by simp; exact HE.out, HB.out⟩
end Go.Proofs.YtjcfnmjjkadaeaaGreatDoor
/- Package auto's columns. -/
namespace Go.Proofs.YtjcfnmjjkadaeaaGreatDoor
set_option maxRecDepth 100000
set_option linter.unusedSimpArgs false
set_option linter.unusedVariables false
open Go.RowKit Go.Shelf

def slV (n b : Nat) : Value := .slice (some ⟨b, 0, none⟩) n n
/-- Columns in a row of one's own. -/
structure ColsG (W : World) (base n : Nat) (v : Value) (bs : List Nat) (cols : List (Nat → Nat)) : Prop where
  own : OwnG W base 36 (.slice none 0 0) v (bs.map (slV n))
  len : bs.length = cols.length
  each : ∀ (i : Nat) b c, bs[i]? = some b → cols[i]? = some c → Blk W b (iCells n fun j => ((c j : Nat) : Int)) 3
theorem ColsG.keep {W W' : World} {base n : Nat} {v : Value} {bs : List Nat} {cols : List (Nat → Nat)} (h : ColsG W base n v bs cols) (hb : Below W.heap.size W W') : ColsG W' base n v bs cols :=
  ⟨h.own.keep hb, h.len, fun i b c h1 h2 => (h.each i b c h1 h2).below hb (h.each i b c h1 h2).lt⟩
theorem ColsG.slice {W : World} {base n : Nat} {v : Value} {bs : List Nat} {cols : List (Nat → Nat)} (h : ColsG W base n v bs cols) : ∃ a cap, v = .slice a cols.length cap ∧ ∀ (i : Nat) c, cols[i]? = some c → ∃ g b, a = some ⟨g, 0, none⟩ ∧ W.cell? ⟨g, i, none⟩ = some (.slice (some ⟨b, 0, none⟩) n n) ∧ Blk W b (iCells n fun j => ((c j : Nat) : Int)) 3 := by
  by_cases h0 : 0 < cols.length
  · have hl := h.len
    obtain ⟨g, cap, e, -, -, -, hc⟩ := h.own.at (by simp; omega)
    refine ⟨some ⟨g, 0, none⟩, cap, by rw [e]; simp [hl], fun i c hi => ?_⟩
    have hil := (List.getElem?_eq_some_iff.1 hi).1
    obtain ⟨b, hb⟩ : ∃ b, bs[i]? = some b := ⟨_, List.getElem?_eq_getElem (by omega : i < bs.length)⟩
    exact ⟨g, b, rfl, hc i (slV n b) (by simp [hb]), h.each i b c hb hi⟩
  · obtain ⟨a, cap, e, -⟩ := h.own.slice
    refine ⟨a, cap, by rw [e]; simp [h.len], fun i c hi => ?_⟩
    have hil := (List.getElem?_eq_some_iff.1 hi).1
    omega
theorem ColsG.cols {W : World} {base n : Nat} {v : Value} {bs : List Nat} {cols : List (Nat → Nat)} (h : ColsG W base n v bs cols) : Cols W v n cols := ⟨h.slice⟩
theorem infoSl : (Tryz.prog.info? 36).map (fun i => (i.zero, i.size, i.bytes)) = some (some (.slice none 0 0), 1, 24) := by kernel_rfl
theorem ColsG.push {W W' : World} {base n b : Nat} {v v' : Value} {bs : List Nat} {cols : List (Nat → Nat)} {c : Nat → Nat} (h : ColsG W base n v bs cols) (ho : OwnG W' base 36 (.slice none 0 0) v' ((bs.map (slV n)) ++ [slV n b])) (ha : AppG W W' base 36 (.slice none 0 0) v v')
    (hb : Blk W b (iCells n fun j => ((c j : Nat) : Int)) 3) : ColsG W' base n v' (bs ++ [b]) (cols ++ [c]) := by
  refine ⟨by rw [List.map_append]; exact ho, by simp [h.len], fun i x d hx hd => ?_⟩
  by_cases hi : i < bs.length
  · rw [List.getElem?_append_left hi] at hx
    rw [List.getElem?_append_left (by rw [← h.len]; exact hi)] at hd
    exact ha.blk (h.each i x d hx hd) (by decide)
  · have hil := (List.getElem?_eq_some_iff.1 hx).1
    obtain rfl : i = bs.length := by simp at hil; omega
    obtain rfl : b = x := by simpa using hx
    rw [h.len] at hd
    obtain rfl : c = d := by simpa using hd
    exact ha.blk hb (by decide)
end Go.Proofs.YtjcfnmjjkadaeaaGreatDoor
/- Package auto's columns: the walk. -/
namespace Go.Proofs.YtjcfnmjjkadaeaaGreatDoor
set_option maxRecDepth 100000
set_option linter.unusedSimpArgs false
set_option linter.unusedVariables false
open Go.RowKit Go.Shelf

set_option maxHeartbeats 8000000 in
theorem columns_any (p : Nat) (r : RE) (pl : List (BitVec 256)) (S : List RE) (rows : List (List Nat)) (w : World) (h : DfaR w p r pl S rows) (hS : S.length ≤ 1000000) :
    Calls Tryz.prog 62 #[PT p] w fun e w' => ∃ vo cols, e = .returned vo ∧ Cols w' vo S.length cols ∧ cols.length ≤ (pl.map least).length ∧ (∀ c ∈ cols, ∃ b ∈ pl.map least, ∀ q, q < S.length → c q = colN rows (idxF pl pl.length) b q) ∧
      (∀ b ∈ pl.map least, ∃ c ∈ cols, ∀ q, q < S.length → c q = colN rows (idxF pl pl.length) b q) ∧ Below w.heap.size w w' := by
  obtain ⟨n, hnS⟩ : ∃ n, S.length = n := ⟨_, rfl⟩
  obtain ⟨hs, hhs⟩ : ∃ hs, pl.map least = hs := ⟨_, rfl⟩
  obtain ⟨cf, hcf⟩ : ∃ cf, colN rows (idxF pl pl.length) = cf := ⟨_, rfl⟩
  have hn : n ≤ 1000000 := by omega
  have hpl : pl.length ≤ 256 := parts_256 h.ok.part
  have hhl : hs.length ≤ 256 := by rw [← hhs]; simpa using hpl
  have hb256 : ∀ b ∈ hs, b < 256 := fun b hb => by
    rw [← hhs] at hb
    obtain ⟨x, hx, rfl⟩ := List.mem_map.1 hb
    exact least_lt _
  have HH := hide h.heads
  have HLEN : Hid (∀ W, Below w.heap.size w W → Calls Tryz.prog 13 #[PT p] W fun e w' => e = .returned (.int .i64 n) ∧ w' = W) := fun W hW => by
    have := (h.keep hW).len
    rw [hnS] at this
    exact this
  have HST : Hid (∀ W, Below w.heap.size w W → ∀ q, q < n → ∀ b ∈ hs, Calls Tryz.prog 16 #[PT p, .int .i64 q, .int .u8 b] W fun e w' => e = .returned (.int .i64 (cf b q : Nat)) ∧ Below W.heap.size W w') := fun W hW q hq b hb => by
    have := (h.keep hW).stepQ q b (hb256 b hb)
    rw [stepN_col (by rw [h.ok.len, hnS]; exact hq), hcf] at this
    exact this
  have hmk : ∀ W : World, (Instr.makeSlice 36 (.int .i64 n) (.int .i64 n)).run Tryz.prog W = .ok (.slice (some ⟨W.heap.size, 0, none⟩) n n) (W.alloc (.cells (iCells n fun _ => 0) 3)) := fun W => ints_make n W hn
  have HMK := hide hmk
  have HB256 := hide hb256
  rw [hhs, hcf, hnS]
  rw [hhs] at HH
  clear h hnS hhs hcf hS hpl hmk hb256
  unfold PT
  go_enter Tryz.func62, Tryz.ntmps62
  go_wp2
  go_step3
  go_wp2
  go_step3
  go_wp2_with fail
  refine HH.out.mono ?_
  rintro e w1 ⟨vh, rfl, hvh, hb1⟩
  have HVH : Hid (∀ (i : Nat) b, hs[i]? = some b → ∃ g cap, vh = .slice (some ⟨g, 0, none⟩) hs.length cap ∧ w1.cell? ⟨g, i, none⟩ = some (.int .u8 (b : Nat))) := fun i b hi => by
    have hil := (List.getElem?_eq_some_iff.1 hi).1
    obtain ⟨g, cap, e, -, -, -, hc⟩ := hvh.at (by simp [byteV]; omega)
    refine ⟨g, cap, by rw [e]; simp [byteV], ?_⟩
    have := hc i (.int .u8 (b : Nat)) (by simp [byteV, hi])
    exact this
  obtain ⟨ah, ch, hvs, -⟩ := hvh.slice
  rw [show (byteV hs).length = hs.length by simp [byteV]] at hvs
  subst hvs
  have HB1 := hide hb1
  clear hvh hb1 HH
  go_wp2
  go_loopw [3, 13] (fun ov iv wr => ∃ (i : Nat) (bs : List Nat) (cols : List (Nat → Nat)), iv = .int .i64 i ∧ i ≤ hs.length ∧ cols.length ≤ i ∧ Hid (ColsG wr w1.heap.size n ov bs cols) ∧ Hid (∀ c ∈ cols, ∃ b ∈ hs, ∀ q, q < n → c q = cf b q) ∧ Hid (∀ j, j < i → ∀ b, hs[j]? = some b → ∃ c ∈ cols, ∀ q, q < n → c q = cf b q) ∧ Hid (Below w1.heap.size w1 wr)) (fun _ iv _ => hs.length - (intOf iv).toNat)
  case atStart => exact ⟨0, [], [], rfl, Nat.zero_le _, Nat.zero_le _, hide ⟨OwnG.nil _ _ _ _, rfl, fun i b c hb => by simp at hb⟩, hide (fun c hc => by simp at hc), hide (fun j hj => by omega), hide (Below.refl _ _)⟩
  case round =>
    rename World => wr
    obtain ⟨i, bs, cols, rfl, hi, hci, HG, HC1, HC2, HB⟩ := hrel
    by_cases hil : i < hs.length
    · have di : decide ((i : Int) < (hs.length : Int)) = true := by simp; omega
      have hbi : hs[i]? = some hs[i] := List.getElem?_eq_getElem hil
      have hbm : hs[i] ∈ hs := List.getElem_mem hil
      generalize hs[i] = b at hbi hbm
      obtain ⟨g, cap, he, hcell⟩ := HVH.out i b hbi
      injection he with he1 he2 he3
      subst he1 he3
      have cb := (World.cell?_of_block (w := w1) (HB.out.block g (World.block_lt_of_cell? _ _ hcell))).trans hcell
      have hWB := HB1.out.trans (HB.out.mono HB1.out.size)
      have HL := hide (HLEN.out wr hWB)
      have hmk := HMK.out
      have HWB := hide hWB
      have HBI := hide hbi
      have HBM := hide hbm
      clear hcell hWB hbi hbm he2
      go_wp2_with fail
      refine HL.out.mono ?_
      rintro e w2 ⟨rfl, rfl⟩
      go_wp2
      have hb2 : Below w2.heap.size w2 (w2.alloc (.cells (iCells n fun _ => 0) 3)) := (Below.refl _ _).alloc (Nat.le_refl _) _
      have hk2 : Blk (w2.alloc (.cells (iCells n fun _ => 0) 3)) w2.heap.size (iCells n fun _ => 0) 3 := Blk.newAt rfl _ _
      generalize (w2.alloc (.cells (iCells n fun _ => 0) 3)) = w3 at hb2 hk2 ⊢
      obtain ⟨be, hbe⟩ : ∃ be, w2.heap.size = be := ⟨_, rfl⟩
      rw [hbe] at hk2 ⊢
      have HBE := hide (show w2.heap.size ≤ be by omega)
      have HB2 := hide hb2
      have HK2 := hide hk2
      clear hb2 hk2 hbe hmk cb HL
      go_loopw [22] (fun jv wx => ∃ j : Nat, jv = .int .i64 j ∧ j ≤ n ∧ Hid (Blk wx be (iCells n fun k => (((if k < j then cf b k else 0) : Nat) : Int)) 3) ∧ Hid (Below w2.heap.size w2 wx)) (fun jv _ => n - (intOf jv).toNat)
      case atStart => exact ⟨0, rfl, Nat.zero_le _, by have e : (iCells n fun k => (((if k < 0 then cf b k else 0) : Nat) : Int)) = iCells n fun _ => 0 := iCells_congr fun j _ => rfl
                                                       rw [e]; exact HK2, HB2⟩
      case round =>
        rename World => wx
        obtain ⟨j, rfl, hj, HK, HBX⟩ := hrel
        by_cases hjn : j < n
        · have dj : decide ((j : Int) < (n : Int)) = true := by simp; omega
          have HS := hide (HST.out wx (HWB.out.trans (HBX.out.mono HWB.out.size)) j hjn b HBM.out)
          go_wp2_with fail
          refine HS.out.mono ?_
          rintro e w4 ⟨rfl, hb4⟩
          have hk4 := HK.out.below hb4 HK.out.lt
          have ce := hk4.cI hjn
          have fe := hk4.frozen j
          have HK4 : Hid (Blk (w4.setCell ⟨be, j, none⟩ (.int .i64 (cf b j : Nat))) be (iCells n fun k => (((if k < j + 1 then cf b k else 0) : Nat) : Int)) 3) := by
            have := hk4.setN j (cf b j)
            have e : (iCells n fun k => ((updN (fun k => if k < j then cf b k else 0) j (cf b j) k : Nat) : Int)) = iCells n fun k => (((if k < j + 1 then cf b k else 0) : Nat) : Int) := iCells_congr fun k hk => by
              unfold updN
              by_cases e : k = j
              · subst e; simp
              · rw [if_neg e]
                show (((if k < j then cf b k else 0) : Nat) : Int) = _
                by_cases h : k < j
                · rw [if_pos h, if_pos (by omega)]
                · rw [if_neg h, if_neg (by omega)]
            rw [e] at this
            exact this
          have HB4 : Hid (Below w2.heap.size w2 (w4.setCell ⟨be, j, none⟩ (.int .i64 (cf b j : Nat)))) := (HBX.out.trans (hb4.mono HBX.out.size)).setCell HBE.out _
          clear hk4 hb4 HS HK HBX
          go_wp2
          exact ⟨⟨j + 1, by go_num, hjn, HK4, HB4⟩, by simp [intOf]; omega⟩
        · have dj : decide ((j : Int) < (n : Int)) = false := by simp; omega
          obtain rfl : n = j := by omega
          have HKE := hide (show Blk wx be (iCells n fun k => ((cf b k : Nat) : Int)) 3 by
            have e : (iCells n fun k => ((cf b k : Nat) : Int)) = iCells n fun k => (((if k < n then cf b k else 0) : Nat) : Int) := iCells_congr fun k hk => by rw [if_pos hk]
            rw [e]; exact HK.out)
          have HGX := hide (HG.out.keep HBX.out)
          have HWX := hide (HB.out.trans (HBX.out.mono HB.out.size))
          obtain ⟨oa, oc, rfl, hrow⟩ := HGX.out.slice
          have HROW := hide hrow
          clear hrow HK HG HBX HB HB2 HK2
          go_wp2
          go_loopw [35] (fun kv wy => ∃ k : Nat, kv = .int .i64 k ∧ k ≤ cols.length ∧ Hid (Below wx.heap.size wx wy)) (fun kv _ => cols.length - (intOf kv).toNat)
          case atStart => exact ⟨0, rfl, Nat.zero_le _, hide (Below.refl _ _)⟩
          case round =>
            rename World => wy
            obtain ⟨k, rfl, hk, HY⟩ := hrel
            by_cases hkl : k < cols.length
            · have dk : decide ((k : Int) < (cols.length : Int)) = true := by simp; omega
              have hdk : cols[k]? = some cols[k] := List.getElem?_eq_getElem hkl
              have hdm : cols[k] ∈ cols := List.getElem_mem hkl
              generalize cols[k] = d at hdk hdm
              obtain ⟨og, ob, rfl, co, kb⟩ := HROW.out k d hdk
              have co2 := (World.cell?_of_block (w := wx) (HY.out.block og (World.block_lt_of_cell? _ _ co))).trans co
              have HEQ := hide (equal_ints be ob n (cf b) d wy (HKE.out.below HY.out HKE.out.lt) (kb.below HY.out kb.lt) hn)
              have HDM := hide hdm
              clear co kb hdk hdm
              go_wp2_with fail
              refine HEQ.out.mono ?_
              rintro e w5 ⟨rb, rfl, hrb, hb5⟩
              have HY5 := hide (HY.out.trans (hb5.mono HY.out.size))
              clear hb5 HY HEQ
              cases rb with
              | false =>
                go_wp2
                exact ⟨⟨k + 1, by go_num, hkl, HY5⟩, by simp [intOf]; omega⟩
              | true =>
                have hrb := hrb.1 rfl
                have HC3 : Hid (∀ j, j < i + 1 → ∀ b', hs[j]? = some b' → ∃ c ∈ cols, ∀ q, q < n → c q = cf b' q) := fun j hj b' hb' => by
                  by_cases e : j = i
                  · subst e
                    rw [HBI.out] at hb'
                    injection hb' with hb'
                    subst hb'
                    exact ⟨d, HDM.out, fun q hq => (hrb q hq).symm⟩
                  · exact HC2.out j (by omega) b' hb'
                have HG5 := hide (HGX.out.keep HY5.out)
                have HW5 := hide (HWX.out.trans (HY5.out.mono HWX.out.size))
                clear hrb HC2
                go_wp2
                exact ⟨⟨i + 1, bs, cols, by go_num, hil, by omega, HG5, HC1, HC3, HW5⟩, by simp [intOf]; omega⟩
            · have dk : decide ((k : Int) < (cols.length : Int)) = false := by simp; omega
              obtain ⟨Z1, hZ1⟩ : ∃ Z1, wy.alloc (.cells #[.slice (some ⟨be, 0, none⟩) n n] 36) = Z1 := ⟨_, rfl⟩
              have hb1 : Below wy.heap.size wy Z1 := by rw [← hZ1]; exact (Below.refl _ _).alloc (Nat.le_refl _) _
              have hk1 : Blk Z1 wy.heap.size #[.slice (some ⟨be, 0, none⟩) n n] 36 := by rw [← hZ1]; exact Blk.newAt rfl _ _
              have hxz := HY.out.trans (hb1.mono HY.out.size)
              have hG4 := HGX.out.keep hxz
              have hwz : w1.heap.size ≤ Z1.heap.size := Nat.le_trans HWX.out.size hxz.size
              have hbl := hG4.len
              obtain ⟨vo', W', hr, ho, ha⟩ := run_appendG 68 36 68 (.slice none 0 0) 24 Tryz.underlying68 infoSl (by omega) rfl hG4.own ⟨wy.heap.size, 0, none⟩ 1 [slV n be] (by simp) (World.news_of_block hk1) (fun y hy => by simp at hy; subst hy; rfl) (by simp; omega) hwz
              have HP := hide (hG4.push ho ha (HKE.out.below hxz HKE.out.lt))
              have HW6 := hide ((HWX.out.trans (hxz.mono HWX.out.size)).trans ha.below)
              obtain ⟨va, vc, hvs, -⟩ := ho.slice
              have HC1' : Hid (∀ c ∈ cols ++ [cf b], ∃ b' ∈ hs, ∀ q, q < n → c q = cf b' q) := fun c hc => by
                rcases List.mem_append.1 hc with hc | hc
                · exact HC1.out c hc
                · obtain rfl := List.mem_singleton.1 hc
                  exact ⟨b, HBM.out, fun _ _ => rfl⟩
              have HC3 : Hid (∀ j, j < i + 1 → ∀ b', hs[j]? = some b' → ∃ c ∈ cols ++ [cf b], ∀ q, q < n → c q = cf b' q) := fun j hj b' hb' => by
                by_cases e : j = i
                · subst e
                  rw [HBI.out] at hb'
                  injection hb' with hb'
                  subst hb'
                  exact ⟨cf b, by simp, fun _ _ => rfl⟩
                · obtain ⟨c, hc, h2⟩ := HC2.out j (by omega) b' hb'
                  exact ⟨c, by simp [hc], h2⟩
              subst hvs
              simp only [slV, List.length_cons, List.length_nil, Nat.zero_add] at hr
              rw [show ((bs.map (slV n)) ++ [slV n be]).length = cols.length + 1 by simp [hbl]] at HP
              clear hb1 hk1 hxz hG4 hwz ho ha HC1 HC2
              go_wp2_with (refine wpList_append_run rfl _ _ _ rfl _ _ _ rfl rfl hr ?_)
              exact ⟨⟨i + 1, bs ++ [be], cols ++ [cf b], by go_num, hil, by simp; omega, HP, HC1', HC3, HW6⟩, by simp [intOf]; omega⟩
    · have di : decide ((i : Int) < (hs.length : Int)) = false := by simp; omega
      obtain rfl : i = hs.length := by omega
      obtain ⟨a, cap, e, -⟩ := HG.out.slice
      go_wp2
      rw [Exit.noGoto_ret]
      go_ret
      refine ⟨_, cols, rfl, HG.out.cols, hci, HC1.out, fun b hb => ?_, HB1.out.trans (HB.out.mono HB1.out.size)⟩
      obtain ⟨j, hj⟩ := List.mem_iff_getElem?.1 hb
      exact HC2.out j (List.getElem?_eq_some_iff.1 hj).1 b hj
end Go.Proofs.YtjcfnmjjkadaeaaGreatDoor
