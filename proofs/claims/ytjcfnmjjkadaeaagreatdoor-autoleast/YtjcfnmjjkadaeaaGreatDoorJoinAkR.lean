/- Texts of this claim put together: AkQ, AkR. -/
import Derived.Test.YtjcfnmjjkadaeaaGreatDoorJoinAkP
/- Package alike's backSteps: the walk. -/
namespace Go.Proofs.YtjcfnmjjkadaeaaGreatDoor
set_option maxRecDepth 100000
set_option linter.unusedSimpArgs false
set_option linter.unusedVariables false
open Go.RowKit Go.Shelf

theorem three_alloc (w : World) (o1 o2 o3 : Array Value) (t1 t2 t3 : TypeId) : ∀ Z, Z = (((w.alloc (.cells o1 t1)).alloc (.cells o2 t2)).alloc (.cells o3 t3)).drew →
    Below w.heap.size w Z ∧ Blk Z w.heap.size o1 t1 ∧ Blk Z (w.heap.size + 1) o2 t2 ∧ Blk Z (w.heap.size + 1 + 1) o3 t3 := by
  rintro Z rfl
  obtain ⟨w1, h1⟩ : ∃ w1, w.alloc (.cells o1 t1) = w1 := ⟨_, rfl⟩
  obtain ⟨w2, h2⟩ : ∃ w2, w1.alloc (.cells o2 t2) = w2 := ⟨_, rfl⟩
  obtain ⟨w3, h3⟩ : ∃ w3, w2.alloc (.cells o3 t3) = w3 := ⟨_, rfl⟩
  rw [h1, h2, h3]
  have s1 : w1.heap.size = w.heap.size + 1 := by rw [← h1]; simp
  have s2 : w2.heap.size = w.heap.size + 1 + 1 := by rw [← h2, ← s1]; simp
  have b1 : Below w.heap.size w w1 := by rw [← h1]; exact (Below.refl _ _).alloc (Nat.le_refl _) _
  have b2 : Below w1.heap.size w1 w2 := by rw [← h2]; exact (Below.refl _ _).alloc (Nat.le_refl _) _
  have b3 : Below w2.heap.size w2 w3 := by rw [← h3]; exact (Below.refl _ _).alloc (Nat.le_refl _) _
  have b5 : Below w3.heap.size w3 w3.drew := ⟨rfl, rfl, rfl, Nat.le_refl _, fun _ _ => rfl⟩
  have k1 : Blk w1 w.heap.size o1 t1 := by rw [← h1]; exact Blk.new _ _ _
  have k2 : Blk w2 (w.heap.size + 1) o2 t2 := by rw [← h2, ← s1]; exact Blk.new _ _ _
  have k3 : Blk w3 (w.heap.size + 1 + 1) o3 t3 := by rw [← h3, ← s2]; exact Blk.new _ _ _
  have a2 := k1.below b2 k1.lt
  have a3 := a2.below b3 a2.lt
  have c3 := k2.below b3 k2.lt
  exact ⟨((b1.trans (b2.mono (by omega))).trans (b3.mono (by omega))).trans (b5.mono (by have := b3.size; omega)), a3.below b5 a3.lt, c3.below b5 c3.lt, k3.below b5 k3.lt⟩
/-- One column's steps while they are made. -/
structure BkE (wr X : World) (p b1 b2 n : Nat) (f1 f2 : Nat → Int) : Prop where
  kp : Blk X p #[.slice (some ⟨b1, 0, none⟩) n n, .slice (some ⟨b2, 0, none⟩) n n] 149
  k1 : Blk X b1 (iCells n f1) 3
  k2 : Blk X b2 (iCells n f2) 3
  bel : Below wr.heap.size wr X
  l1 : wr.heap.size ≤ b1
  l2 : wr.heap.size ≤ b2
  ne : b1 ≠ b2
theorem BkE.keep {wr X Y : World} {p b1 b2 n : Nat} {f1 f2 : Nat → Int} (h : BkE wr X p b1 b2 n f1 f2) (hb : Below X.heap.size X Y) : BkE wr Y p b1 b2 n f1 f2 := ⟨h.kp.below hb h.kp.lt, h.k1.below hb h.k1.lt, h.k2.below hb h.k2.lt, h.bel.trans (hb.mono h.bel.size), h.l1, h.l2, h.ne⟩
theorem BkE.set1 {wr X : World} {p b1 b2 n : Nat} {f1 f2 : Nat → Int} (h : BkE wr X p b1 b2 n f1 f2) (i : Nat) (v : Int) : BkE wr (X.setCell ⟨b1, i, none⟩ (.int .i64 v)) p b1 b2 n (setI f1 i v) f2 :=
  ⟨h.kp.setOther _ _ (h.kp.ne h.k1 (by decide)), by have := h.k1.set i (.int .i64 v); rw [iCells_set] at this; exact this, h.k2.setOther _ _ (Ne.symm h.ne), h.bel.setCell h.l1 _, h.l1, h.l2, h.ne⟩
theorem BkE.set2 {wr X : World} {p b1 b2 n : Nat} {f1 f2 : Nat → Int} (h : BkE wr X p b1 b2 n f1 f2) (i : Nat) (v : Int) : BkE wr (X.setCell ⟨b2, i, none⟩ (.int .i64 v)) p b1 b2 n f1 (setI f2 i v) :=
  ⟨h.kp.setOther _ _ (h.kp.ne h.k2 (by decide)), h.k1.setOther _ _ h.ne, by have := h.k2.set i (.int .i64 v); rw [iCells_set] at this; exact this, h.bel.setCell h.l2 _, h.l1, h.l2, h.ne⟩
theorem BkE.congr {wr X : World} {p b1 b2 n : Nat} {f1 f2 g1 g2 : Nat → Int} (h : BkE wr X p b1 b2 n f1 f2) (h1 : ∀ j, j < n → f1 j = g1 j) (h2 : ∀ j, j < n → f2 j = g2 j) : BkE wr X p b1 b2 n g1 g2 :=
  ⟨h.kp, by rw [← iCells_congr h1]; exact h.k1, by rw [← iCells_congr h2]; exact h.k2, h.bel, h.l1, h.l2, h.ne⟩
theorem BkE.c {wr X : World} {p b1 b2 n : Nat} {f1 f2 : Nat → Int} (h : BkE wr X p b1 b2 n f1 f2) : X.cell? ⟨p, 0, none⟩ = some (.slice (some ⟨b1, 0, none⟩) n n) ∧ X.cell? ⟨p, 1, none⟩ = some (.slice (some ⟨b2, 0, none⟩) n n) := ⟨h.kp.cell 0, h.kp.cell 1⟩
set_option maxHeartbeats 8000000 in
theorem backSteps_any (W : World) (v : Value) (n : Nat) (cols : List (Nat → Nat)) (h : Cols W v n cols) (hn : n ≤ 1000000) (hl : cols.length ≤ 1000000) (hlt : ∀ c ∈ cols, ∀ q, q < n → c q < n) :
    Calls Tryz.prog 95 #[v] W fun e w' => ∃ vo bks, e = .returned vo ∧ bks.length = cols.length ∧ Backs w' W.heap.size n vo bks cols ∧ Below W.heap.size W w' := by
  obtain ⟨a, cap, rfl, h1⟩ := h.ex
  have hmk : ∀ W : World, (Instr.makeSlice 36 (.int .i64 n) (.int .i64 n)).run Tryz.prog W = .ok (.slice (some ⟨W.heap.size, 0, none⟩) n n) (W.alloc (.cells (iCells n fun _ => 0) 3)) := fun W => ints_make n W hn
  have H := hide h
  have HLT := hide hlt
  have HMK := hide hmk
  clear h h1 hlt hmk
  go_enter Tryz.func95, Tryz.ntmps95
  go_wp2
  go_loopw [3, 12] (fun ov iv wr => ∃ (i : Nat) (bks : List (Nat × Nat)), iv = .int .i64 i ∧ i ≤ cols.length ∧ bks.length = i ∧ Hid (Backs wr W.heap.size n ov bks cols) ∧ Hid (Below W.heap.size W wr)) (fun _ iv _ => cols.length - (intOf iv).toNat)
  case atStart => exact ⟨0, [], rfl, Nat.zero_le _, rfl, hide ⟨OwnS.nil _ _, Nat.zero_le _, fun i x c hx => by simp at hx⟩, hide (Below.refl _ _)⟩
  case round =>
    obtain ⟨i, bks, rfl, hi, hbl, HB, HW⟩ := hrel
    by_cases hilt : i < cols.length
    · have di : decide ((i : Int) < (cols.length : Int)) = true := by simp; omega
      have hcg : cols[i]? = some cols[i] := List.getElem?_eq_getElem hilt
      generalize cols[i] = c at hcg
      obtain ⟨a', cap', he, hat⟩ := (H.out.keep HW.out).ex
      obtain ⟨g, b, rfl, hgc, hbk⟩ := hat i c hcg
      injection he with he1 he2 he3
      subst he1 he3
      have HBK := hide hbk
      have HCG := hide hcg
      have hmk := HMK.out
      clear hat he2 hbk hcg
      go_wp2
      rename_i QA KA hA QB KB hB KC hC
      have key : ∀ (b1 b2 p : Nat) (Z : World), BkE wr Z p b1 b2 n (fun _ => 0) (fun _ => 0) →
          Exit.then KC (Exit.inBlock 1 (Exit.then KB QB)) Exit.normal { tmps := #[.slice (some ⟨g, 0, none⟩) cols.length cap, undef, .slice none 0 0, u3, undef, .slice (some ⟨b, 0, none⟩) n n, .pointer (some ⟨p, 0, none⟩), u7, u8, u9, .slice (some ⟨g, 0, none⟩) cols.length cap, .int .i64 cols.length, .int .i64 i, .bool true, .pointer (some ⟨g, i, none⟩), .slice (some ⟨b, 0, none⟩) n n, .slice (some ⟨b, 0, none⟩) n n, .int .i64 n, .slice (some ⟨b1, 0, none⟩) n n, .slice (some ⟨b, 0, none⟩) n n, .int .i64 n, .slice (some ⟨b2, 0, none⟩) n n, .agg #[.slice (some ⟨b1, 0, none⟩) n n, .slice (some ⟨b2, 0, none⟩) n n], u23, u24, u25, u26, u27, u28, u29, u30, u31, u32, u33, u34, u35, u36, u37, u38, u39, u40, u41, u42, u43, u44, u45, u46, u47, u48, u49, u50, u51, u52, u53, u54, u55, u56, u57, u58, u59, u60, undef], defers := [] } Z := by
        intro b1 b2 p Z hE0
        have HE0 := hide hE0
        have c1 := hE0.c.1
        clear hE0 hmk hgc
        go_wp2
        clear c1
        go_loopw [26] (fun jv wx => ∃ j : Nat, jv = .int .i64 j ∧ j ≤ n ∧ Hid (BkE wr wx p b1 b2 n (fun k => if k < j then -1 else 0) (fun _ => 0))) (fun jv _ => n - (intOf jv).toNat)
        case atStart => exact ⟨0, rfl, Nat.zero_le _, HE0.out.congr (fun j _ => rfl) (fun j _ => rfl)⟩
        case round =>
          rename World => X
          obtain ⟨j, rfl, hj, HE1⟩ := hrel
          by_cases hjn : j < n
          · have dj : decide ((j : Int) < (n : Int)) = true := by simp; omega
            have c1 := HE1.out.c.1
            have cj := HE1.out.k1.cI hjn
            have fj := HE1.out.k1.frozen j
            have HE2 := hide ((HE1.out.set1 j (-1)).congr (g1 := fun k => if k < j + 1 then -1 else 0) (g2 := fun _ => 0) (fun k _ => by
              unfold setI
              by_cases e : k = j
              · subst e; simp
              · rw [if_neg e]
                show (if k < j then (-1 : Int) else 0) = _
                by_cases h : k < j
                · rw [if_pos h, if_pos (by omega)]
                · rw [if_neg h, if_neg (by omega)]) (fun _ _ => rfl))
            clear HE0 HE1
            go_wp2
            exact ⟨⟨j + 1, by go_num, hjn, HE2⟩, by simp [intOf]; omega⟩
          · have dj : decide ((j : Int) < (n : Int)) = false := by simp; omega
            obtain rfl : n = j := by omega
            have HE2 := hide (HE1.out.congr (g1 := bkF c 0) (g2 := bkM c 0) (fun k hk => by rw [if_pos hk]; rfl) (fun k _ => by unfold bkM; rw [if_neg (by omega)]))
            clear HE0 HE1
            go_wp2
            go_loopw [36] (fun xv wy => ∃ x : Nat, xv = .int .i64 x ∧ x ≤ n ∧ Hid (BkE wr wy p b1 b2 n (bkF c x) (bkM c x))) (fun xv _ => n - (intOf xv).toNat)
            case atStart => exact ⟨0, rfl, Nat.zero_le _, HE2⟩
            case round =>
              rename World => Y
              obtain ⟨x, rfl, hx, HE3⟩ := hrel
              by_cases hxn : x < n
              · have dx : decide ((x : Int) < (n : Int)) = true := by simp; omega
                have hcx := HLT.out c (List.mem_of_getElem? HCG.out) x hxn
                have cb := (HBK.out.below HE3.out.bel HBK.out.lt).cI hxn
                have c0 := HE3.out.c.1
                have c1 := HE3.out.c.2
                have cf := HE3.out.k1.cI hcx
                have cm := HE3.out.k2.cI hxn
                have fm := HE3.out.k2.frozen x
                have HE4 := hide (HE3.out.set2 x (bkF c x (c x)))
                clear HE2 HE3
                go_wp2
                go_region
                have hdr : ∀ V : World, Below V.heap.size V V.drew := fun V => ⟨rfl, rfl, rfl, Nat.le_refl _, fun _ _ => rfl⟩
                have HE5 := hide (HE4.out.keep (hdr _))
                generalize (Y.setCell ⟨b2, x, none⟩ (.int .i64 (bkF c x (c x)))).drew = Y2 at HE5 ⊢
                have e0 := HE5.out.c.1
                have ef := HE5.out.k1.cI hcx
                have ff := HE5.out.k1.frozen (c x)
                have HE6 := hide ((HE5.out.set1 (c x) (x : Nat)).congr (g1 := bkF c (x + 1)) (g2 := bkM c (x + 1)) (fun k _ => bkF_set c x k) (fun k _ => bkM_set c x k))
                clear HE4 HE5 cb c0 c1 cf cm fm hdr
                go_wp2
                exact ⟨⟨x + 1, by go_num, hxn, HE6⟩, by simp [intOf]; omega⟩
              · have dx : decide ((x : Int) < (n : Int)) = false := by simp; omega
                obtain rfl : n = x := by omega
                have c0 := HE3.out.c.1
                have c1 := HE3.out.c.2
                obtain ⟨Z1, hZ1⟩ : ∃ Z1, Y.alloc (.cells #[.slice (some ⟨b1, 0, none⟩) n n, .slice (some ⟨b2, 0, none⟩) n n] 149) = Z1 := ⟨_, rfl⟩
                have hb1 : Below Y.heap.size Y Z1 := by rw [← hZ1]; exact (Below.refl _ _).alloc (Nat.le_refl _) _
                have hk1 : Blk Z1 Y.heap.size #[.slice (some ⟨b1, 0, none⟩) n n, .slice (some ⟨b2, 0, none⟩) n n] 149 := by rw [← hZ1]; exact Blk.newAt rfl _ _
                have hE4 := HE3.out.keep hb1
                have hBK := HB.out.keep hE4.bel
                have hwz : W.heap.size ≤ Z1.heap.size := Nat.le_trans HW.out.size hE4.bel.size
                obtain ⟨vo', W', hr, ho, ha⟩ := run_appendRow (S := bkS n) 141 141 (.agg #[.slice none 0 0, .slice none 0 0]) 48 Tryz.underlying141 infoBk rfl (by omega) hBK.own ⟨Y.heap.size, 0, none⟩ 1 (b1, b2) (fun j u hj => by
                  rw [Go.WideShapes.add_plain, Nat.zero_add, hk1.cell, ← hj]
                  show _ = ([Value.slice (some ⟨b1, 0, none⟩) n n, Value.slice (some ⟨b2, 0, none⟩) n n] : List Value)[j]?
                  simp) (by omega) hwz
                have HP := hide (hBK.push ho ha (by rw [hbl]; exact HCG.out) (Nat.le_trans HW.out.size hE4.l1) (Nat.le_trans HW.out.size hE4.l2) hE4.k1 hE4.k2)
                have HW2 := hide ((HW.out.trans (hE4.bel.mono HW.out.size)).trans ha.below)
                obtain ⟨va, vc, hvs, -⟩ := ho.slice
                obtain ⟨ua, uc, hus, -⟩ := hBK.own.slice
                have HE7 := hide hus
                clear HE2 HE3 hb1 hk1 hE4 hBK hwz ho ha H
                subst hus
                subst hvs
                rw [show (bks ++ [(b1, b2)]).length = i + 1 by simp [hbl]] at HP
                go_wp2_with (refine wpList_append_run rfl _ _ _ rfl _ _ _ rfl rfl hr ?_)
                exact ⟨⟨i + 1, bks ++ [(b1, b2)], by go_num, hilt, by simp [hbl], HP, HW2⟩, by simp [intOf]; omega⟩
      clear hA hB hC HLT HCG
      have HBS := HB.out
      go_region
      all_goals
        obtain ⟨f1, f2, f3, f4⟩ := three_alloc wr _ _ _ _ _ _ _ rfl
        exact key _ _ _ _ ⟨by first | exact f2 | exact f3 | exact f4, by first | exact f2 | exact f3 | exact f4, by first | exact f2 | exact f3 | exact f4, f1, by omega, by omega, by omega⟩
    · have di : decide ((i : Int) < (cols.length : Int)) = false := by simp; omega
      obtain rfl : i = cols.length := by omega
      go_wp2
      go_ret
      exact ⟨_, bks, rfl, hbl, HB.out, HW.out⟩
end Go.Proofs.YtjcfnmjjkadaeaaGreatDoor
/- Package alike: a parting in memory with what is marked, as one thing. -/
namespace Go.Proofs.YtjcfnmjjkadaeaaGreatDoor
set_option maxRecDepth 100000
set_option linter.unusedSimpArgs false
set_option linter.unusedVariables false
open Go.RowKit Go.Shelf

/-- States in groups by f, N of them; M tells which ones are marked. -/
structure Pst (W : World) (p n : Nat) (o : Nat → Prop) (f : Nat → Nat) (N : Nat) (M : Nat → Bool) : Prop where
  ex : ∃ od pl gs ts, PrtAt W p n f od pl gs ts o ∧ Prt n f od pl gs ∧ ts.Nodup ∧ (∀ k, k ∈ ts ↔ ∃ a m b, gs[k]? = some (a, m, b) ∧ a < m) ∧ gs.length = N ∧ ∀ q, q < n → mkd f pl gs q = M q
theorem Pst.keep {W W' : World} {p n : Nat} {o : Nat → Prop} {f : Nat → Nat} {N : Nat} {M : Nat → Bool} (h : Pst W p n o f N M) (hb : Below W.heap.size W W') : Pst W' p n o f N M := by
  obtain ⟨od, pl, gs, ts, h1, h2⟩ := h.ex
  exact ⟨od, pl, gs, ts, h1.keep hb, h2⟩
theorem Pst.congr {W : World} {p n : Nat} {o : Nat → Prop} {f : Nat → Nat} {N : Nat} {M M' : Nat → Bool} (h : Pst W p n o f N M) (hM : ∀ q, q < n → M q = M' q) : Pst W p n o f N M' := by
  obtain ⟨od, pl, gs, ts, h1, h2, h3, h4, h5, h6⟩ := h.ex
  exact ⟨od, pl, gs, ts, h1, h2, h3, h4, h5, fun q hq => (h6 q hq).trans (hM q hq)⟩
theorem nodup_len {l : List Nat} (h : l.Nodup) {m : Nat} (hm : ∀ x ∈ l, x < m) : l.length ≤ m := by
  have hp := pigeon (l.map fun k => [k]) ((List.range m).map fun k => [k]) ?_ ?_
  · simpa using hp
  · rw [List.nodup_iff_pairwise_ne, List.pairwise_map]
    refine (List.nodup_iff_pairwise_ne.1 h).imp ?_
    intro a b hab e
    injection e with e _
    exact hab e
  · intro x hx
    obtain ⟨k, hk, rfl⟩ := List.mem_map.1 hx
    exact List.mem_map.2 ⟨k, List.mem_range.2 (hm k hk), rfl⟩
theorem Pst.tsl {n : Nat} {f od pl : Nat → Nat} {gs : List (Nat × Nat × Nat)} {ts : List Nat} (h : Prt n f od pl gs) (hn : ts.Nodup) (ht : ∀ k, k ∈ ts ↔ ∃ a m b, gs[k]? = some (a, m, b) ∧ a < m) : ts.length ≤ n := by
  have h1 : ts.length ≤ gs.length := nodup_len hn fun x hx => by
    obtain ⟨a, m, b, hx, -⟩ := (ht x).1 hx
    exact (List.getElem?_eq_some_iff.1 hx).1
  exact Nat.le_trans h1 h.count
theorem PrtAt.lt {W : World} {p n : Nat} {f od pl : Nat → Nat} {gs : List (Nat × Nat × Nat)} {ts : List Nat} {o : Nat → Prop} (h : PrtAt W p n f od pl gs ts o) {k : Nat} (hk : o k) : k < W.heap.size := by
  obtain ⟨bf, bo, bp, vg, vt, he, rfl⟩ := h.ex
  rcases hk with e | e | e | e | e | e
  · rw [e]; exact he.blk.lt
  · rw [e]; exact he.kf.lt
  · rw [e]; exact he.ko.lt
  · rw [e]; exact he.kp.lt
  · obtain ⟨c, hb⟩ := he.og.blk e; exact hb.lt
  · obtain ⟨c, hb⟩ := he.ot.blk e; exact hb.lt
theorem Pst.lt {W : World} {p n : Nat} {o : Nat → Prop} {f : Nat → Nat} {N : Nat} {M : Nat → Bool} (h : Pst W p n o f N M) {k : Nat} (hk : o k) : k < W.heap.size := by
  obtain ⟨od, pl, gs, ts, h1, -⟩ := h.ex
  exact h1.lt hk
theorem Pst.le {W : World} {p n : Nat} {o : Nat → Prop} {f : Nat → Nat} {N : Nat} {M : Nat → Bool} (h : Pst W p n o f N M) : N ≤ n := by
  obtain ⟨od, pl, gs, ts, h1, h2, h3, h4, h5, h6⟩ := h.ex
  rw [← h5]; exact h2.count
/-- One state more is marked. -/
theorem pst_mark {W : World} {p n : Nat} {o : Nat → Prop} {f : Nat → Nat} {N : Nat} {M : Nat → Bool} (h : Pst W p n o f N M) (hn5 : n ≤ 1000000) (q : Nat) (hq : q < n) (hm : M q = false) :
    Calls Tryz.prog 93 #[PT p, .int .i64 q] W fun e w' => e = .returned (.tuple #[]) ∧ ∃ o', Pst w' p n o' f N (fun r => M r || decide (r = q)) ∧ Kp W o w' o' := by
  obtain ⟨od, pl, gs, ts, h1, h2, h3, h4, h5, h6⟩ := h.ex
  obtain ⟨⟨a, m, b⟩, hx, hxl, hxr⟩ := h2.grp q hq
  have hmk : mkd f pl gs q = false := by rw [h6 q hq, hm]
  obtain ⟨k1, k2, k3⟩ := h2.mark hq hx hmk
  obtain ⟨s1, s2, s3, s4, s5⟩ := h2.shp _ _ hx
  simp only at s1 s2 s3 s4 s5
  have hmn : m < n := by omega
  refine (mark_any h1 q hq hx hmn (h2.olt m hmn) (h2.plt q hq) (by have := Pst.tsl h2 h3 h4; omega) hn5).mono ?_
  rintro e w' ⟨rfl, o', ha, hk⟩
  have hfl := h2.lt hq
  have hset : ∀ k, (gs.set (f q) (a, m + 1, b))[k]? = if k = f q then some (a, m + 1, b) else gs[k]? := fun k => by
    rw [List.getElem?_set]
    by_cases e : f q = k
    · subst e; rw [if_pos rfl, if_pos rfl, if_pos hfl]
    · rw [if_neg e, if_neg (fun e' => e e'.symm)]
  refine ⟨rfl, o', ⟨_, _, _, _, ha, k2, ?_, fun k => ?_, by rw [List.length_set]; exact h5, fun r hr => by rw [k3 r hr, h6 r hr]⟩, hk⟩
  · by_cases e : m = a
    · rw [if_pos e]
      refine List.nodup_append.2 ⟨h3, by simp, fun x hx' y hy e2 => ?_⟩
      rcases List.mem_singleton.1 hy with rfl
      obtain ⟨a', m', b', hx2, hlt⟩ := (h4 x).1 hx'
      rw [e2, hx] at hx2
      injection hx2 with hx2
      injection hx2 with e3 e4
      injection e4 with e4 e5
      omega
    · rw [if_neg e]; exact h3
  · rw [hset]
    by_cases ek : k = f q
    · rw [if_pos ek]
      constructor
      · intro _; exact ⟨a, m + 1, b, rfl, by omega⟩
      · intro _
        by_cases e : m = a
        · rw [if_pos e]; simp [ek]
        · rw [if_neg e, ek]
          exact (h4 _).2 ⟨a, m, b, hx, by omega⟩
    · rw [if_neg ek]
      by_cases e : m = a
      · rw [if_pos e, List.mem_append]
        constructor
        · rintro (h | h)
          · exact (h4 k).1 h
          · exact absurd (List.mem_singleton.1 h) ek
        · intro h; exact .inl ((h4 k).2 h)
      · rw [if_neg e]; exact h4 k
/-- Marked ones are parted from the others. -/
theorem pst_split {W : World} {p n : Nat} {o : Nat → Prop} {f : Nat → Nat} {N : Nat} {M : Nat → Bool} (h : Pst W p n o f N M) (hn5 : n ≤ 1000000) :
    Calls Tryz.prog 94 #[PT p] W fun e w' => e = .returned (.tuple #[]) ∧ ∃ o' f' N', Pst w' p n o' f' N' (fun _ => false) ∧ AlSp n M f N f' N' ∧ Kp W o w' o' := by
  obtain ⟨od, pl, gs, ts, h1, h2, h3, h4, h5, h6⟩ := h.ex
  refine (split_any h1 hn5 h2 h3 (fun k hk => (h4 k).1 hk) (by have := Pst.tsl h2 h3 h4; omega)).mono ?_
  rintro e w' ⟨rfl, o', ha, hk⟩
  obtain ⟨i1, i2, i3⟩ := h2.split h3 h4
  refine ⟨rfl, o', _, _, ⟨od, pl, _, [], ha, i1, List.nodup_nil, fun k => ⟨fun h => by simp at h, fun ⟨a, m, b, hx, hlt⟩ => ?_⟩, rfl, i3⟩, ?_, hk⟩
  · exfalso
    obtain ⟨s1, s2, s3, s4, s5⟩ := i1.shp _ _ hx
    simp only at s1 s2 s3 s4 s5
    have han : a < n := by omega
    have hf := s5 a (by omega) (by omega)
    have := i3 (od a) (i1.olt a han)
    rw [mkd_of (x := (a, m, b)) (by rw [hf]; exact hx), i1.po a han] at this
    simp at this
    omega
  · rw [h5] at i2
    exact ⟨i2.le, i2.new, i2.lt, fun x y hx hy => by rw [i2.iff x y hx hy, h6 x hx, h6 y hy]⟩
/-- A group's states, copied. -/
theorem pst_states {W : World} {p n : Nat} {o : Nat → Prop} {f : Nat → Nat} {N : Nat} {M : Nat → Bool} (h : Pst W p n o f N M) (hn5 : n ≤ 1000000) (g : Nat) (hg : g < N) :
    ∃ (a b : Nat) (od : Nat → Nat), a < b ∧ b ≤ n ∧ (∀ j, a + j < n → od (a + j) < n) ∧ (((List.range (b - a)).map fun j => od (a + j)).Nodup) ∧ (∀ x, x < n → (x ∈ ((List.range (b - a)).map fun j => od (a + j)) ↔ f x = g)) ∧
    Calls Tryz.prog 97 #[PT p, .int .i64 g] W fun e w' => ∃ bo, e = .returned (.slice (some ⟨bo, a, none⟩) (b - a) (n - a)) ∧ Blk w' bo (iCells n fun j => ((od j : Nat) : Int)) 3 ∧ Below W.heap.size W w' := by
  obtain ⟨od, pl, gs, ts, h1, h2, h3, h4, h5, h6⟩ := h.ex
  obtain ⟨⟨a, m, b⟩, hx⟩ : ∃ x, gs[g]? = some x := ⟨_, List.getElem?_eq_getElem (by omega : g < gs.length)⟩
  obtain ⟨s1, s2, s3, s4, s5⟩ := h2.shp _ _ hx
  simp only at s1 s2 s3 s4 s5
  refine ⟨a, b, od, s3, s4, fun j hj => h2.olt _ hj, ?_, fun x hxn => ?_, (states_any h1 g hx s3 s4 hn5).mono fun e w' hh => ?_⟩
  · rw [List.nodup_iff_pairwise_ne, List.pairwise_map]
    refine List.pairwise_lt_range.imp_of_mem ?_
    intro i j hi hj hlt e
    have hi := List.mem_range.1 hi
    have hj := List.mem_range.1 hj
    have e1 := h2.po (a + i) (by omega)
    have e2 := h2.po (a + j) (by omega)
    rw [e, e2] at e1
    omega
  · have hin := h2.in hxn hx
    simp only at hin
    rw [hin, List.mem_map]
    constructor
    · rintro ⟨j, hj, e⟩
      have hj := List.mem_range.1 hj
      rw [← e, h2.po _ (by omega)]
      omega
    · rintro ⟨e1, e2⟩
      refine ⟨pl x - a, List.mem_range.2 (by omega), ?_⟩
      rw [show a + (pl x - a) = pl x by omega]
      exact h2.op x hxn
  · obtain ⟨bo, e1, e2, -, e3⟩ := hh
    exact ⟨bo, e1, e2, e3⟩
/-- What a walk over the groups reads of the parting itself. -/
theorem Pst.cells {W : World} {p n : Nat} {o : Nat → Prop} {f : Nat → Nat} {N : Nat} {M : Nat → Bool} (h : Pst W p n o f N M) :
    (∃ a c, W.cell? ⟨p, 3, none⟩ = some (.slice a N c)) ∧ ∃ bf, W.cell? ⟨p, 0, none⟩ = some (.slice (some ⟨bf, 0, none⟩) n n) ∧ Blk W bf (iCells n fun j => ((f j : Nat) : Int)) 3 := by
  obtain ⟨od, pl, gs, ts, h1, h2, h3, h4, h5, h6⟩ := h.ex
  obtain ⟨bf, bo, bp, vg, vt, he, rfl⟩ := h1.ex
  obtain ⟨a, c, e, -⟩ := he.og.slice
  rw [h5] at e
  exact ⟨⟨a, c, by rw [← e]; exact he.c.2.2.2.1⟩, bf, he.c.1, he.kf⟩
theorem AlSp.congr {n : Nat} {M M' : Nat → Bool} {f : Nat → Nat} {N : Nat} {f' : Nat → Nat} {N' : Nat} (h : AlSp n M f N f' N') (hM : ∀ q, q < n → M q = M' q) : AlSp n M' f N f' N' :=
  ⟨h.le, h.new, h.lt, fun p q hp hq => by rw [h.iff p q hp hq, hM p hp, hM q hq]⟩
end Go.Proofs.YtjcfnmjjkadaeaaGreatDoor
