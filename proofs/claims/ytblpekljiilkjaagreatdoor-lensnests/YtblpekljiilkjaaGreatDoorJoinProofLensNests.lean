/- LensNests answers true for every plan of a term: Nest is how many parentheses of its text lie in one another at most. Conditions: the table of math/bits and the words of package lens hold what their initialisers lay (the card ties that to the program's text). -/
/- Texts of this claim put together: LawLensNests, ProofLensNests. -/
import Derived.Test.YtblpekljiilkjaaGreatDoorJoinNsB
import Derived.Test.YtblpekljiilkjaaGreatDoorJoinTmM
import Derived.Test.YtblpekljiilkjaaGreatDoorJoinTwB
import Derived.Test.YtblpekljiilkjaaGreatDoorJoinPlB
import Derived.Test.YtblpekljiilkjaaGreatDoorCards
import Derived.Test.YtblpekljiilkjaaGreatDoorTie
/- LensNests: how deep the parentheses of a term's text lie in one another. -/
namespace Go.Proofs.YtblpekljiilkjaaGreatDoor
set_option maxRecDepth 100000
set_option linter.unusedSimpArgs false
set_option linter.unusedVariables false
open Go.RowKit Go.Shelf

def L256 (l : List Nat) : Prop := ∀ x ∈ l, x < 256
theorem L256.app {a b : List Nat} (h : L256 a) (k : L256 b) : L256 (a ++ b) := fun x hx => by
  rcases List.mem_append.1 hx with hx | hx
  · exact h x hx
  · exact k x hx
theorem l256_rest (o : Nat) (n t b : ByteArray) (r : Option RE) : L256 (restT o n t b r) := by
  have sp : L256 [32] := by intro x hx; simp at hx; omega
  have nl : L256 [] := fun x hx => by cases hx
  unfold restT
  refine L256.app (L256.app (L256.app ?_ ?_) ?_) ?_
  · split
    · exact sp.app (bN_lt n)
    · exact nl
  · split
    · exact nl
    · exact sp.app (argT_lt r)
  · split
    · exact sp.app (quoteT_lt t)
    · exact nl
  · split
    · exact sp.app (quoteT_lt b)
    · exact nl
theorem l256_tk (o : Nat) (sep : List Nat) (hs : L256 sep) (ks : List TM) (h : ∀ k ∈ ks, L256 k.txt) (i : Nat) : L256 (tkT o sep i (tkL ks)) := by
  induction ks generalizing i with
  | nil => exact fun x hx => by cases hx
  | cons k ks ih =>
    rw [show tkL (k :: ks) = (k.op, k.txt) :: tkL ks from rfl, tkT]
    refine (L256.app ?_ ?_).app (ih (fun x hx => h x (by simp [hx])) (i + 1))
    · split
      · exact hs
      · exact fun x hx => by cases hx
    · unfold inT
      split
      · exact (L256.app (a := [40]) (by intro x hx; simp at hx; omega) (h k (by simp))).app (by intro x hx; simp at hx; omega)
      · exact h k (by simp)
theorem l256_sep (o : Nat) : L256 (tsep o) := by
  have : ∀ x ∈ tsep o, x < 256 := by
    unfold tsep
    split
    · decide
    · split
      · decide
      · split <;> decide
  exact this
theorem tm_256 (t : TM) : WfT t → L256 t.txt := by
  refine TM.ind (P := fun t => WfT t → L256 t.txt) ?_ t
  intro o n tx b r ks ih hw
  have hk : ∀ k ∈ ks, L256 k.txt := fun k hk => ih k hk (hw.kid k hk)
  have ho := hw.op
  have hwd : L256 (wordT o) := wordT_lt o (by omega)
  rw [TM.txt_mk]
  cases hlf : leafO o with
  | true => rw [tmT_leaf _ _ _ _ _ _ hlf]; exact hwd.app (l256_rest o n tx b r)
  | false =>
    cases hro : rowO o with
    | true => rw [tmT_row _ _ _ _ _ _ hlf hro]; exact l256_tk _ _ (l256_sep o) ks hk 0
    | false =>
      by_cases h9 : o = 9
      · subst h9
        rw [tmT_9]
        exact (l256_tk _ _ (fun x hx => by cases hx) ks hk 0).app (by intro x hx; simp at hx; omega)
      · rw [tmT_word _ _ _ _ _ _ hlf hro h9]
        exact ((hwd.app (by intro x hx; simp at hx; omega)).app (l256_tk _ _ (l256_sep o) ks hk 0)).app (by intro x hx; simp at hx; omega)
theorem drop_cons' {T : List Nat} {i c : Nat} (h : T[i]? = some c) : T.drop i = c :: T.drop (i + 1) := by
  obtain ⟨hl, rfl⟩ := List.getElem?_eq_some_iff.1 h
  exact List.drop_eq_getElem_cons hl
set_option maxHeartbeats 8000000 in
theorem lensNests_any (s : PL) (cs : List Value) (w : World) (h : PlC w cs s) (hT : TabAt w) (hD : WordsAt w) :
    Calls Tryz.prog 7 #[PlVal cs] w fun e w' => e = .returned (.bool true) ∧ Below w.heap.size w w' := by
  obtain ⟨v, rfl, hr, -⟩ := h.open
  obtain ⟨hn, a, cap, rfl, -⟩ := hr.at
  have HT := hide hT
  have HDW := hide hD
  have HC := hide h
  have hb1 := (Below.refl w.heap.size w).alloc (Nat.le_refl _) (.cells #[.int .i64 s.op, .int .i64 s.wd, .int .i64 s.num, .slice a s.kids.length cap] 24)
  have hPk := Blk.newAt (w := w) rfl #[.int .i64 s.op, .int .i64 s.wd, .int .i64 s.num, .slice a s.kids.length cap] 24
  have HB1 := hide hb1
  have HPK := hide hPk
  have HFEW : Hid (∀ W, Below w.heap.size w W → Calls Tryz.prog 13 #[PlVal [.int .i64 s.op, .int .i64 s.wd, .int .i64 s.num, .slice a s.kids.length cap]] W fun e w' => ∃ c : Bool, e = .returned (.bool c) ∧ (c = true → s.nodes ≤ 30) ∧ Below W.heap.size W w') := fun W hW => pfew_any s _ W (h.keep hW)
  have HMK : Hid (∀ W, Below w.heap.size w W → Calls Tryz.prog 14 #[PlVal [.int .i64 s.op, .int .i64 s.wd, .int .i64 s.num, .slice a s.kids.length cap]] W fun e w' => ∃ p, e = .returned (PT p) ∧ TmAt w' p s.tm ∧ Below W.heap.size W w') := fun W hW => make_any s _ W (h.keep hW) (hT.onS hW)
  clear h hr hT hD hb1 hPk hn
  unfold PlVal at HFEW HMK ⊢
  go_enter Tryz.func7, Tryz.ntmps7
  go_wp2_with fail
  refine (head10_any _ (HT.out.onS HB1.out) (HDW.out.on HB1.out)).mono ?_
  rintro e w1 ⟨rfl, hb⟩
  have HP1 := hide (HPK.out.below hb HPK.out.lt)
  have HL1 := hide (HB1.out.trans (hb.mono HB1.out.size))
  clear hb
  have q0 := HP1.out.cell 0
  have q1 := HP1.out.cell 1
  have q2 := HP1.out.cell 2
  have q3 := HP1.out.cell 3
  simp only [List.getElem?_toArray, List.getElem?_cons_zero, List.getElem?_cons_succ] at q0 q1 q2 q3
  go_wp2_with fail
  refine (HFEW.out w1 HL1.out).mono ?_
  rintro e w2 ⟨few, rfl, hfew, hb⟩
  have HP2 := hide (HP1.out.below hb HP1.out.lt)
  have HL2 := hide (HL1.out.trans (hb.mono HL1.out.size))
  have HF := hide hfew
  clear hb hfew q0 q1 q2 q3 HFEW
  cases few with
  | false =>
    go_wp2
    go_ret
    exact ⟨rfl, HL2.out⟩
  | true =>
    have hn30 := HF.out rfl
    have q0 := HP2.out.cell 0
    have q1 := HP2.out.cell 1
    have q2 := HP2.out.cell 2
    have q3 := HP2.out.cell 3
    simp only [List.getElem?_toArray, List.getElem?_cons_zero, List.getElem?_cons_succ] at q0 q1 q2 q3
    go_wp2_with fail
    refine (HMK.out w2 HL2.out).mono ?_
    rintro e w3 ⟨p, rfl, ht, hb⟩
    have HL3 := hide (HL2.out.trans (hb.mono HL2.out.size))
    have HTM := hide ht
    have hlen : s.tm.txt.length ≤ 6000 := by have := tm_len s; omega
    have hsz : s.tm.sz ≤ 90 := by have := pl_sz s; omega
    have hnz : s.tm.nest ≤ 90 := Nat.le_trans (nest_le _) hsz
    have HWR := hide (write_any s.tm s.tm_wf p w3 ht (by omega) (HT.out.onS HL3.out))
    have HNS : Hid (∀ W, Below w3.heap.size w3 W → Calls Tryz.prog 28 #[PT p] W fun e w' => e = .returned (.int .i64 s.tm.nest) ∧ Below W.heap.size W w') := fun W hW => nest_any s.tm p W s.tm_wf (HTM.out.keep hW) (by omega) ((HDW.out.on HL3.out).on hW)
    have hsc := tm_sc s.tm s.tm_wf (pl_nm s) [] 0 0 (Int.le_refl _)
    have hTb : bytesN (strB s.tm.txt) = s.tm.txt := strS_bytes (tm_256 s.tm s.tm_wf)
    rw [List.append_nil, sc_nil] at hsc
    obtain ⟨S0, hS0⟩ : ∃ S0, S0 = strB s.tm.txt := ⟨_, rfl⟩
    rw [← hS0] at HWR hTb
    have hS0l : S0.size ≤ 6000 := by rw [hS0, strS_size]; exact hlen
    rw [← hTb] at hsc
    generalize s.tm.nest = z at *
    have HSC : Hid (sc (bytesN S0) 0 0 0 = (0, (z : Int), 0)) := by
      show _ = _
      rw [hsc]
      congr 2
      omega
    clear hb ht hlen q0 q1 q2 q3 HMK hn30 HF hsc hTb hS0 hsz
    unfold PT at HWR HNS ⊢
    go_wp2_with fail
    refine HWR.out.mono ?_
    rintro e w4 ⟨rfl, hb4⟩
    have HB4 := hide hb4
    clear hb4 HWR
    go_wp2
    go_loopw [5, 6, 7, 8] (fun nv mv qv iv wr => ∃ (i q : Nat) (n m : Int), nv = .int .i64 n ∧ mv = .int .i64 m ∧ qv = .int .u8 q ∧ iv = .int .i64 i ∧ i ≤ S0.size + 1 ∧ q < 256 ∧ (-(i : Int) ≤ n ∧ n ≤ i) ∧ (0 ≤ m ∧ m ≤ i) ∧ Hid (sc ((bytesN S0).drop i) n m q = (0, (z : Int), 0)) ∧ Hid (Below w3.heap.size w3 wr)) (fun _ _ _ iv _ => S0.size + 2 - (intOf iv).toNat)
    case atStart => exact ⟨0, 0, 0, 0, rfl, rfl, rfl, rfl, by omega, by omega, by omega, by omega, by rw [List.drop_zero]; exact HSC.out, HB4.out⟩
    case round =>
      obtain ⟨i, q, n, m, rfl, rfl, rfl, rfl, hi, hq, hn, hm, HI, HB⟩ := hrel
      by_cases hlt : i < S0.size
      · have hkd : decide (i < S0.size) = true := by simp [hlt]
        have hks : i < S0.size := hlt
        obtain ⟨c, hc⟩ : ∃ c : Nat, c = (S0[i]'hks).toNat := ⟨_, rfl⟩
        have hidx := fun w => run_index_string (P := Tryz.prog) w 9 S0 .i64 (i : Int) Tryz.underlying9
        have hkk : (0 : Int) ≤ i ∧ (i : Int) < S0.size := ⟨by omega, by omega⟩
        simp only [dif_pos hkk, Int.toNat_natCast] at hidx
        rw [← hc] at hidx
        have hc256 : c < 256 := by rw [hc]; exact UInt8.toNat_lt _
        have HDR := hide (drop_cons' (show (bytesN S0)[i]? = some c by rw [bN_get S0 i hks, hc]))
        have HLEN : Hid ((bytesN S0).length = S0.size) := bN_len S0
        clear hc
        by_cases hq0 : q = 0
        · subst hq0
          have z1 : ((c : Int) == 34) = decide (c = 34) := by by_cases e : c = 34 <;> simp [e] <;> omega
          have z2 : ((c : Int) == 47) = decide (c = 47) := by by_cases e : c = 47 <;> simp [e] <;> omega
          have z3 : ((c : Int) == 40) = decide (c = 40) := by by_cases e : c = 40 <;> simp [e] <;> omega
          have z4 : ((c : Int) == 41) = decide (c = 41) := by by_cases e : c = 41 <;> simp [e] <;> omega
          have HZ := hide (And.intro z1 (And.intro z2 (And.intro z3 z4)))
          clear z1 z2 z3 z4
          by_cases h34 : c = 34 ∨ c = 47
          · have HN : Hid (sc ((bytesN S0).drop (i + 1)) n m c = (0, (z : Int), 0)) := by
              show _ = _
              rw [← sc_q c _ n m h34, ← HDR.out]; exact HI.out
            rcases h34 with h | h
            all_goals
              subst h
              clear HDR HZ
              go_wp2
              refine ⟨⟨i + 1, _, n, m, rfl, rfl, rfl, by go_num, by omega, by omega, by omega, by omega, HN, HB⟩, by simp [intOf]; omega⟩
          · have y1 : ((c : Int) == 34) = false := by rw [HZ.out.1]; simp; omega
            have y2 : ((c : Int) == 47) = false := by rw [HZ.out.2.1]; simp; omega
            by_cases h40 : c = 40
            · have HN : Hid (sc ((bytesN S0).drop (i + 1)) (n + 1) (max m (n + 1)) 0 = (0, (z : Int), 0)) := by
                show _ = _
                rw [← sc_open, ← h40, ← HDR.out]; exact HI.out
              subst h40
              clear HDR HZ h34 y1 y2
              go_wp2
              refine ⟨⟨i + 1, 0, n + 1, max m (n + 1), rfl, rfl, rfl, by go_num, by omega, by omega, by omega, by omega, HN, HB⟩, by simp [intOf]; omega⟩
            · have y3 : ((c : Int) == 40) = false := by rw [HZ.out.2.2.1]; simp; omega
              by_cases h41 : c = 41
              · have HN : Hid (sc ((bytesN S0).drop (i + 1)) (n - 1) m 0 = (0, (z : Int), 0)) := by
                  show _ = _
                  rw [← sc_close, ← h41, ← HDR.out]; exact HI.out
                subst h41
                clear HDR HZ h34 y1 y2 y3 h40
                go_wp2
                refine ⟨⟨i + 1, 0, n - 1, m, rfl, rfl, rfl, by go_num, by omega, by omega, by omega, by omega, HN, HB⟩, by simp [intOf]; omega⟩
              · have y4 : ((c : Int) == 41) = false := by rw [HZ.out.2.2.2]; simp; omega
                have HN : Hid (sc ((bytesN S0).drop (i + 1)) n m 0 = (0, (z : Int), 0)) := by
                  show _ = _
                  rw [← sc_out c _ n m (by omega) (by omega) h40 h41, ← HDR.out]; exact HI.out
                clear HDR HZ
                go_wp2
                refine ⟨⟨i + 1, 0, n, m, rfl, rfl, rfl, by go_num, by omega, by omega, by omega, by omega, HN, HB⟩, by simp [intOf]; omega⟩
        · have x1 : ((q : Int) == 0) = false := by simp; omega
          have x2 : ((q : Int) != 0) = true := by simp; omega
          by_cases h92 : c = 92
          · have HN : Hid (sc ((bytesN S0).drop (i + 2)) n m q = (0, (z : Int), 0)) := by
              show _ = _
              have h0 := HI.out
              rw [HDR.out, h92] at h0
              by_cases hlast : i + 1 < S0.size
              · have hx : ∃ x, (bytesN S0)[i + 1]? = some x := ⟨_, List.getElem?_eq_getElem (by rw [HLEN.out]; exact hlast)⟩
                obtain ⟨x, hx⟩ := hx
                rw [drop_cons' hx, sc_esc x _ n m q hq0] at h0
                exact h0
              · have e1 : (bytesN S0).drop (i + 1) = [] := List.drop_eq_nil_of_le (by rw [HLEN.out]; omega)
                have e2 : (bytesN S0).drop (i + 2) = [] := List.drop_eq_nil_of_le (by rw [HLEN.out]; omega)
                rw [e1, sc_esc1 n m q hq0] at h0
                rw [e2, sc_nil]
                exact h0
            subst h92
            clear HDR
            go_wp2
            refine ⟨⟨i + 2, q, n, m, rfl, rfl, rfl, by go_num, by omega, by omega, by omega, by omega, HN, HB⟩, by simp [intOf]; omega⟩
          · have x3 : ((c : Int) == 92) = false := by simp; omega
            have HN : Hid (sc ((bytesN S0).drop (i + 1)) n m (if c = q then 0 else q) = (0, (z : Int), 0)) := by
              show _ = _
              rw [← sc_in c _ n m q hq0 h92, ← HDR.out]; exact HI.out
            by_cases hcq : c = q
            · have x4 : ((c : Int) == (q : Int)) = true := by simp; omega
              rw [if_pos hcq] at HN
              clear HDR
              subst hcq
              go_wp2
              refine ⟨⟨i + 1, 0, n, m, rfl, rfl, rfl, by go_num, by omega, by omega, by omega, by omega, HN, HB⟩, by simp [intOf]; omega⟩
            · have x4 : ((c : Int) == (q : Int)) = false := by simp; omega
              rw [if_neg hcq] at HN
              clear HDR
              go_wp2
              refine ⟨⟨i + 1, q, n, m, rfl, rfl, rfl, by go_num, by omega, by omega, by omega, by omega, HN, HB⟩, by simp [intOf]; omega⟩
      · have hkd : decide (i < S0.size) = false := by simp; omega
        have hmz : m = (z : Int) := by
          have h0 := HI.out
          rw [List.drop_eq_nil_of_le (by rw [bN_len]; omega), sc_nil] at h0
          injection h0 with _ h0
          injection h0
        subst hmz
        go_wp2_with fail
        refine (HNS.out wr HB.out).mono ?_
        rintro e w6 ⟨rfl, hb⟩
        have HB6 := hide (HB.out.trans (hb.mono HB.out.size))
        clear hb
        go_wp2_with fail
        refine (nest_nil w6).mono ?_
        rintro e w7 ⟨rfl, rfl⟩
        go_wp2
        go_ret
        exact ⟨rfl, HL3.out.trans (HB6.out.mono HL3.out.size)⟩
theorem lensNests_all (v : Value) (s : PL) (w : World) (hs : ∃ cs, v = PlVal cs ∧ PlC w cs s) (hT : TabAt w) (hD : WordsAt w) :
    Calls Tryz.prog 7 #[v] w fun e w' => e = .returned (.bool true) ∧ Below w.heap.size w w' := by
  obtain ⟨cs, rfl, h⟩ := hs
  exact lensNests_any s cs w h hT hD
end Go.Proofs.YtblpekljiilkjaaGreatDoor
/- LensNests answers true for every plan of a term: Nest is how many parentheses of its text lie in one another at most. Conditions: the table of math/bits and the words of package lens hold what their initialisers lay (the card ties that to the program's text). -/
namespace Go.Proofs.YtblpekljiilkjaaGreatDoor
set_option maxRecDepth 100000
open Go.ChangeShapes Go.WideShapes Go.ChangeAt Go.WideMaps Go.WideElems Go.RowKit

set_option maxRecDepth 100000 in
theorem lensNests_lifted (os : Os) (started : os.Started) (H : Type) (enc : TypeId × Value → H) :
    ReturnsInHanded {} Tryz.checked os 7 .any (fun w args => (Rows.lensNestsSpec.pre enc Tryz.prog Tryz.f7 [] false w args ∧ laidMetH Tryz.prog [("math/bits.deBruijn64tab", Rows.laid_math_bits_deBruijn64tab), ("periscope/lens.words", Rows.laid_periscope_lens_words)] w) ∧ sizedMet enc Tryz.prog Tryz.f7 (OpenSpec.ofChange Rows.lensNestsSpec) false w args)
      (Rows.lensNestsSpec.post enc Tryz.prog Tryz.f7 false true false false) := by
  refine returnsInHanded_of_change_and (C := Tryz.checked) (X := fun w _ => laidMetH Tryz.prog [("math/bits.deBruijn64tab", Rows.laid_math_bits_deBruijn64tab), ("periscope/lens.words", Rows.laid_periscope_lens_words)] w) (fun _ _ _ hh h => h.of_heap hh) own started (by kernel_rfl) Tryz.func7
    (ChangeSpec.witness_shaped (enc := enc) (C := Tryz.checked) (os := os) (X := fun w _ => laidMetH Tryz.prog [("math/bits.deBruijn64tab", Rows.laid_math_bits_deBruijn64tab), ("periscope/lens.words", Rows.laid_periscope_lens_words)] w) false (World.doorLaid Tryz.prog 400 os)
      #[.agg #[.int .i64 0, .int .i64 0, .int .i64 0, .slice none 0 0]] 8 rfl (World.shaped_of_RefB (by kernel_rfl) (by kernel_rfl)) (by kernel_rfl) (by kernel_rfl) (by kernel_rfl) (door_metL os _)) ?_
  intro W base args ds gs before hval0 hW _ _ hL _
  have hval : ∀ (j : Nat) t v, Tryz.f7.params[j]? = some t → args[j]? = some v → Value.okWide Tryz.prog W .any base t v := hval0
  have hW' := hW
  obtain ⟨p, q, hA0, hV, rfl, hfz, hnd⟩ := hW
  have hA : DataW.TrodAll enc Tryz.prog W 0 (fun _ => true) true Tryz.f7.params.toList args.toList ds p := hA0
  rw [Tryz.params7] at hA hval
  obtain ⟨v0, d0, rfl, rfl, h0⟩ := trodAll_one hA
  obtain ⟨rfl, rfl⟩ := trodVars_none hV
  have k0 := h0
  have lt0 : ∀ x ∈ p, x.block < W.heap.size := by obtain ⟨m, hm⟩ := k0; exact DataW.trod_lt m _ _ _ hm
  obtain ⟨z0, hz0⟩ := open_plan (hval 0 24 v0 rfl rfl) h0
  have hT := tab_of_laidL hL
  have hD := words_of_laid hL
  clear hA0 hval0
  refine (lensNests_all v0 z0 W hz0 hT hD).mono fun e W' ⟨he, hb⟩ => ?_
  subst he
  exact ⟨_, rfl, _, _, _, [], _, [], hW', trodAll_mk1 (shut_bool Tryz.underlying4 _), trodAll_mk1 (Below.trod laidOut (by kernel_rfl) (of_decide_eq_true (by kernel_rfl)) k0 hb lt0), rfl, hb.frame _, fun h => by cases h⟩

theorem lensNests_said : Rows.LensNestsSaid :=
  OpenClaim.holds_of_wide 7 Tryz.f7 rfl rfl rfl rfl rfl rfl rfl ⟨rfl, rfl, rfl, rfl, rfl⟩ rfl rfl rfl rfl rfl (by kernel_rfl) Tryz.func7 (by kernel_rfl)
    (of_decide_eq_true (by kernel_rfl)) (by unfold Func.isWrapper; first | (rw [if_pos (by decide +kernel)]; kernel_rfl) | (rw [if_neg (by decide +kernel)]; exact ⟨rfl, rfl⟩))
    (fun os started H enc _ => lensNests_lifted os started H enc)

theorem lensNests_card : Rows.LensNestsCardSaid :=
  Claim7.holds_tied_plain_at .later [] [.data, .data] true Rows.lensNestsCard.stood.harness false
    lensNests_said (fun _ h => by cases h) (by kernel_rfl) (fun _ h => by cases h) lensNests_row_tie rfl ⟨rfl, rfl⟩ (by kernel_rfl) rfl
    (fun f fn hf hfn => by
      obtain rfl : f = 7 := Option.some.inj ((show Tryz.prog.funcNamed "periscope/periscopelaw10.LensNests" = some 7 by kernel_rfl).symm.trans hf) |>.symm
      obtain rfl : fn = Tryz.f7 := (Option.some.inj (Tryz.func7.symm.trans hfn)).symm
      exact ⟨by kernel_rfl, fun j t ht => by
        rw [Tryz.params7] at ht
        have hm : t ∈ [24] := by simpa using Array.mem_of_getElem? ht
        have hall : ([24].all fun u => !Tryz.prog.wantsStandIn u) = true := by kernel_rfl
        exact (show Tryz.prog.wantsStandIn t = false by simpa using List.all_eq_true.1 hall t hm)⟩)
    (by kernel_rfl)
#print axioms lensNests_card
end Go.Proofs.YtblpekljiilkjaaGreatDoor
