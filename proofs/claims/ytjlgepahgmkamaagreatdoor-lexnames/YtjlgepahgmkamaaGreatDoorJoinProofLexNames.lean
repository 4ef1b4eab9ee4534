/- LexNames answers true for every text and number: Name tells just the texts of 1 to 30 bytes that the page calls names, and none of the words; Letter likewise at three bytes. Conditions: the table of math/bits holds what its initialiser lays (the card ties that to the program's text). -/
/- Texts of this claim put together: LawLexNames, OpenStr, ProofLexNames. -/
import Derived.Test.YtjlgepahgmkamaaGreatDoorJoinLxH
import Derived.Test.YtjlgepahgmkamaaGreatDoorJoinTwB
import Derived.Test.YtjlgepahgmkamaaGreatDoorCards
import Derived.Test.YtjlgepahgmkamaaGreatDoorTie
/- LexNames: names, byte by byte; the words aren't. -/
namespace Go.Proofs.YtjlgepahgmkamaaGreatDoor
set_option maxRecDepth 100000
set_option linter.unusedSimpArgs false
set_option linter.unusedVariables false
open Go.RowKit Go.Shelf

def wordsC : Array Value := #[.string ⟨#[108, 101, 116]⟩, .string ⟨#[105, 110]⟩, .string ⟨#[99, 111, 112, 121]⟩, .string ⟨#[107, 101, 121]⟩, .string ⟨#[99, 111, 110, 115, 116]⟩, .string ⟨#[100, 101, 108]⟩, .string ⟨#[105, 110, 115]⟩, .string ⟨#[115, 119, 97, 112]⟩, .string ⟨#[105, 110, 118]⟩, .string ⟨#[100, 105, 99, 116]⟩, .string ⟨#[108, 101, 102, 116]⟩, .string ⟨#[114, 105, 103, 104, 116]⟩, .string ⟨#[107, 101, 101, 112]⟩, .string ⟨#[110, 111, 114, 109]⟩]
def wordS (j : Nat) : ByteArray := strB (wordsN.getD j [])
theorem wordsC_at : ∀ j, j < 14 → wordsC[j]? = some (.string (wordS j)) := by
  intro j hj
  match j, hj with
  | 0, _ => rfl
  | 1, _ => rfl
  | 2, _ => rfl
  | 3, _ => rfl
  | 4, _ => rfl
  | 5, _ => rfl
  | 6, _ => rfl
  | 7, _ => rfl
  | 8, _ => rfl
  | 9, _ => rfl
  | 10, _ => rfl
  | 11, _ => rfl
  | 12, _ => rfl
  | 13, _ => rfl
  | j + 14, h => omega
theorem words_lt : ∀ j, j < 14 → (∀ x ∈ wordsN.getD j [], x < 256) ∧ (wordsN.getD j []).length ≤ 5 ∧ nameB (wordsN.getD j []) = false ∧ nameB (wordsN.getD j [] ++ [95]) = true := by decide +kernel
/-- What the statement reckons of the first k bytes. -/
def wantK (l : List Nat) (k : Nat) : Bool := decide (1 ≤ l.length) && decide (l.length ≤ 30) && (List.range k).all fun j => letB (l.getD j 0) (decide (j = 0))
theorem wantK_succ (l : List Nat) (k : Nat) : wantK l (k + 1) = (wantK l k && letB (l.getD k 0) (decide (k = 0))) := by
  unfold wantK
  rw [List.range_succ, List.all_append, Bool.and_assoc]
  simp [Bool.and_assoc]
theorem wantK_no {l : List Nat} {k m : Nat} (h : wantK l k = false) (hm : k ≤ m) : wantK l m = false := by
  induction m with
  | zero => obtain rfl : k = 0 := by omega
            exact h
  | succ m ih =>
    by_cases e : k = m + 1
    · rw [← e]; exact h
    · rw [wantK_succ, ih (by omega)]; rfl
theorem nameB_want (l : List Nat) : nameB l = (wantK l l.length && wordsN.all fun x => decide (l ≠ x)) := by
  rw [Bool.eq_iff_iff, nameB_iff, Bool.and_eq_true, List.all_eq_true]
  unfold wantK
  simp only [Bool.and_eq_true, decide_eq_true_eq, List.all_eq_true, List.mem_range, decide_not, Bool.not_eq_true', decide_eq_false_iff_not]
  constructor
  · rintro ⟨h1, h2, h3, h4⟩
    refine ⟨⟨⟨by cases l <;> simp at h1 ⊢, h2⟩, fun j hj => ?_⟩, fun x hx e => h3 (e ▸ hx)⟩
    refine h4 j hj _ ?_
    rw [List.getD_eq_getElem?_getD, List.getElem?_eq_getElem hj]; rfl
  · rintro ⟨⟨⟨h1, h2⟩, h3⟩, h4⟩
    refine ⟨fun e => by subst e; simp at h1, h2, fun hm => h4 l hm rfl, fun j hj c hc => ?_⟩
    have := h3 j hj
    rw [List.getD_eq_getElem?_getD, hc] at this
    exact this
theorem all_take {α : Type} {p : α → Bool} {d : α} : ∀ (l : List α) {q : Nat}, q < l.length → (l.take (q + 1)).all p = ((l.take q).all p && p (l.getD q d))
  | x :: r, 0, _ => by simp
  | x :: r, q + 1, h => by
    have := all_take (p := p) (d := d) r (q := q) (by simpa using h)
    simp only [List.take_succ_cons, List.all_cons, this, List.getD_cons_succ, Bool.and_assoc]
theorem bytesN_append2 (x y : ByteArray) : bytesN (x ++ y) = bytesN x ++ bytesN y := by simp [bytesN]
set_option maxHeartbeats 8000000 in
theorem lexNames_any (s : ByteArray) (n : Int) (w : World) (hs : s.size ≤ 9223372036854775807) (hT : TabAt w) :
    Calls Tryz.prog 5 #[.string s, .int .i64 n] w fun e w' => e = .returned (.bool true) ∧ Below w.heap.size w w' := by
  have hlen := bN_len s
  obtain ⟨l, hl⟩ : ∃ l, l = bytesN s := ⟨_, rfl⟩
  rw [← hl] at hlen
  have HLEN := hide hlen
  have HL := hide hl
  have HT := hide hT
  obtain ⟨b1, h1⟩ : ∃ b, decide ((1 : Int) ≤ (s.size : Int)) = b := ⟨_, rfl⟩
  obtain ⟨b2, h2⟩ : ∃ b, decide ((s.size : Int) ≤ 30) = b := ⟨_, rfl⟩
  have HW0 : Hid (wantK l 0 = (b1 && b2)) := by
    show _ = _
    unfold wantK
    rw [hlen, ← h1, ← h2, Bool.eq_iff_iff]
    simp
    omega
  obtain ⟨j, hj, hwi⟩ : ∃ j : Nat, j < 14 ∧ wrap64 ((IntKind.u64.wrap n).tmod 14) = (j : Int) := by
    have h0 : 0 ≤ IntKind.u64.wrap n := by simp [IntKind.wrap, IntKind.signed, IntKind.bits]; omega
    refine ⟨((IntKind.u64.wrap n).tmod 14).toNat, ?_, ?_⟩
    · rw [Int.tmod_eq_emod_of_nonneg h0]; omega
    · rw [Int.tmod_eq_emod_of_nonneg h0]; unfold wrap64; omega
  clear hT hl hlen
  go_enter Tryz.func5, Tryz.ntmps5
  go_wp2_with fail
  refine (head11_any w HT.out).mono ?_
  rintro e w1 ⟨rfl, hb1⟩
  have HB1 := hide hb1
  clear hb1
  obtain ⟨G, hG⟩ : ∃ G, w1.heap.size = G := ⟨_, rfl⟩
  obtain ⟨w2, ew⟩ : ∃ w2, w1.alloc (.cells #[.string ⟨#[108, 101, 116]⟩, .string ⟨#[105, 110]⟩, .string ⟨#[99, 111, 112, 121]⟩, .string ⟨#[107, 101, 121]⟩, .string ⟨#[99, 111, 110, 115, 116]⟩, .string ⟨#[100, 101, 108]⟩, .string ⟨#[105, 110, 115]⟩, .string ⟨#[115, 119, 97, 112]⟩, .string ⟨#[105, 110, 118]⟩, .string ⟨#[100, 105, 99, 116]⟩, .string ⟨#[108, 101, 102, 116]⟩, .string ⟨#[114, 105, 103, 104, 116]⟩, .string ⟨#[107, 101, 101, 112]⟩, .string ⟨#[110, 111, 114, 109]⟩] 9) = w2 := ⟨_, rfl⟩
  have HB2 : Hid (Below w.heap.size w w2) := by rw [← ew]; exact HB1.out.alloc HB1.out.size _
  have HC2 : Hid (Blk w2 G wordsC 9) := by rw [← ew, ← hG]; exact Blk.newAt rfl _ _
  cases b1 <;> cases b2
  all_goals
    go_wp2
    clear ew hG
    go_loopw [6, 7] (fun wv i wr => ∃ k : Nat, k ≤ s.size ∧ i = .int .i64 k ∧ wv = .bool (wantK l k) ∧ Hid (wr = w2)) (fun _ i _ => s.size - (intOf i).toNat)
    case atStart => exact ⟨0, Nat.zero_le _, rfl, by rw [HW0.out]; rfl, rfl⟩
    case round =>
      obtain ⟨k, hk, rfl, rfl, HBR⟩ := hrel
      obtain ⟨V, hV⟩ : ∃ V, V = wantK l k := ⟨_, rfl⟩
      rw [← hV]
      have HV := hide hV
      clear hV
      by_cases hlt : k < s.size
      · have hd : decide ((k : Int) < (s.size : Int)) = true := by simp; omega
        cases V with
        | true =>
          obtain ⟨c, hcb⟩ : ∃ c, (bytesN s)[k]? = some c := ⟨_, List.getElem?_eq_getElem (by rw [bN_len]; exact hlt)⟩
          obtain ⟨hx, ec⟩ := bN_at s k c hcb
          have hgd : l.getD k 0 = c := by rw [HL.out, List.getD_eq_getElem?_getD, hcb]; rfl
          obtain ⟨p1, h1⟩ : ∃ p, decide ((97 : Int) ≤ c) = p := ⟨_, rfl⟩
          obtain ⟨p2, h2⟩ : ∃ p, decide ((c : Int) ≤ 122) = p := ⟨_, rfl⟩
          obtain ⟨p3, h3⟩ : ∃ p, ((c : Int) == 95) = p := ⟨_, rfl⟩
          obtain ⟨p4, h4⟩ : ∃ p, decide ((48 : Int) ≤ c) = p := ⟨_, rfl⟩
          obtain ⟨p5, h5⟩ : ∃ p, decide ((c : Int) ≤ 57) = p := ⟨_, rfl⟩
          obtain ⟨p6, h6⟩ : ∃ p, decide (0 < k) = p := ⟨_, rfl⟩
          have HOK : Hid (wantK l (k + 1) = ((p1 && p2) || p3 || (p4 && p5 && p6))) := by
            show _ = _
            rw [wantK_succ, ← HV.out, hgd, ← h1, ← h2, ← h3, ← h4, ← h5, ← h6]
            unfold letB
            have k1 : decide ((97 : Int) ≤ c) = decide (97 ≤ c) := by simp; omega
            have k2 : decide ((c : Int) ≤ 122) = decide (c ≤ 122) := by simp; omega
            have k3 : ((c : Int) == 95) = decide (c = 95) := by by_cases h : c = 95 <;> simp [h] <;> omega
            have k4 : decide ((48 : Int) ≤ c) = decide (48 ≤ c) := by simp; omega
            have k5 : decide ((c : Int) ≤ 57) = decide (c ≤ 57) := by simp; omega
            have k6 : decide (0 < k) = !decide (k = 0) := by by_cases h : k = 0 <;> simp [h] <;> omega
            rw [k1, k2, k3, k4, k5, k6]
            cases decide (97 ≤ c) <;> cases decide (c ≤ 122) <;> cases decide (c = 95) <;> cases decide (48 ≤ c) <;> cases decide (c ≤ 57) <;> cases decide (k = 0) <;> rfl
          clear hcb hgd
          cases p1 with
          | true =>
            cases p2 with
            | true =>
              go_wp2
              refine ⟨⟨k + 1, by omega, by go_num, by rw [HOK.out]; rfl, HBR.out⟩, by simp [intOf]; omega⟩
            | false =>
              cases p3 with
              | true =>
                go_wp2
                refine ⟨⟨k + 1, by omega, by go_num, by rw [HOK.out]; rfl, HBR.out⟩, by simp [intOf]; omega⟩
              | false =>
                cases p4 with
                | false =>
                  go_wp2
                  refine ⟨⟨k + 1, by omega, by go_num, by rw [HOK.out]; rfl, HBR.out⟩, by simp [intOf]; omega⟩
                | true =>
                  cases p5 with
                  | false =>
                    go_wp2
                    refine ⟨⟨k + 1, by omega, by go_num, by rw [HOK.out]; rfl, HBR.out⟩, by simp [intOf]; omega⟩
                  | true =>
                    cases p6 with
                    | false =>
                      go_wp2
                      refine ⟨⟨k + 1, by omega, by go_num, by rw [HOK.out]; rfl, HBR.out⟩, by simp [intOf]; omega⟩
                    | true =>
                      go_wp2
                      refine ⟨⟨k + 1, by omega, by go_num, by rw [HOK.out]; rfl, HBR.out⟩, by simp [intOf]; omega⟩
          | false =>
            cases p3 with
            | true =>
              go_wp2
              refine ⟨⟨k + 1, by omega, by go_num, by rw [HOK.out]; rfl, HBR.out⟩, by simp [intOf]; omega⟩
            | false =>
              cases p4 with
              | false =>
                go_wp2
                refine ⟨⟨k + 1, by omega, by go_num, by rw [HOK.out]; rfl, HBR.out⟩, by simp [intOf]; omega⟩
              | true =>
                cases p5 with
                | false =>
                  go_wp2
                  refine ⟨⟨k + 1, by omega, by go_num, by rw [HOK.out]; rfl, HBR.out⟩, by simp [intOf]; omega⟩
                | true =>
                  cases p6 with
                  | false =>
                    go_wp2
                    refine ⟨⟨k + 1, by omega, by go_num, by rw [HOK.out]; rfl, HBR.out⟩, by simp [intOf]; omega⟩
                  | true =>
                    go_wp2
                    refine ⟨⟨k + 1, by omega, by go_num, by rw [HOK.out]; rfl, HBR.out⟩, by simp [intOf]; omega⟩
        | false =>
          have HVE : Hid (false = wantK l s.size) := by
            show _ = _
            exact (wantK_no HV.out.symm (by omega)).symm
          go_wp2
          go_loopw [6, 64] (fun wv i wr => ∃ q : Nat, q ≤ 14 ∧ i = .int .i64 q ∧ wv = .bool (wantK l s.size && (wordsN.take q).all fun x => decide (l ≠ x)) ∧ Hid (wr = w2)) (fun _ i _ => 14 - (intOf i).toNat)
          case atStart => exact ⟨0, Nat.zero_le _, rfl, by rw [← HVE.out]; simp, HBR.out⟩
          case round =>
            obtain ⟨q, hq, rfl, rfl, HBR2⟩ := hrel
            obtain ⟨A, hA⟩ : ∃ A, A = (wantK l s.size && (wordsN.take q).all fun x => decide (l ≠ x)) := ⟨_, rfl⟩
            rw [← hA]
            have HA := hide hA
            clear hA
            obtain rfl : _ = w2 := HBR2.out
            by_cases hq14 : q < 14
            · have hd2 : decide ((q : Int) < 14) = true := by simp; omega
              have hcell := (HC2.out.cell q).trans (wordsC_at q hq14)
              obtain ⟨x, hx2⟩ : ∃ x, x = wordS q := ⟨_, rfl⟩
              rw [← hx2] at hcell
              obtain ⟨D, hD⟩ : ∃ D, (s.toList == x.toList) = D := ⟨_, rfl⟩
              have HD : Hid (decide (l ≠ wordsN.getD q []) = !D) := by
                show _ = _
                rw [← hD, HL.out, ByteArray.toList_eq, ByteArray.toList_eq, hx2]
                have h1 : (bytesN s = wordsN.getD q []) ↔ s.data.toList = (wordS q).data.toList := by
                  constructor
                  · intro h
                    have h2 : s = wordS q := bytesN_inj (h.trans (bytesN_strB (words_lt q hq14).1).symm)
                    rw [h2]
                  · intro h
                    have h2 : s = wordS q := Go.WideShapes.bytes_inj h
                    rw [h2]
                    exact bytesN_strB (words_lt q hq14).1
                by_cases h3 : bytesN s = wordsN.getD q []
                · have h5 : (s.data.toList == (wordS q).data.toList) = true := beq_iff_eq.2 (h1.1 h3)
                  rw [h5]
                  exact decide_eq_false (fun h => h h3)
                · have h5 : (s.data.toList == (wordS q).data.toList) = false := beq_eq_false_iff_ne.2 fun h => h3 (h1.2 h)
                  rw [h5]
                  exact decide_eq_true h3
              have HSU : Hid ((wantK l s.size && (wordsN.take (q + 1)).all fun x => decide (l ≠ x)) = (A && !D)) := by
                show _ = _
                rw [all_take _ (by exact hq14), ← Bool.and_assoc, ← HA.out, HD.out]
              clear hx2
              cases A
              all_goals
                go_wp2
                exact ⟨⟨q + 1, by omega, by go_num, by rw [HSU.out]; rfl, trivial⟩, by simp [intOf]; omega⟩
            · have hd2 : decide ((q : Int) < 14) = false := by simp; omega
              have HAN : Hid (nameB (bytesN s) = A) := by
                show _ = _
                rw [nameB_want, ← HL.out, HLEN.out, HA.out, List.take_of_length_le (by show 14 ≤ q; omega)]
              have HNM := hide (name_any s wr hs)
              rw [HAN.out] at HNM
              obtain ⟨sk, hsk⟩ : ∃ sk, sk = wordS j := ⟨_, rfl⟩
              have hcell := (HC2.out.cell j).trans (wordsC_at j hj)
              rw [← hsk] at hcell
              obtain ⟨g1, g2, g3, g4⟩ := words_lt j hj
              have hbs : bytesN sk = wordsN.getD j [] := by rw [hsk]; exact bytesN_strB g1
              have hsz : sk.size ≤ 5 := by rw [← bN_len, hbs]; exact g2
              have HN1 := hide (name_any sk wr (by omega))
              rw [hbs, g3] at HN1
              have hbs2 : bytesN (sk ++ ⟨#[95]⟩) = wordsN.getD j [] ++ [95] := by rw [bytesN_append2, hbs]; rfl
              have HN2 := hide (name_any (sk ++ ⟨#[95]⟩) wr (by rw [ByteArray.size_append]; show sk.size + 1 ≤ _; omega))
              rw [hbs2, g4] at HN2
              have HL1 : Hid (Calls Tryz.prog 13 #[.int .u8 48, .bool true] wr fun e w' => e = .returned (.bool false) ∧ w' = wr) := lexLetter_any 48 (by omega) true wr
              have HL2 : Hid (Calls Tryz.prog 13 #[.int .u8 48, .bool false] wr fun e w' => e = .returned (.bool true) ∧ w' = wr) := lexLetter_any 48 (by omega) false wr
              have HL3 : Hid (Calls Tryz.prog 13 #[.int .u8 65, .bool false] wr fun e w' => e = .returned (.bool false) ∧ w' = wr) := lexLetter_any 65 (by omega) false wr
              clear hsk g1 g2 g3 g4 hbs hbs2 hq14
              cases A
              all_goals
                go_wp2_with fail
                refine HNM.out.mono ?_
                rintro e u1 ⟨rfl, rfl⟩
                go_wp2_with fail
                refine HN1.out.mono ?_
                rintro e u1 ⟨rfl, rfl⟩
                go_wp2_with fail
                refine HN2.out.mono ?_
                rintro e u1 ⟨rfl, rfl⟩
                go_wp2_with fail
                refine HL1.out.mono ?_
                rintro e u1 ⟨rfl, rfl⟩
                go_wp2_with fail
                refine HL2.out.mono ?_
                rintro e u1 ⟨rfl, rfl⟩
                go_wp2_with fail
                refine HL3.out.mono ?_
                rintro e u1 ⟨rfl, rfl⟩
                go_wp2
                go_ret
                exact ⟨rfl, HB2.out⟩
      · have hd : decide ((k : Int) < (s.size : Int)) = false := by simp; omega
        have HVE : Hid (V = wantK l s.size) := by
          show _ = _
          rw [HV.out]
          congr 1
          omega
        · go_wp2
          go_loopw [6, 64] (fun wv i wr => ∃ q : Nat, q ≤ 14 ∧ i = .int .i64 q ∧ wv = .bool (wantK l s.size && (wordsN.take q).all fun x => decide (l ≠ x)) ∧ Hid (wr = w2)) (fun _ i _ => 14 - (intOf i).toNat)
          case atStart => exact ⟨0, Nat.zero_le _, rfl, by rw [← HVE.out]; simp, HBR.out⟩
          case round =>
            obtain ⟨q, hq, rfl, rfl, HBR2⟩ := hrel
            obtain ⟨A, hA⟩ : ∃ A, A = (wantK l s.size && (wordsN.take q).all fun x => decide (l ≠ x)) := ⟨_, rfl⟩
            rw [← hA]
            have HA := hide hA
            clear hA
            obtain rfl : _ = w2 := HBR2.out
            by_cases hq14 : q < 14
            · have hd2 : decide ((q : Int) < 14) = true := by simp; omega
              have hcell := (HC2.out.cell q).trans (wordsC_at q hq14)
              obtain ⟨x, hx2⟩ : ∃ x, x = wordS q := ⟨_, rfl⟩
              rw [← hx2] at hcell
              obtain ⟨D, hD⟩ : ∃ D, (s.toList == x.toList) = D := ⟨_, rfl⟩
              have HD : Hid (decide (l ≠ wordsN.getD q []) = !D) := by
                show _ = _
                rw [← hD, HL.out, ByteArray.toList_eq, ByteArray.toList_eq, hx2]
                have h1 : (bytesN s = wordsN.getD q []) ↔ s.data.toList = (wordS q).data.toList := by
                  constructor
                  · intro h
                    have h2 : s = wordS q := bytesN_inj (h.trans (bytesN_strB (words_lt q hq14).1).symm)
                    rw [h2]
                  · intro h
                    have h2 : s = wordS q := Go.WideShapes.bytes_inj h
                    rw [h2]
                    exact bytesN_strB (words_lt q hq14).1
                by_cases h3 : bytesN s = wordsN.getD q []
                · have h5 : (s.data.toList == (wordS q).data.toList) = true := beq_iff_eq.2 (h1.1 h3)
                  rw [h5]
                  exact decide_eq_false (fun h => h h3)
                · have h5 : (s.data.toList == (wordS q).data.toList) = false := beq_eq_false_iff_ne.2 fun h => h3 (h1.2 h)
                  rw [h5]
                  exact decide_eq_true h3
              have HSU : Hid ((wantK l s.size && (wordsN.take (q + 1)).all fun x => decide (l ≠ x)) = (A && !D)) := by
                show _ = _
                rw [all_take _ (by exact hq14), ← Bool.and_assoc, ← HA.out, HD.out]
              clear hx2
              cases A
              all_goals
                go_wp2
                exact ⟨⟨q + 1, by omega, by go_num, by rw [HSU.out]; rfl, trivial⟩, by simp [intOf]; omega⟩
            · have hd2 : decide ((q : Int) < 14) = false := by simp; omega
              have HAN : Hid (nameB (bytesN s) = A) := by
                show _ = _
                rw [nameB_want, ← HL.out, HLEN.out, HA.out, List.take_of_length_le (by show 14 ≤ q; omega)]
              have HNM := hide (name_any s wr hs)
              rw [HAN.out] at HNM
              obtain ⟨sk, hsk⟩ : ∃ sk, sk = wordS j := ⟨_, rfl⟩
              have hcell := (HC2.out.cell j).trans (wordsC_at j hj)
              rw [← hsk] at hcell
              obtain ⟨g1, g2, g3, g4⟩ := words_lt j hj
              have hbs : bytesN sk = wordsN.getD j [] := by rw [hsk]; exact bytesN_strB g1
              have hsz : sk.size ≤ 5 := by rw [← bN_len, hbs]; exact g2
              have HN1 := hide (name_any sk wr (by omega))
              rw [hbs, g3] at HN1
              have hbs2 : bytesN (sk ++ ⟨#[95]⟩) = wordsN.getD j [] ++ [95] := by rw [bytesN_append2, hbs]; rfl
              have HN2 := hide (name_any (sk ++ ⟨#[95]⟩) wr (by rw [ByteArray.size_append]; show sk.size + 1 ≤ _; omega))
              rw [hbs2, g4] at HN2
              have HL1 : Hid (Calls Tryz.prog 13 #[.int .u8 48, .bool true] wr fun e w' => e = .returned (.bool false) ∧ w' = wr) := lexLetter_any 48 (by omega) true wr
              have HL2 : Hid (Calls Tryz.prog 13 #[.int .u8 48, .bool false] wr fun e w' => e = .returned (.bool true) ∧ w' = wr) := lexLetter_any 48 (by omega) false wr
              have HL3 : Hid (Calls Tryz.prog 13 #[.int .u8 65, .bool false] wr fun e w' => e = .returned (.bool false) ∧ w' = wr) := lexLetter_any 65 (by omega) false wr
              clear hsk g1 g2 g3 g4 hbs hbs2 hq14
              cases A
              all_goals
                go_wp2_with fail
                refine HNM.out.mono ?_
                rintro e u1 ⟨rfl, rfl⟩
                go_wp2_with fail
                refine HN1.out.mono ?_
                rintro e u1 ⟨rfl, rfl⟩
                go_wp2_with fail
                refine HN2.out.mono ?_
                rintro e u1 ⟨rfl, rfl⟩
                go_wp2_with fail
                refine HL1.out.mono ?_
                rintro e u1 ⟨rfl, rfl⟩
                go_wp2_with fail
                refine HL2.out.mono ?_
                rintro e u1 ⟨rfl, rfl⟩
                go_wp2_with fail
                refine HL3.out.mono ?_
                rintro e u1 ⟨rfl, rfl⟩
                go_wp2
                go_ret
                exact ⟨rfl, HB2.out⟩
theorem lexNames_all (v : Value) (s : ByteArray) (n : Int) (hv : v = .string s ∧ s.size ≤ 9223372036854775807) (w : World) (hT : TabAt w) :
    Calls Tryz.prog 5 #[v, .int .i64 n] w fun e w' => e = .returned (.bool true) ∧ Below w.heap.size w w' := by
  obtain ⟨rfl, hs⟩ := hv
  exact lexNames_any s n w hs hT
end Go.Proofs.YtjlgepahgmkamaaGreatDoor
/- A string that came in. -/
namespace Go.Proofs.YtjlgepahgmkamaaGreatDoor
set_option maxRecDepth 100000
set_option linter.unusedSimpArgs false
set_option linter.unusedVariables false
open Go.RowKit

section
open Go.ChangeShapes Go.WideShapes Go.ChangeAt Go.WideMaps Go.WideElems
theorem open_str {H : Type} {enc : TypeId × Value → H} {w : World} {r : Reach} {b0 base : Nat} {sp : Nat → Bool} {held : Bool} {v : Value} {d : DataW H} {p : List MemPlace}
    (hv : Value.okWide Tryz.prog w r b0 9 v) (h : DataW.Trod enc Tryz.prog w base sp held 9 v d p) : ∃ s : ByteArray, v = .string s ∧ s.size ≤ 9223372036854775807 := by
  obtain ⟨s, rfl⟩ := okWide_string Tryz.underlying9 hv
  obtain ⟨fuel, hf⟩ := h
  refine ⟨s, rfl, ?_⟩
  cases fuel with
  | zero => simp [DataW.trod] at hf
  | succ m =>
    unfold DataW.trod at hf
    rw [Tryz.underlying9] at hf
    simp [Value.cells] at hf
    have := hf.1
    unfold maxLen at this
    omega
end
end Go.Proofs.YtjlgepahgmkamaaGreatDoor
/- LexNames answers true for every text and number: Name tells just the texts of 1 to 30 bytes that the page calls names, and none of the words; Letter likewise at three bytes. Conditions: the table of math/bits holds what its initialiser lays (the card ties that to the program's text). -/
namespace Go.Proofs.YtjlgepahgmkamaaGreatDoor
set_option maxRecDepth 100000
open Go.ChangeShapes Go.WideShapes Go.ChangeAt Go.WideMaps Go.WideElems Go.RowKit

set_option maxRecDepth 100000 in
theorem lexNames_lifted (os : Os) (started : os.Started) (H : Type) (enc : TypeId × Value → H) :
    ReturnsInHanded {} Tryz.checked os 5 .any (fun w args => (Rows.lexNamesSpec.pre enc Tryz.prog Tryz.f5 [] false w args ∧ laidMetH Tryz.prog [("math/bits.deBruijn64tab", Rows.laid_math_bits_deBruijn64tab)] w) ∧ sizedMet enc Tryz.prog Tryz.f5 (OpenSpec.ofChange Rows.lexNamesSpec) false w args)
      (Rows.lexNamesSpec.post enc Tryz.prog Tryz.f5 false true false false) := by
  refine returnsInHanded_of_change_and (C := Tryz.checked) (X := fun w _ => laidMetH Tryz.prog [("math/bits.deBruijn64tab", Rows.laid_math_bits_deBruijn64tab)] w) (fun _ _ _ hh h => h.of_heap hh) own started (by kernel_rfl) Tryz.func5
    (ChangeSpec.witness_shaped (enc := enc) (C := Tryz.checked) (os := os) (X := fun w _ => laidMetH Tryz.prog [("math/bits.deBruijn64tab", Rows.laid_math_bits_deBruijn64tab)] w) false (World.doorLaid Tryz.prog 400 os)
      #[.string ⟨#[]⟩, .int .i64 0] 8 rfl (World.shaped_of_RefB (by kernel_rfl) (by kernel_rfl)) (by kernel_rfl) (by kernel_rfl) (by kernel_rfl) (door_met os _)) ?_
  intro W base args ds gs before hval0 hW _ _ hL _
  have hval : ∀ (j : Nat) t v, Tryz.f5.params[j]? = some t → args[j]? = some v → Value.okWide Tryz.prog W .any base t v := hval0
  have hW' := hW
  obtain ⟨p, q, hA0, hV, rfl, hfz, hnd⟩ := hW
  have hA : DataW.TrodAll enc Tryz.prog W 0 (fun _ => true) true Tryz.f5.params.toList args.toList ds p := hA0
  rw [Tryz.params5] at hA hval
  obtain ⟨v0, v1, d0, d1, p0, p1, rfl, rfl, rfl, h0, h1⟩ := trodAll_two hA
  obtain ⟨rfl, rfl⟩ := trodVars_none hV
  have k0 := h0
  have lt0 : ∀ x ∈ p0, x.block < W.heap.size := by obtain ⟨m, hm⟩ := k0; exact DataW.trod_lt m _ _ _ hm
  obtain ⟨z0, hz0⟩ := open_str (hval 0 9 v0 rfl rfl) h0
  have k1 := h1
  obtain ⟨i1, rfl, rfl, rfl, w1⟩ := open_int Tryz.underlying3 (hval 1 3 v1 rfl rfl) h1
  have b1 := bounds_i64 w1
  have hT := tab_of_laid hL
  clear hA0 hval0
  refine (lexNames_all v0 z0 i1 hz0 W hT).mono fun e W' ⟨he, hb⟩ => ?_
  subst he
  exact ⟨_, rfl, _, _, _, [], _, [], hW', trodAll_mk1 (shut_bool Tryz.underlying4 _), trodAll_mk2 (Below.trod laidOut (by kernel_rfl) (of_decide_eq_true (by kernel_rfl)) k0 hb lt0) (shut_int Tryz.underlying3 w1), rfl, hb.frame _, fun h => by cases h⟩

theorem lexNames_said : Rows.LexNamesSaid :=
  OpenClaim.holds_of_wide 5 Tryz.f5 rfl rfl rfl rfl rfl rfl rfl ⟨rfl, rfl, rfl, rfl, rfl⟩ rfl rfl rfl rfl rfl (by kernel_rfl) Tryz.func5 (by kernel_rfl)
    (of_decide_eq_true (by kernel_rfl)) (by unfold Func.isWrapper; first | (rw [if_pos (by decide +kernel)]; kernel_rfl) | (rw [if_neg (by decide +kernel)]; exact ⟨rfl, rfl⟩))
    (fun os started H enc _ => lexNames_lifted os started H enc)

theorem lexNames_card : Rows.LexNamesCardSaid :=
  Claim7.holds_tied_plain_at .later [] [.data] true Rows.lexNamesCard.stood.harness false
    lexNames_said (fun _ h => by cases h) (by kernel_rfl) (fun _ h => by cases h) lexNames_row_tie rfl ⟨rfl, rfl⟩ (by kernel_rfl) rfl
    (fun f fn hf hfn => by
      obtain rfl : f = 5 := Option.some.inj ((show Tryz.prog.funcNamed "periscope/periscopelaw11.LexNames" = some 5 by kernel_rfl).symm.trans hf) |>.symm
      obtain rfl : fn = Tryz.f5 := (Option.some.inj (Tryz.func5.symm.trans hfn)).symm
      exact ⟨by kernel_rfl, fun j t ht => by
        rw [Tryz.params5] at ht
        have hm : t ∈ [9, 3] := by simpa using Array.mem_of_getElem? ht
        have hall : ([9, 3].all fun u => !Tryz.prog.wantsStandIn u) = true := by kernel_rfl
        exact (show Tryz.prog.wantsStandIn t = false by simpa using List.all_eq_true.1 hall t hm)⟩)
    (by kernel_rfl)
#print axioms lexNames_card
end Go.Proofs.YtjlgepahgmkamaaGreatDoor
