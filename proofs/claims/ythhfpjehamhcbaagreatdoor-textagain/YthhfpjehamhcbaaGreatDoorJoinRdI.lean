/- Texts of this claim put together: TwG, RdI. -/
import Derived.Test.YthhfpjehamhcbaaGreatDoorJoinTwF
import Derived.Test.YthhfpjehamhcbaaGreatDoorJoinOpen
/- Of and Byte: an expression, a byte as a text. -/
namespace Go.Proofs.YthhfpjehamhcbaaGreatDoor
set_option maxRecDepth 100000
set_option linter.unusedSimpArgs false
set_option linter.unusedVariables false
open Go.RowKit Go.Shelf

theorem str_of {W : World} {base : Nat} {V : Value} {l : List Nat} (ho : OwnU W base V l.length (byteV l)) (hne : l ≠ []) : (convert 57 9 V).run Tryz.prog W = .ok (.string (strB l)) W := by
  rcases ho.2 with ⟨-, hn⟩ | ⟨g, cap, cur, t, rfl, -⟩
  · exact absurd (List.length_eq_zero_iff.1 hn) hne
  · refine run_convert_bytes_arg _ 57 5 Tryz.underlying57 Tryz.underlying5 g 0 _ cap (l.map fun x : Nat => (x : Int)) (by simp) (fun i hi => ?_) 9 Tryz.underlying9
    rw [Nat.zero_add]
    refine ho.cells i _ ?_
    simp [byteV, List.getD_eq_getElem?_getD, hi]

theorem kidT_ne (o i k : Nat) (t : List Nat) (h : t ≠ []) : kidT o i k t ≠ [] := by
  unfold kidT
  intro e
  have e2 := (List.append_eq_nil_iff.1 e).2
  split at e2
  · simp at e2
  · exact h e2
theorem kidsT_ne (o i : Nat) (l : List (Nat × List Nat)) (hl : l ≠ []) (h : ∀ x ∈ l, x.2 ≠ []) : kidsT o i l ≠ [] := by
  cases l with
  | nil => exact absurd rfl hl
  | cons x r =>
    intro e
    rw [kidsT] at e
    exact kidT_ne o i x.1 x.2 (h x (by simp)) (List.append_eq_nil_iff.1 e).1
theorem byteW_ne (c : Nat) : byteW c ≠ [] := by
  unfold byteW
  repeat' split
  all_goals simp
theorem runsW_ne (l : List (Nat × Nat)) (h : l ≠ []) : runsW l ≠ [] := by
  cases l with
  | nil => exact absurd rfl h
  | cons x r =>
    intro e
    simp [runsW, runW, byteW_ne] at e
theorem classW_ne (s : BitVec 256) (h : s ≠ 0#256) : classW s ≠ [] := by
  unfold classW
  split
  · exact runsW_ne _ (runs_nil h)
  · split
    · simp
    · split
      · simp
      · simp
theorem txt_ne (r : RE) : Wf r → r.txt ≠ [] := by
  refine RE.ind (P := fun r => Wf r → r.txt ≠ []) ?_ r
  intro o s ks ih hw
  have hs : Shp o s ks := hw.shp
  have hk : ∀ k ∈ ks, Wf k := hw.kid
  have hx : ∀ x ∈ kidL ks, x.2 ≠ [] := by
    intro x hx
    obtain ⟨k, hk', rfl⟩ := List.mem_map.1 hx
    exact ih k hk' (hk k hk')
  have hl : ks ≠ [] → kidsT o 0 (kidL ks) ≠ [] := fun h => kidsT_ne o 0 _ (by simpa [kidL] using h) hx
  rw [RE.txt_mk]
  have ho := hs.op
  obtain h | h | h | h | h | h | h | h : o = 0 ∨ o = 1 ∨ o = 2 ∨ o = 3 ∨ o = 4 ∨ o = 5 ∨ o = 6 ∨ o = 7 := by omega
  all_goals subst h
  · rw [opT_0]; simp
  · rw [opT_1]; simp
  · rw [opT_2]; exact classW_ne s (hs.cls rfl).2
  · rw [opT_3]; exact hl fun e => by have := (hs.cat rfl).1; simp [e] at this
  · rw [opT_4]; exact hl fun e => by have := (hs.or (.inl rfl)).1; simp [e] at this
  · rw [opT_5]; simp
  · rw [opT_6]; exact hl fun e => by have := (hs.or (.inr rfl)).1; simp [e] at this
  · rw [opT_7]; exact hl fun e => by obtain ⟨a, b, h, -⟩ := hs.minus rfl; simp [e] at h

set_option maxHeartbeats 1000000 in
theorem textOf_any (r : RE) (b : Nat) (w : World) (hw : Wf r) (h : ReAt w b r) (hl : r.txt.length ≤ 800000000000) (hT : TabAt w) :
    Calls Tryz.prog 14 #[PT b] w fun e w' => e = .returned (.string (strB r.txt)) ∧ Below w.heap.size w w' := by
  have ho0 : OwnU w w.heap.size (.slice none 0 0) 0 [] := ⟨rfl, .inl ⟨rfl, rfl⟩⟩
  have hk := appendRe_any r hw.kidsOk b (.slice none 0 0) 0 [] w w h (Below.refl _ _) ho0 (by omega) hT
  have HK := hide hk
  have HNE := hide (txt_ne r hw)
  have HO0 := hide ho0
  clear hk hw h hT ho0
  unfold PT at HK ⊢
  go_enter Tryz.func14, Tryz.ntmps14
  go_wp2_with fail
  refine HK.out.mono ?_
  rintro e w1 ⟨v, rfl, hA⟩
  have hb : Below w.heap.size w w1 := hA.below (Below.refl _ _) HO0.out
  have ho := hA.own
  rw [List.nil_append, Nat.zero_add] at ho
  have hcv := str_of ho HNE.out
  have HB := hide hb
  clear hb HK hA HO0
  obtain ⟨a, c, rfl⟩ := ho.slice
  clear ho HNE
  go_wp2
  go_ret
  exact ⟨rfl, HB.out⟩

end Go.Proofs.YthhfpjehamhcbaaGreatDoor
/- What is made of one; the document's example as it is read and written. -/
namespace Go.Proofs.YthhfpjehamhcbaaGreatDoor
set_option maxRecDepth 100000
set_option linter.unusedSimpArgs false
set_option linter.unusedVariables false
open Go.RowKit Go.Shelf St

theorem then_1 {x : RE} (h0 : x.op ≠ 0) (h1 : x.op ≠ 1) (h3 : x.op ≠ 3) : rThen [x] = x := by
  have hc : catL [x] = [x] := by simp [catL, catK, h1, h3]
  unfold rThen
  rw [hc, if_neg (by simp [h0]), if_neg (by simp)]
  rfl
theorem ord_1 (x : RE) : ordL [x] = [x] := rfl
theorem any_1 {x : RE} (h0 : x.op ≠ 0) (h4 : x.op ≠ 4) (h2 : x.op ≠ 2) : rAny [x] = x := by
  have hf : flatL 4 [x] = [x] := by simp [flatL, h4]
  have hk : orKeep [x] = [x] := by simp [orKeep, h0, h2]
  have hs : orSet [x] = 0#256 := by simp [orSet, h2]
  unfold rAny
  simp only [hf, hk, hs, if_true, List.append_nil]
  rw [if_neg (by simp), ord_1]
  rfl
theorem both_1 {x : RE} (h0 : x.op ≠ 0) (h6 : x.op ≠ 6) (h2 : x.op ≠ 2) : rBoth [x] = x := by
  have hf : flatL 6 [x] = [x] := by simp [flatL, h6]
  have hk : orKeep [x] = [x] := by simp [orKeep, h0, h2]
  have hs : andSet [x] = allB := by simp [andSet, h2]
  have hm : met [x] = false := by simp [met, h2]
  have hz : ¬ allB = 0#256 := by decide +kernel
  unfold rBoth
  simp only [hf, hk, hs, hm, hz, if_false, List.append_nil]
  rw [if_neg (by simp [h0])]
  simp only [Bool.false_eq_true, if_false, List.append_nil]
  rw [if_neg (by simp), ord_1]
  rfl
theorem one_mk {s : BitVec 256} (h : s ≠ 0#256) : rOne s = .mk 2 s [] := by unfold rOne; rw [if_neg h]
theorem any_one1 {s : BitVec 256} (h : s ≠ 0#256) : rAny [rOne s] = rOne s := by
  have ho : (rOne s).op = 2 := one_op _ h
  have he : (rOne s).set = s := by rw [one_mk h]; rfl
  have hf : flatL 4 [rOne s] = [rOne s] := by simp [flatL, ho]
  have hk : orKeep [rOne s] = [] := by simp [orKeep, ho]
  have hs : orSet [rOne s] = s := by simp [orSet, ho, he]
  unfold rAny
  simp only [hf, hk, hs, h, if_false, List.nil_append]
  rw [if_neg (by simp), ord_1]
  rfl
theorem both_one1 {s : BitVec 256} (h : s ≠ 0#256) : rBoth [rOne s] = rOne s := by
  have ho : (rOne s).op = 2 := one_op _ h
  have he : (rOne s).set = s := by rw [one_mk h]; rfl
  have hf : flatL 6 [rOne s] = [rOne s] := by simp [flatL, ho]
  have hk : orKeep [rOne s] = [] := by simp [orKeep, ho]
  have hs : andSet [rOne s] = s := by
    simp only [andSet, List.foldl_cons, List.foldl_nil, ho, if_true, he]
    have ha : allB = BitVec.allOnes 256 := by decide +kernel
    rw [ha]; exact BitVec.allOnes_and
  have hm : met [rOne s] = true := by simp [met, ho]
  unfold rBoth
  simp only [hf, hk, hs, hm, h, if_false, List.nil_append]
  rw [if_neg (by simp [ho])]
  simp only [if_true]
  rw [if_neg (by simp), ord_1]
  rfl
theorem then_one1 {s : BitVec 256} (h : s ≠ 0#256) : rThen [rOne s] = rOne s := by
  have ho : (rOne s).op = 2 := one_op _ h
  exact then_1 (by omega) (by omega) (by omega)

def sa : BitVec 256 := setOf [97]
def sb : BitVec 256 := setOf [98]
def sc : BitVec 256 := setOf [99]
def sab : BitVec 256 := sa ||| sb
theorem sa_ne : sa ≠ 0#256 := by decide +kernel
theorem sb_ne : sb ≠ 0#256 := by decide +kernel
theorem sc_ne : sc ≠ 0#256 := by decide +kernel
theorem sab_ne : sab ≠ 0#256 := by decide +kernel
theorem ex_or : rAny [rOne sa, rOne sb] = .mk 2 sab [] := by
  have h1 : (rOne sa).op = 2 := one_op _ sa_ne
  have h2 : (rOne sb).op = 2 := one_op _ sb_ne
  have e1 : (rOne sa).set = sa := by rw [one_mk sa_ne]; rfl
  have e2 : (rOne sb).set = sb := by rw [one_mk sb_ne]; rfl
  have hf : flatL 4 [rOne sa, rOne sb] = [rOne sa, rOne sb] := by simp [flatL, h1, h2]
  have hk : orKeep [rOne sa, rOne sb] = [] := by simp [orKeep, h1, h2]
  have hs : orSet [rOne sa, rOne sb] = sab := by
    simp only [orSet, List.foldl_cons, List.foldl_nil, h1, h2, e1, e2, if_true]
    decide +kernel
  unfold rAny
  simp only [hf, hk, hs, sab_ne, if_false, List.nil_append]
  rw [if_neg (by simp), ord_1, one_mk sab_ne]
  rfl
/-- The star of the example. -/
def exM : RE := .mk 5 0#256 [.mk 2 sab []]
def exA : RE := .mk 3 0#256 [exM, .mk 2 sc []]
def exB : RE := .mk 3 0#256 [.mk 2 sa [], .mk 2 sb [], .mk 2 sc []]
def exR : RE := .mk 7 0#256 [exA, exB]
theorem ex_star : rMany (.mk 2 sab []) = exM := by
  unfold rMany
  rw [if_neg (by simp [RE.op]), if_neg (by simp [RE.op])]
  rfl
theorem ex_A : rThen [exM, .mk 2 sc []] = exA := by
  have hc : catL [exM, .mk 2 sc []] = [exM, .mk 2 sc []] := by simp [catL, catK, exM, RE.op]
  unfold rThen
  rw [hc, if_neg (by simp [exM, RE.op]), if_neg (by simp)]
  rfl
theorem ex_B : rThen [.mk 2 sa [], .mk 2 sb [], .mk 2 sc []] = exB := by
  have hc : catL [.mk 2 sa [], .mk 2 sb [], .mk 2 sc []] = [.mk 2 sa [], .mk 2 sb [], .mk 2 sc []] := by simp [catL, catK, RE.op]
  unfold rThen
  rw [hc, if_neg (by simp [RE.op]), if_neg (by simp)]
  rfl
theorem ex_lex : ¬ lexN exA.key exB.key = 0 := by
  have e1 : ∃ x, exA.key = 4 :: 6 :: x := ⟨_, by simp [exA, exM, RE.key_mk, keysL]; rfl⟩
  have e2 : ∃ x, exB.key = 4 :: 3 :: x := ⟨_, by simp [exB, RE.key_mk, keysL]; rfl⟩
  obtain ⟨x, e1⟩ := e1
  obtain ⟨y, e2⟩ := e2
  rw [e1, e2]
  simp [lexN]
theorem ex_R : rBut exA exB = exR := by
  unfold rBut
  rw [if_neg (by simp [exA, exB, RE.op]), if_neg (by simp [exA, exB, RE.op]), if_neg ex_lex]
  rfl
theorem ex_size : ¬ 1000 < exM.size := by simp [exM, RE.size_mk, sat]
theorem ex_sizeR : ¬ 1000 < exR.size := by simp [exR, exA, exB, exM, RE.size_mk, sat]
theorem ex_1 : rAny [rBoth [rThen [rOne (setOf [97])]], rBoth [rThen [rOne (setOf [98])]]] = .mk 2 sab [] := by
  show rAny [rBoth [rThen [rOne sa]], rBoth [rThen [rOne sb]]] = _
  rw [then_one1 sa_ne, both_one1 sa_ne, then_one1 sb_ne, both_one1 sb_ne, ex_or]
theorem ex_2 : rThen [rOne (setOf [97]), rOne (setOf [98]), rOne (setOf [99])] = exB := by
  show rThen [rOne sa, rOne sb, rOne sc] = _
  rw [one_mk sa_ne, one_mk sb_ne, one_mk sc_ne, ex_B]
theorem ex_3 : rOne (setOf [99]) = .mk 2 sc [] := one_mk sc_ne
theorem ex_read : readQ exL = (exR, ⟨[], 0, 8, 0, 0⟩) := by
  have h1 := ex_P (by rw [ex_1, ex_star]; exact ex_size)
  rw [ex_1, ex_star, ex_2, ex_3, ex_A, both_1 (x := exA) (by simp [exA, RE.op]) (by simp [exA, RE.op]) (by simp [exA, RE.op]), both_1 (x := exB) (by simp [exB, RE.op]) (by simp [exB, RE.op]) (by simp [exB, RE.op]), ex_R, any_1 (x := exR) (by simp [exR, RE.op]) (by simp [exR, RE.op]) (by simp [exR, RE.op])] at h1
  unfold readQ
  show (P 11 228 .or (St.init exL)).getD _ = _
  rw [h1]; rfl
theorem ex_err : (rdEnd exL).err = 0 := by
  unfold rdEnd
  rw [ex_read]
  show (if _ ∧ 1000 < exR.size then _ else _ : St).err = 0
  rw [if_neg (fun h => ex_sizeR h.2)]
  rfl
theorem w_sab : classW sab = [91, 97, 45, 98, 93] := by decide +kernel
theorem w_sa : classW sa = [97] := by decide +kernel
theorem w_sb : classW sb = [98] := by decide +kernel
theorem w_sc : classW sc = [99] := by decide +kernel
theorem ex_txt : exR.txt = [91, 97, 45, 98, 93, 42, 99, 45, 97, 98, 99] := by
  simp only [exR, exA, exB, exM, RE.txt_mk, kidL, List.map_cons, List.map_nil, RE.op, opT_2, opT_3, opT_5, opT_7, w_sa, w_sb, w_sc, w_sab]
  decide +kernel
theorem readQ_wf {l : List Nat} (h : l.length ≤ 65536) : Wf (readQ l).1 := by
  have hq := readQ_some h
  obtain ⟨r, s1, hrs⟩ : ∃ r s1, readQ l = (r, s1) := ⟨_, _, rfl⟩
  rw [hrs] at hq ⊢
  exact (P_inv _ _ .or _ _ r s1 hq (init_ok h) ⟨rfl, by show 0 ≤ _; omega⟩).wf
theorem ex_wf : Wf exR := by
  have h := readQ_wf (l := exL) (by decide)
  rw [ex_read] at h
  exact h
def exS : ByteArray := ⟨#[40, 97, 124, 98, 41, 42, 99, 45, 97, 98, 99]⟩
def exT : ByteArray := ⟨#[91, 97, 45, 98, 93, 42, 99, 45, 97, 98, 99]⟩
theorem exS_b : bytesN exS = exL := by decide +kernel
theorem exT_b : strB exR.txt = exT := by rw [ex_txt]; decide +kernel
end Go.Proofs.YthhfpjehamhcbaaGreatDoor
