/- Texts of this claim put together: QuA, TmB. -/
import Derived.Test.YtblpekljiilkjaaGreatDoorJoinLwA
/- Texts quoted; an expression between two slashes. -/
namespace Go.Proofs.YtblpekljiilkjaaGreatDoor
set_option maxRecDepth 100000
set_option linter.unusedSimpArgs false
set_option linter.unusedVariables false
open Go.RowKit Go.Shelf

/-- The bytes of the first k of a text, as they are written. -/
def qk (s : ByteArray) (k : Nat) : List Nat := ((bytesN s).take k).flatMap byteW
theorem qk_zero (s : ByteArray) : qk s 0 = [] := rfl
theorem qk_succ (s : ByteArray) (k c : Nat) (h : (bytesN s)[k]? = some c) : qk s (k + 1) = qk s k ++ byteW c := by
  unfold qk
  obtain ⟨hl, rfl⟩ := List.getElem?_eq_some_iff.1 h
  rw [List.take_succ_eq_append_getElem hl, List.flatMap_append]; simp
theorem qk_all (s : ByteArray) : qk s s.size = (bytesN s).flatMap byteW := by unfold qk; rw [← bN_len, List.take_length]
theorem qk_len (s : ByteArray) (k : Nat) : (qk s k).length ≤ 4 * k := by
  unfold qk
  have key : ∀ l : List Nat, (l.flatMap byteW).length ≤ 4 * l.length := fun l => by
    induction l with
    | nil => simp
    | cons x l ih => rw [List.flatMap_cons, List.length_append, List.length_cons]; have := (byteW_len x).2; omega
  have := key ((bytesN s).take k)
  rw [List.length_take] at this
  omega
theorem qk_lt (s : ByteArray) (k : Nat) : ∀ x ∈ qk s k, x < 256 := by
  intro x hx
  obtain ⟨c, hc, hx⟩ := List.mem_flatMap.1 hx
  exact byteS_lt c (bN_lt s c (List.mem_of_mem_take hc)) x hx
theorem quoteT_qk (s : ByteArray) : quoteT s = [34] ++ qk s s.size ++ [34] := by rw [qk_all]; rfl
theorem quoteT_len (s : ByteArray) : (quoteT s).length ≤ 4 * s.size + 2 := by rw [quoteT_qk]; have := qk_len s s.size; simp; omega
theorem quoteT_lt (s : ByteArray) : ∀ x ∈ quoteT s, x < 256 := by
  intro x hx
  rw [quoteT_qk] at hx
  simp at hx
  rcases hx with rfl | hx | rfl
  · decide
  · exact qk_lt s _ x hx
  · decide

set_option maxHeartbeats 4000000 in
/-- The law's own quote. -/
theorem lquote_any (s : ByteArray) (hs : s.size ≤ 1000000) (w : World) :
    Calls Tryz.prog 27 #[.string s] w fun e w' => e = .returned (.string (strB (quoteT s))) ∧ Below w.heap.size w w' := by
  obtain ⟨B, hB⟩ : ∃ B, B = w.heap.size := ⟨_, rfl⟩
  have HB := hide hB
  rw [← hB]
  clear hB
  go_enter Tryz.func27, Tryz.ntmps27
  go_wp2
  go_loopw [3, 4] (fun q c wr => ∃ (k : Nat) (u : ByteArray), k ≤ s.size ∧ c = .int .i64 k ∧ q = .string u ∧ Hid (u = strB ([34] ++ qk s k)) ∧ Hid (Below B w wr)) (fun _ c _ => s.size - (intOf c).toNat)
  case atStart => exact ⟨0, ⟨#[34]⟩, by omega, rfl, rfl, (by show _ = _; rw [qk_zero]; decide +kernel), (by show Below B w w; rw [HB.out]; exact Below.refl _ _)⟩
  case round =>
    obtain ⟨k, u, hk, rfl, rfl, HU, HW⟩ := hrel
    have hul : u.size ≤ 4 * k + 1 := by rw [HU.out, strS_size]; have := qk_len s k; simp; omega
    by_cases hlt : k < s.size
    · have hkd : decide (k < s.size) = true := by simp [hlt]
      have hks : k < s.size := hlt
      obtain ⟨c, hc⟩ : ∃ c : Nat, c = (s[k]'hks).toNat := ⟨_, rfl⟩
      have hidx := fun w => run_index_string (P := Tryz.prog) w 9 s .i64 (k : Int) Tryz.underlying9
      have hkk : (0 : Int) ≤ k ∧ (k : Int) < s.size := ⟨by omega, by omega⟩
      simp only [dif_pos hkk, Int.toNat_natCast] at hidx
      rw [← hc] at hidx
      have hc256 : c < 256 := by rw [hc]; exact UInt8.toNat_lt _
      have HQ := hide (qk_succ s k c (by rw [bN_get s k hks, hc]))
      clear hc
      go_wp2_with fail
      refine (textByte_any c hc256 wr).mono ?_
      rintro e w2 ⟨rfl, hb2⟩
      have HW2 := hide (HW.out.trans (hb2.mono (by have h1 := HW.out.size; have h2 := HB.out; omega)))
      have hbl : (strB (byteW c)).size ≤ 4 := by rw [strS_size]; exact (byteW_len c).2
      clear hb2 HW
      go_wp2
      all_goals try (exfalso; simp only [ByteArray.size_append] at *; omega)
      refine ⟨⟨k + 1, u ++ strB (byteW c), by omega, by go_num, rfl, ?_, HW2⟩, by simp [intOf]; omega⟩
      show _ = _
      rw [HU.out, HQ.out, ← List.append_assoc, strS_append ([34] ++ qk s k)]
    · obtain rfl : k = s.size := by omega
      have z34 : (⟨#[34]⟩ : ByteArray).size = 1 := rfl
      go_wp2
      all_goals try (exfalso; simp only [ByteArray.size_append] at *; omega)
      go_ret
      refine ⟨?_, HW.out⟩
      congr 2
      rw [HU.out, quoteT_qk, strS_append ([34] ++ qk s s.size)]
      congr 1

set_option maxHeartbeats 4000000 in
theorem appendQuote_any (s : ByteArray) (v : Value) (n base : Nat) (xs : List Value) (w : World) (hO : OwnU w base v n xs) (hb : base ≤ w.heap.size) (hl : n + (quoteT s).length ≤ 800000000000) (hs : s.size ≤ 1000000) :
    Calls Tryz.prog 47 #[v, .string s] w fun e w' => ∃ V, e = .returned V ∧ AV w base v n xs (quoteT s) V w' := by
  obtain ⟨a0, cp0, rfl⟩ := hO.slice
  have hql : n + 2 + (qk s s.size).length ≤ 800000000000 := by rw [quoteT_qk] at hl; simp at hl; omega
  have hlk : ∀ k, k ≤ s.size → n + 2 + (qk s k).length ≤ 800000000000 := fun k hk => by
    have : (qk s k).length ≤ (qk s s.size).length := by
      unfold qk
      rw [← bN_len, List.take_length]
      conv => rhs; rw [← List.take_append_drop k (bytesN s), List.flatMap_append, List.length_append]
      omega
    omega
  have HLK := hide hlk
  obtain ⟨V1, W1, hr1, hA1⟩ := (AV.start hO hb).app1 34 (by simp; omega)
  obtain ⟨a1, c1, hv1⟩ := hA1.slice
  obtain ⟨M1, hM1⟩ : ∃ M1, M1 = n + ([] ++ [34] : List Nat).length := ⟨_, rfl⟩
  rw [← hM1] at hv1
  subst hv1
  have HA1 := hide hA1
  clear hA1 hlk hM1 hO hb
  go_enter Tryz.func47, Tryz.ntmps47
  go_wp2_with (refine wpList_append_run rfl _ _ _ rfl _ _ _ rfl rfl hr1 ?_)
  clear hr1
  go_loopw [0, 11] (fun q c wr => ∃ (k : Nat), k ≤ s.size ∧ c = .int .i64 k ∧ Hid (AV w base (.slice a0 n cp0) n xs ([34] ++ qk s k) q wr)) (fun _ c _ => s.size - (intOf c).toNat)
  case atStart => exact ⟨0, by omega, rfl, HA1.out⟩
  case round =>
    clear HA1
    obtain ⟨k, hk, rfl, HA⟩ := hrel
    obtain ⟨aq, cq, hq⟩ := HA.out.slice
    obtain ⟨M, hM⟩ : ∃ M, M = n + ([34] ++ qk s k).length := ⟨_, rfl⟩
    rw [← hM] at hq
    subst hq
    have HM := hide hM
    clear hM
    by_cases hlt : k < s.size
    · have hkd : decide (k < s.size) = true := by simp [hlt]
      have hks : k < s.size := hlt
      obtain ⟨c, hc⟩ : ∃ c : Nat, c = (s[k]'hks).toNat := ⟨_, rfl⟩
      have hidx := fun w => run_index_string (P := Tryz.prog) w 9 s .i64 (k : Int) Tryz.underlying9
      have hkk : (0 : Int) ≤ k ∧ (k : Int) < s.size := ⟨by omega, by omega⟩
      simp only [dif_pos hkk, Int.toNat_natCast] at hidx
      rw [← hc] at hidx
      have hc256 : c < 256 := by rw [hc]; exact UInt8.toNat_lt _
      have HQ := hide (qk_succ s k c (by rw [bN_get s k hks, hc]))
      clear hc
      go_wp2_with fail
      refine (textByte_any c hc256 wr).mono ?_
      rintro e w2 ⟨rfl, hb2⟩
      have HA2 := hide (HA.out.step hb2)
      have hb4 := HLK.out (k + 1) hlt
      rw [HQ.out, List.length_append] at hb4
      obtain ⟨V3, W3, hr3, hA3⟩ := HA2.out.appT (strB (byteW c)) (byteW c) (strS_bytes (byteS_lt c hc256)) (by simp; omega)
      obtain ⟨a3, c3, hv3⟩ := hA3.slice
      obtain ⟨M3, hM3⟩ : ∃ M3, M3 = n + ([34] ++ qk s k ++ byteW c).length := ⟨_, rfl⟩
      rw [← hM3] at hv3
      subst hv3
      have HA3 := hide hA3
      clear hb2 hA3 hM3 hb4
      go_wp2_with (refine wpList_appendS_run rfl _ _ _ _ rfl _ _ _ rfl rfl hr3 ?_)
      refine ⟨⟨k + 1, by omega, by go_num, ?_⟩, by simp [intOf]; omega⟩
      show AV _ _ _ _ _ _ _ _
      rw [HQ.out, ← List.append_assoc]
      exact HA3.out
    · obtain rfl : k = s.size := by omega
      obtain ⟨V3, W3, hr3, hA3⟩ := HA.out.app1 34 (by have := HLK.out s.size (Nat.le_refl _); simp; omega)
      obtain ⟨a3, c3, hv3⟩ := hA3.slice
      obtain ⟨M3, hM3⟩ : ∃ M3, M3 = n + ([34] ++ qk s s.size ++ [34]).length := ⟨_, rfl⟩
      rw [← hM3] at hv3
      subst hv3
      have HA3 := hide hA3
      clear hA3 hM3
      go_wp2_with (refine wpList_append_run rfl _ _ _ rfl _ _ _ rfl rfl hr3 ?_)
      go_ret
      exact ⟨_, rfl, by rw [quoteT_qk]; exact HA3.out⟩

set_option maxHeartbeats 1000000 in
theorem quote_any (s : ByteArray) (hs : s.size ≤ 1000000) (w : World) :
    Calls Tryz.prog 26 #[.string s] w fun e w' => e = .returned (.string (strB (quoteT s))) ∧ Below w.heap.size w w' := by
  have ho0 : OwnU w w.heap.size (.slice none 0 0) 0 [] := ⟨rfl, .inl ⟨rfl, rfl⟩⟩
  have hk := appendQuote_any s (.slice none 0 0) 0 w.heap.size [] w ho0 (Nat.le_refl _) (by have := quoteT_len s; omega) hs
  have HK := hide hk
  have HNE : Hid (quoteT s ≠ []) := by show _ ≠ _; rw [quoteT_qk]; simp
  have HO0 := hide ho0
  clear hk ho0
  go_enter Tryz.func26, Tryz.ntmps26
  go_wp2_with fail
  refine HK.out.mono ?_
  rintro e w1 ⟨v, rfl, hA⟩
  have hb : Below w.heap.size w w1 := hA.below (Below.refl _ _) HO0.out
  have ho := hA.own
  rw [List.nil_append, Nat.zero_add] at ho
  have hcv := str_of ho HNE.out
  have HB := hide hb
  clear hb HK hA HO0
  obtain ⟨a, d, rfl⟩ := ho.slice
  clear ho HNE
  go_wp2
  go_ret
  exact ⟨rfl, HB.out⟩

/-- Of, of no expression. -/
theorem opOf_nil (w : World) : Calls Tryz.prog 97 #[.pointer none] w fun e w' => e = .returned (.int .i64 0) ∧ w' = w := by
  go_enter Tryz.func97, Tryz.ntmps97
  go_wp2
  go_ret
  exact ⟨rfl, rfl⟩
set_option maxHeartbeats 1000000 in
theorem appendRe_nil (w : World) : Calls Tryz.prog 69 #[.slice none 0 0, .pointer none] w fun e w' => ∃ V, e = .returned V ∧ AV w w.heap.size (.slice none 0 0) 0 [] [91, 93] V w' := by
  have ho0 : OwnU w w.heap.size (.slice none 0 0) 0 [] := ⟨rfl, .inl ⟨rfl, rfl⟩⟩
  obtain ⟨V, W, hr, hA⟩ := (AV.start ho0 (Nat.le_refl _)).appT ⟨#[91, 93]⟩ [91, 93] (by decide +kernel) (by simp)
  obtain ⟨a1, c1, rfl⟩ := hA.slice
  have HA := hide hA
  clear hA ho0
  go_enter Tryz.func69, Tryz.ntmps69
  go_wp2_with fail
  refine (opOf_nil w).mono ?_
  rintro e w1 ⟨rfl, rfl⟩
  go_wp2_with (refine wpList_appendS_run rfl _ _ _ _ rfl _ _ _ rfl rfl hr ?_)
  go_ret
  exact ⟨_, rfl, HA.out⟩
set_option maxHeartbeats 1000000 in
theorem textOf_nil (w : World) : Calls Tryz.prog 44 #[.pointer none] w fun e w' => e = .returned (.string (strB [91, 93])) ∧ Below w.heap.size w w' := by
  have ho0 : OwnU w w.heap.size (.slice none 0 0) 0 [] := ⟨rfl, .inl ⟨rfl, rfl⟩⟩
  have HO0 := hide ho0
  clear ho0
  go_enter Tryz.func44, Tryz.ntmps44
  go_wp2_with fail
  refine (appendRe_nil w).mono ?_
  rintro e w1 ⟨v, rfl, hA⟩
  have hb : Below w.heap.size w w1 := hA.below (Below.refl _ _) HO0.out
  have ho := hA.own
  rw [List.nil_append, Nat.zero_add] at ho
  have hcv := str_of ho (by simp)
  have ho2 : OwnU w1 w.heap.size v 2 (byteV [91, 93]) := ho
  have HB := hide hb
  clear hb hA HO0 ho
  obtain ⟨a, c, rfl⟩ := ho2.slice
  clear ho2
  go_wp2
  go_ret
  exact ⟨rfl, HB.out⟩
/-- Of, of an expression or none. -/
theorem textOf_opt (r : Option RE) (v : Value) (w : World) (hr : RpAt w v r) (hw : ∀ q, r = some q → Wf q ∧ q.txt.length ≤ 1000000) (hT : TabAt w) :
    Calls Tryz.prog 44 #[v] w fun e w' => e = .returned (.string (strB (reT r))) ∧ Below w.heap.size w w' := by
  cases r with
  | none =>
    obtain rfl : v = .pointer none := hr
    exact textOf_nil w
  | some r =>
    obtain ⟨p, rfl, h⟩ := hr
    obtain ⟨h1, h2⟩ := hw r rfl
    exact textOf_any r p w h1 h (by omega) hT
theorem reT_lt (r : Option RE) : ∀ x ∈ reT r, x < 256 := by
  cases r with
  | none => simp [reT]
  | some r => exact txtS_lt r
theorem argT_lt (r : Option RE) : ∀ x ∈ argT r, x < 256 := by
  intro x hx
  simp [argT] at hx
  rcases hx with rfl | hx | rfl
  · decide
  · exact reT_lt r x hx
  · decide
set_option maxHeartbeats 2000000 in
/-- An expression between two slashes, behind what there was. -/
theorem lensRe_any (r : Option RE) (p : Value) (v : Value) (n : Nat) (xs : List Value) (w0 w : World) (hP : (∃ b, p = PT b) ∨ p = .pointer none) (hR : RpAt w0 p r) (hw : ∀ q, r = some q → Wf q ∧ q.txt.length ≤ 1000000) (hW : Below w0.heap.size w0 w) (hO : OwnU w w0.heap.size v n xs) (hl : n + (argT r).length ≤ 800000000000) (hT : TabAt w0) :
    Calls Tryz.prog 65 #[v, p] w fun e w' => ∃ V, e = .returned V ∧ AV w w0.heap.size v n xs (argT r) V w' := by
  obtain ⟨a0, cp0, rfl⟩ := hO.slice
  have hl2 : n + 2 + (reT r).length ≤ 800000000000 := by unfold argT at hl; simp at hl; omega
  obtain ⟨V1, W1, hr1, hA1⟩ := (AV.start hO hW.size).app1 47 (by simp; omega)
  obtain ⟨a1, c1, hv1⟩ := hA1.slice
  obtain ⟨M1, hM1⟩ : ∃ M1, M1 = n + ([] ++ [47] : List Nat).length := ⟨_, rfl⟩
  rw [← hM1] at hv1
  subst hv1
  have hB1 : Below w0.heap.size w0 W1 := hA1.below hW hO
  have HK := hide (textOf_opt r p W1 (hR.keep hB1) hw (hT.onS hB1))
  have HA1 := hide hA1
  have hPP := hP
  clear hA1 hM1 hO hB1 hR hW hT hw hP
  go_enter Tryz.func65, Tryz.ntmps65
  have HPP := hide hPP
  clear hPP
  obtain ⟨b, rfl⟩ | rfl := HPP.out
  all_goals
    try unfold PT at HK ⊢
    go_wp2_with (refine wpList_append_run rfl _ _ _ rfl _ _ _ rfl rfl hr1 ?_)
    refine HK.out.mono ?_
    rintro e w2 ⟨rfl, hb2⟩
    have HA2 := hide (HA1.out.step hb2)
    obtain ⟨V3, W3, hr3, hA3⟩ := HA2.out.appT (strB (reT r)) (reT r) (strS_bytes (reT_lt r)) (by simp; omega)
    obtain ⟨a3, c3, hv3⟩ := hA3.slice
    obtain ⟨M3, hM3⟩ : ∃ M3, M3 = n + ([] ++ [47] ++ reT r : List Nat).length := ⟨_, rfl⟩
    rw [← hM3] at hv3
    subst hv3
    have HA3 := hide hA3
    clear hb2 hA3 hM3 hr1
    obtain ⟨V4, W4, hr4, hA4⟩ := HA3.out.app1 47 (by simp; omega)
    obtain ⟨a4, c4, hv4⟩ := hA4.slice
    obtain ⟨M4, hM4⟩ : ∃ M4, M4 = n + ([] ++ [47] ++ reT r ++ [47] : List Nat).length := ⟨_, rfl⟩
    rw [← hM4] at hv4
    subst hv4
    have HA4 := hide hA4
    clear hA4 hM4
    go_wp2_with (first | refine wpList_appendS_run rfl _ _ _ _ rfl _ _ _ rfl rfl hr3 ?_ | refine wpList_append_run rfl _ _ _ rfl _ _ _ rfl rfl hr4 ?_)
    go_ret
    exact ⟨_, rfl, HA4.out⟩
end Go.Proofs.YtblpekljiilkjaaGreatDoor
/- hold, need, kids: how closely what is written of a term holds. -/
namespace Go.Proofs.YtblpekljiilkjaaGreatDoor
set_option maxRecDepth 100000
set_option linter.unusedSimpArgs false
set_option linter.unusedVariables false
open Go.RowKit Go.Shelf

theorem op_cases {o : Nat} (h : 2 ≤ o ∧ o ≤ 17) : o = 2 ∨ o = 3 ∨ o = 4 ∨ o = 5 ∨ o = 6 ∨ o = 7 ∨ o = 8 ∨ o = 9 ∨ o = 10 ∨ o = 11 ∨ o = 12 ∨ o = 13 ∨ o = 14 ∨ o = 15 ∨ o = 16 ∨ o = 17 := by omega
set_option maxHeartbeats 4000000 in
theorem hold_tm (b o : Nat) (ho : 2 ≤ o ∧ o ≤ 17) (w : World) (hc : w.cell? ⟨b, 0, none⟩ = some (.int .i64 o)) :
    Calls Tryz.prog 50 #[PT b] w fun e w' => e = .returned (.int .i64 (levT o)) ∧ Below w.heap.size w w' := by
  have hb := Below.refl w.heap.size w
  have HB := hide hb
  clear hb
  unfold PT
  go_enter Tryz.func50, Tryz.ntmps50
  rcases op_cases ho with h | h | h | h | h | h | h | h | h | h | h | h | h | h | h | h
  all_goals
    subst h
    clear ho
    go_wp2
    go_ret
    exact ⟨rfl, HB.out⟩
set_option maxHeartbeats 4000000 in
theorem level_tm (b o : Nat) (ho : 2 ≤ o ∧ o ≤ 17) (w : World) (hc : w.cell? ⟨b, 0, none⟩ = some (.int .i64 o)) :
    Calls Tryz.prog 70 #[PT b] w fun e w' => e = .returned (.int .i64 (levT o)) ∧ Below w.heap.size w w' := by
  have hb := Below.refl w.heap.size w
  have HB := hide hb
  clear hb
  unfold PT
  go_enter Tryz.func70, Tryz.ntmps70
  rcases op_cases ho with h | h | h | h | h | h | h | h | h | h | h | h | h | h | h | h
  all_goals
    subst h
    clear ho
    go_wp2
    go_ret
    exact ⟨rfl, HB.out⟩
set_option maxHeartbeats 4000000 in
theorem kids_op (o : Nat) (ho : 2 ≤ o ∧ o ≤ 17) (w : World) :
    Calls Tryz.prog 64 #[.int .i64 o] w fun e w' => e = .returned (.int .i64 (kidsO o)) ∧ Below w.heap.size w w' := by
  have hb := Below.refl w.heap.size w
  have HB := hide hb
  clear hb
  go_enter Tryz.func64, Tryz.ntmps64
  rcases op_cases ho with h | h | h | h | h | h | h | h | h | h | h | h | h | h | h | h
  all_goals
    subst h
    clear ho
    go_wp2
    go_ret
    exact ⟨rfl, HB.out⟩
set_option maxHeartbeats 4000000 in
theorem need_tm (b o i : Nat) (ho : 2 ≤ o ∧ o ≤ 17) (hi : i ≤ 1000) (w : World) (hc : w.cell? ⟨b, 0, none⟩ = some (.int .i64 o)) :
    Calls Tryz.prog 51 #[PT b, .int .i64 i] w fun e w' => e = .returned (.int .i64 (mustT o i)) ∧ Below w.heap.size w w' := by
  by_cases h3 : o = 7 ∨ o = 8 ∨ o = 11
  · have HK := hide (hold_tm b o ho w hc)
    have hmu : mustT o i = levT o + min i 1 := by unfold mustT; rw [if_pos h3]
    have hl4 : levT o ≤ 4 := by unfold levT; repeat' split
                                all_goals omega
    obtain ⟨lv, hlv⟩ : ∃ lv, lv = levT o := ⟨_, rfl⟩
    rw [← hlv] at HK hl4 hmu
    rw [hmu]
    have hmi : min (i : Int) 1 = ((min i 1 : Nat) : Int) := by omega
    obtain ⟨mi, hmi2⟩ : ∃ mi, mi = min i 1 := ⟨_, rfl⟩
    rw [← hmi2] at hmi ⊢
    have hm1 : mi ≤ 1 := by omega
    clear hmu hlv hmi2 ho
    unfold PT at HK ⊢
    go_enter Tryz.func51, Tryz.ntmps51
    rcases h3 with h | h | h
    all_goals
      subst h
      go_wp2_with fail
      refine HK.out.mono ?_
      rintro e w1 ⟨rfl, hb1⟩
      have HB1 := hide hb1
      clear hb1 HK hc
      go_wp2
      try rw [hmi]
      go_ret
      refine ⟨?_, HB1.out⟩
      congr 2
  · have hb := Below.refl w.heap.size w
    have HB := hide hb
    clear hb
    unfold PT
    go_enter Tryz.func51, Tryz.ntmps51
    rcases op_cases ho with h | h | h | h | h | h | h | h | h | h | h | h | h | h | h | h
    all_goals
      subst h
      first
        | (exfalso; revert h3; decide)
        | (clear ho h3
           go_wp2
           go_ret
           exact ⟨rfl, HB.out⟩)
end Go.Proofs.YtblpekljiilkjaaGreatDoor
