/- Texts of this claim put together: QuQ. -/
import Derived.Test.YtjlgepahgmkamaaGreatDoorJoinStrL
/- Quote: a text, quoted. -/
namespace Go.Proofs.YtjlgepahgmkamaaGreatDoor
set_option maxRecDepth 100000
set_option linter.unusedSimpArgs false
set_option linter.unusedVariables false
open Go.RowKit Go.Shelf

/-- A text quoted. -/
def quoteT (s : ByteArray) : List Nat := [34] ++ (bytesN s).flatMap byteW ++ [34]
/-- The bytes of the first k of a text, as they are written. -/
def qk (s : ByteArray) (k : Nat) : List Nat := ((bytesN s).take k).flatMap byteW
theorem qk_succ (s : ByteArray) (k c : Nat) (h : (bytesN s)[k]? = some c) : qk s (k + 1) = qk s k ++ byteW c := by
  unfold qk
  obtain ⟨hl, rfl⟩ := List.getElem?_eq_some_iff.1 h
  rw [List.take_succ_eq_append_getElem hl, List.flatMap_append]; simp
theorem qk_all (s : ByteArray) : qk s s.size = (bytesN s).flatMap byteW := by unfold qk; rw [← bN_len, List.take_length]
theorem qk_len (s : ByteArray) (k : Nat) : (qk s k).length ≤ 4 * k := by
  unfold qk
  have key : ∀ l : List Nat, (l.flatMap byteW).length ≤ 4 * l.length := fun l => by
    induction l with
    | nil => simp
    | cons x l ih => rw [List.flatMap_cons, List.length_append, List.length_cons]; have := (byteW_len x).2; omega
  have := key ((bytesN s).take k)
  rw [List.length_take] at this
  omega
theorem qk_lt (s : ByteArray) (k : Nat) : ∀ x ∈ qk s k, x < 256 := by
  intro x hx
  obtain ⟨c, hc, hx⟩ := List.mem_flatMap.1 hx
  exact byteS_lt c (bN_lt s c (List.mem_of_mem_take hc)) x hx
theorem quoteT_qk (s : ByteArray) : quoteT s = [34] ++ qk s s.size ++ [34] := by rw [qk_all]; rfl
theorem quoteT_len (s : ByteArray) : (quoteT s).length ≤ 4 * s.size + 2 := by rw [quoteT_qk]; have := qk_len s s.size; simp; omega
theorem quoteT_lt (s : ByteArray) : ∀ x ∈ quoteT s, x < 256 := by
  intro x hx
  rw [quoteT_qk] at hx
  simp at hx
  rcases hx with rfl | hx | rfl
  · decide
  · exact qk_lt s _ x hx
  · decide

set_option maxHeartbeats 4000000 in
theorem appendQuote_any (s : ByteArray) (v : Value) (n base : Nat) (xs : List Value) (w : World) (hO : OwnU w base v n xs) (hb : base ≤ w.heap.size) (hl : n + (quoteT s).length ≤ 800000000000) (hs : s.size ≤ 1000000) :
    Calls Tryz.prog 25 #[v, .string s] w fun e w' => ∃ V, e = .returned V ∧ AV w base v n xs (quoteT s) V w' := by
  obtain ⟨a0, cp0, rfl⟩ := hO.slice
  have hql : n + 2 + (qk s s.size).length ≤ 800000000000 := by rw [quoteT_qk] at hl; simp at hl; omega
  have hlk : ∀ k, k ≤ s.size → n + 2 + (qk s k).length ≤ 800000000000 := fun k hk => by
    have : (qk s k).length ≤ (qk s s.size).length := by
      unfold qk
      rw [← bN_len, List.take_length]
      conv => rhs; rw [← List.take_append_drop k (bytesN s), List.flatMap_append, List.length_append]
      omega
    omega
  have HLK := hide hlk
  obtain ⟨V1, W1, hr1, hA1⟩ := (AV.start hO hb).app1 34 (by simp; omega)
  obtain ⟨a1, c1, hv1⟩ := hA1.slice
  obtain ⟨M1, hM1⟩ : ∃ M1, M1 = n + ([] ++ [34] : List Nat).length := ⟨_, rfl⟩
  rw [← hM1] at hv1
  subst hv1
  have HA1 := hide hA1
  clear hA1 hlk hM1 hO hb
  go_enter Tryz.func25, Tryz.ntmps25
  go_wp2_with (refine wpList_append_run rfl _ _ _ rfl _ _ _ rfl rfl hr1 ?_)
  clear hr1
  go_loopw [0, 11] (fun q c wr => ∃ (k : Nat), k ≤ s.size ∧ c = .int .i64 k ∧ Hid (AV w base (.slice a0 n cp0) n xs ([34] ++ qk s k) q wr)) (fun _ c _ => s.size - (intOf c).toNat)
  case atStart => exact ⟨0, by omega, rfl, HA1.out⟩
  case round =>
    clear HA1
    obtain ⟨k, hk, rfl, HA⟩ := hrel
    obtain ⟨aq, cq, hq⟩ := HA.out.slice
    obtain ⟨M, hM⟩ : ∃ M, M = n + ([34] ++ qk s k).length := ⟨_, rfl⟩
    rw [← hM] at hq
    subst hq
    have HM := hide hM
    clear hM
    by_cases hlt : k < s.size
    · have hkd : decide (k < s.size) = true := by simp [hlt]
      have hks : k < s.size := hlt
      obtain ⟨c, hc⟩ : ∃ c : Nat, c = (s[k]'hks).toNat := ⟨_, rfl⟩
      have hidx := fun w => run_index_string (P := Tryz.prog) w 9 s .i64 (k : Int) Tryz.underlying9
      have hkk : (0 : Int) ≤ k ∧ (k : Int) < s.size := ⟨by omega, by omega⟩
      simp only [dif_pos hkk, Int.toNat_natCast] at hidx
      rw [← hc] at hidx
      have hc256 : c < 256 := by rw [hc]; exact UInt8.toNat_lt _
      have HQ := hide (qk_succ s k c (by rw [bN_get s k hks, hc]))
      clear hc
      go_wp2_with fail
      refine (textByte_any c hc256 wr).mono ?_
      rintro e w2 ⟨rfl, hb2⟩
      have HA2 := hide (HA.out.step hb2)
      have hb4 := HLK.out (k + 1) hlt
      rw [HQ.out, List.length_append] at hb4
      obtain ⟨V3, W3, hr3, hA3⟩ := HA2.out.appT (strB (byteW c)) (byteW c) (strS_bytes (byteS_lt c hc256)) (by simp; omega)
      obtain ⟨a3, c3, hv3⟩ := hA3.slice
      obtain ⟨M3, hM3⟩ : ∃ M3, M3 = n + ([34] ++ qk s k ++ byteW c).length := ⟨_, rfl⟩
      rw [← hM3] at hv3
      subst hv3
      have HA3 := hide hA3
      clear hb2 hA3 hM3 hb4
      go_wp2_with (refine wpList_appendS_run rfl _ _ _ _ rfl _ _ _ rfl rfl hr3 ?_)
      refine ⟨⟨k + 1, by omega, by go_num, ?_⟩, by simp [intOf]; omega⟩
      show AV _ _ _ _ _ _ _ _
      rw [HQ.out, ← List.append_assoc]
      exact HA3.out
    · obtain rfl : k = s.size := by omega
      obtain ⟨V3, W3, hr3, hA3⟩ := HA.out.app1 34 (by have := HLK.out s.size (Nat.le_refl _); simp; omega)
      obtain ⟨a3, c3, hv3⟩ := hA3.slice
      obtain ⟨M3, hM3⟩ : ∃ M3, M3 = n + ([34] ++ qk s s.size ++ [34]).length := ⟨_, rfl⟩
      rw [← hM3] at hv3
      subst hv3
      have HA3 := hide hA3
      clear hA3 hM3
      go_wp2_with (refine wpList_append_run rfl _ _ _ rfl _ _ _ rfl rfl hr3 ?_)
      go_ret
      exact ⟨_, rfl, by rw [quoteT_qk]; exact HA3.out⟩

set_option maxHeartbeats 1000000 in
theorem quote_any (s : ByteArray) (hs : s.size ≤ 1000000) (w : World) :
    Calls Tryz.prog 15 #[.string s] w fun e w' => e = .returned (.string (strB (quoteT s))) ∧ Below w.heap.size w w' := by
  have ho0 : OwnU w w.heap.size (.slice none 0 0) 0 [] := ⟨rfl, .inl ⟨rfl, rfl⟩⟩
  have hk := appendQuote_any s (.slice none 0 0) 0 w.heap.size [] w ho0 (Nat.le_refl _) (by have := quoteT_len s; omega) hs
  have HK := hide hk
  have HNE : Hid (quoteT s ≠ []) := by show _ ≠ _; rw [quoteT_qk]; simp
  have HO0 := hide ho0
  clear hk ho0
  go_enter Tryz.func15, Tryz.ntmps15
  go_wp2_with fail
  refine HK.out.mono ?_
  rintro e w1 ⟨v, rfl, hA⟩
  have hb : Below w.heap.size w w1 := hA.below (Below.refl _ _) HO0.out
  have ho := hA.own
  rw [List.nil_append, Nat.zero_add] at ho
  have hcv := str_of ho HNE.out
  have HB := hide hb
  clear hb HK hA HO0
  obtain ⟨a, d, rfl⟩ := ho.slice
  clear ho HNE
  go_wp2
  go_ret
  exact ⟨rfl, HB.out⟩

end Go.Proofs.YtjlgepahgmkamaaGreatDoor
