/- Texts of this claim put together: TrA, TrB. -/
import Derived.Test.YthhfpjehamhcbaaGreatDoorJoinMathRd2
import Derived.Test.YthhfpjehamhcbaaGreatDoorJoinShA
import Derived.Lib.Bytealg
/- Bytes of texts: IndexByte, plain, letter, scan. -/
namespace Go.Proofs.YthhfpjehamhcbaaGreatDoor
set_option maxRecDepth 100000
set_option linter.unusedSimpArgs false
set_option linter.unusedVariables false
open Go.RowKit

theorem bN_len (t : ByteArray) : (bytesN t).length = t.size := by unfold bytesN; rw [List.length_map]; rfl
theorem bN_lt (t : ByteArray) : ∀ x ∈ bytesN t, x < 256 := fun x hx => by
  obtain ⟨u, -, rfl⟩ := List.mem_map.1 hx
  exact u.toNat_lt
theorem bN_drop (t : ByteArray) (i : Nat) : bytesN (t.extract i t.size) = (bytesN t).drop i := by
  unfold bytesN
  rw [ByteArray.data_extract, Array.toList_extract, ← List.map_drop]
  congr 1
  show (t.data.toList.drop i).take (t.size - i) = _
  exact List.take_of_length_le (by rw [List.length_drop, Array.length_toList]; exact Nat.le_refl _)
theorem bN_get (t : ByteArray) (i : Nat) (h : i < t.size) : (bytesN t)[i]? = some (t[i]).toNat := by
  unfold bytesN
  rw [List.getElem?_map]
  have : t.data.toList[i]? = some t[i] := by
    rw [Array.getElem?_toList, Array.getElem?_eq_getElem h]; rfl
  rw [this]; rfl
theorem bN_at (t : ByteArray) (i c : Nat) (hc : (bytesN t)[i]? = some c) : ∃ h : i < t.size, (t[i]).toNat = c := by
  have h : i < t.size := by
    rw [← bN_len]
    exact (List.getElem?_eq_some_iff.1 hc).1
  refine ⟨h, ?_⟩
  rw [bN_get t i h] at hc
  injection hc
theorem x_strIdx (ρ : Operand → Value) (d : Option Tmp) (x y : Operand) (ty : TypeId) (pos : String) (af : Array Edge) (g : Option (Nat × Bool)) (t : ByteArray) (i c : Nat) (hc : (bytesN t)[i]? = some c) (hx : ρ x = .string t) (hy : ρ y = .int .i64 i) (w : World) :
    (execOp ρ { dst := d, op := .index 9 x y, type := ty, pos := pos, after := af, guard := g }).run Tryz.prog w = .ok (.value (.int .u8 c)) w := by
  obtain ⟨h, e⟩ := bN_at t i c hc
  simp [go_sem, hx, hy, h, ← e]

/-- The first place of a byte; -1: there is none. -/
def idxI (l : List Nat) (c : Nat) : Int := if l.contains c then (l.idxOf c : Int) else -1
theorem idx_eq (c : Nat) (hc : c < 256) : ∀ l : List UInt8, Lib.indexByte l c.toUInt8 = idxI (l.map UInt8.toNat) c
  | [] => rfl
  | b :: l => by
    have ih := idx_eq c hc l
    have hb : (b == c.toUInt8) = (b.toNat == c) := by
      rw [Bool.eq_iff_iff, beq_iff_eq, beq_iff_eq, ← UInt8.toNat_inj]
      have : (c.toUInt8).toNat = c := by simp [Nat.toUInt8]; omega
      rw [this]
    unfold Lib.indexByte
    rw [ih, hb]
    unfold idxI
    rw [List.map_cons, List.contains_cons, List.idxOf_cons]
    by_cases h : b.toNat = c
    · simp [h]
    · have h1 : (b.toNat == c) = false := by simpa using h
      have h2 : (c == b.toNat) = false := by simpa using fun e => h e.symm
      rw [h1, h2]
      cases hm : (l.map UInt8.toNat).contains c with
      | false => simp [hm]
      | true =>
        simp only [Bool.false_eq_true, if_false, Bool.or_true, if_true, cond_false]
        have : ((((l.map UInt8.toNat).idxOf c : Nat) : Int) == -1) = false := beq_eq_false_iff_ne.2 (by omega)
        rw [this]
        simp
theorem indexByte_any (t : ByteArray) (c : Nat) (hc : c < 256) (w : World) :
    Calls Tryz.prog 77 #[.string t, .int .u8 c] w fun e w' => e = .returned (.int .i64 (idxI (bytesN t) c)) ∧ w' = w := by
  have hx : (Extern.BytealgIndexByte.indexByte #[.string t, .int .u8 (c : Int)]).run Tryz.prog w = .ok (.int .i64 (idxI (bytesN t) c)) w := by
    rw [Lib.run_indexByteString]
    have e := idx_eq c hc t.data.toList
    rw [Int.toNat_natCast, e]; rfl
  have h1 : Calls Tryz.prog 104 #[.string t, .int .u8 c] w fun e w' => e = .returned (.int .i64 (idxI (bytesN t) c)) ∧ w' = w := by
    go_enter Tryz.func104, Tryz.ntmps104
    go_wp2
    rw [run_callFunc_extern Tryz.func128 (by kernel_rfl) (by kernel_rfl) (by kernel_rfl) (e := Extern.BytealgIndexByte.indexByte) (by kernel_rfl), hx]
    simp only [Result.andThen]
    rw [Oper.upon_value]
    go_wp2
    go_ret
    exact ⟨rfl, rfl⟩
  have H1 := hide h1
  clear h1 hx
  go_enter Tryz.func77, Tryz.ntmps77
  go_wp2_with fail
  refine H1.out.mono ?_
  rintro e w1 ⟨rfl, rfl⟩
  go_wp2
  go_ret
  exact ⟨rfl, rfl⟩
theorem idxI_neg (l : List Nat) (c : Nat) : decide (idxI l c < 0) = !l.contains c := by
  unfold idxI
  cases h : l.contains c <;> simp
theorem idxI_pos (l : List Nat) (c : Nat) : decide (0 ≤ idxI l c) = l.contains c := by
  unfold idxI
  cases h : l.contains c <;> simp

theorem plain_any (c : Nat) (w : World) : Calls Tryz.prog 145 #[.int .u8 c] w fun e w' => e = .returned (.bool (plainB c)) ∧ w' = w := by
  go_enter Tryz.func145, Tryz.ntmps145
  by_cases h1 : 32 ≤ c
  · have d1 : decide (32 ≤ c) = true := by simp [h1]
    have d2 : decide ((32 : Int) ≤ c) = true := by simp; omega
    have HR : Hid (plainB c = decide (c ≤ 126)) := by show _ = _; unfold plainB; rw [d1]; rfl
    by_cases h2 : c ≤ 126
    · have d3 : decide (c ≤ 126) = true := by simp [h2]
      have d4 : decide ((c : Int) ≤ 126) = true := by simp; omega
      go_wp2
      go_ret
      refine ⟨?_, rfl⟩
      rw [HR.out, d3]; rfl
    · have d3 : decide (c ≤ 126) = false := by simp; omega
      have d4 : decide ((c : Int) ≤ 126) = false := by simp; omega
      go_wp2
      go_ret
      refine ⟨?_, rfl⟩
      rw [HR.out, d3]; rfl
  · have d1 : decide (32 ≤ c) = false := by simp; omega
    have d2 : decide ((32 : Int) ≤ c) = false := by simp; omega
    have HR : Hid (plainB c = false) := by show _ = _; unfold plainB; rw [d1]; rfl
    go_wp2
    go_ret
    refine ⟨?_, rfl⟩
    rw [HR.out]; rfl
theorem letter_any (c : Nat) (w : World) : Calls Tryz.prog 160 #[.int .u8 c] w fun e w' => e = .returned (.bool (letterB c)) ∧ w' = w := by
  go_enter Tryz.func160, Tryz.ntmps160
  go_wp2
  all_goals
    go_ret
    refine ⟨congrArg (fun b => Ending.returned (Value.bool b)) (?_ : _ = letterB c), rfl⟩
    unfold letterB
    rw [Bool.eq_iff_iff]
    simp only [Bool.or_eq_true, Bool.and_eq_true, decide_eq_true_eq, Bool.false_eq_true, eq_self, true_iff, false_iff]
    omega
end Go.Proofs.YthhfpjehamhcbaaGreatDoor
/- scan: the byte that is written at a text's beginning. -/
namespace Go.Proofs.YthhfpjehamhcbaaGreatDoor
set_option maxRecDepth 100000
set_option linter.unusedSimpArgs false
set_option linter.unusedVariables false
open Go.RowKit

theorem bits_or_hexF : ∀ x y : Fin 16, bits .or .i64 ((x.val : Int) * 16) (y.val : Int) % 256 = 16 * (x.val : Int) + (y.val : Int) := by decide +kernel
theorem bits_or_hex (x y : Nat) (hx : x < 16) (hy : y < 16) : bits .or .i64 ((x : Int) * 16) (y : Int) % 256 = 16 * (x : Int) + (y : Int) := bits_or_hexF ⟨x, hx⟩ ⟨y, hy⟩

def scanD (l : List Nat) : Nat × Nat := match l with
  | _ :: _ :: c :: d :: _ => if digitsL.contains c && digitsL.contains d then (16 * digitsL.idxOf c + digitsL.idxOf d, 4) else (0, 0)
  | _ => (0, 0)
theorem scan_none {l : List Nat} (h : l.length < 4) : scanD l = (0, 0) := by
  match l, h with
  | [], _ => rfl
  | [_], _ => rfl
  | [_, _], _ => rfl
  | [_, _, _], _ => rfl

set_option maxHeartbeats 1000000 in
theorem scanDigits_any (t : ByteArray) (w : World) (ht : t.size ≤ 1000000) : Calls Tryz.prog 159 #[.string t] w fun e w' => e = .returned (.tuple #[.int .u8 (scanD (bytesN t)).1, .int .i64 (scanD (bytesN t)).2]) ∧ Below w.heap.size w w' := by
  by_cases h4 : t.size < 4
  · have d1 : decide ((t.size : Int) < 4) = true := by simp; omega
    have d2 : decide (t.size < 4) = true := by simp [h4]
    rw [scan_none (by rw [bN_len]; exact h4)]
    go_enter Tryz.func159, Tryz.ntmps159
    go_wp2
    exact bodyPost_ret (by simp [results, Tryz.results159, go_sem]) rfl ⟨rfl, Below.refl _ _⟩
  · have d1 : decide ((t.size : Int) < 4) = false := by simp; omega
    have d2 : decide (t.size < 4) = false := by simp; omega
    obtain ⟨a, b, c, d, r, hl⟩ : ∃ a b c d r, bytesN t = a :: b :: c :: d :: r := by
      have hlen := bN_len t
      match hb : bytesN t with
      | [] => rw [hb] at hlen; simp at hlen; omega
      | [_] => rw [hb] at hlen; simp at hlen; omega
      | [_, _] => rw [hb] at hlen; simp at hlen; omega
      | [_, _, _] => rw [hb] at hlen; simp at hlen; omega
      | a :: b :: c :: d :: r => exact ⟨a, b, c, d, r, rfl⟩
    have hc : c < 256 := bN_lt t c (by rw [hl]; simp)
    have hd : d < 256 := bN_lt t d (by rw [hl]; simp)
    have H2 : Hid ((bytesN t)[2]? = some c) := by rw [hl]; rfl
    have H3 : Hid ((bytesN t)[3]? = some d) := by rw [hl]; rfl
    have e0 : bytesN ⟨#[48, 49, 50, 51, 52, 53, 54, 55, 56, 57, 97, 98, 99, 100, 101, 102]⟩ = digitsL := by decide +kernel
    obtain ⟨x, hx⟩ : ∃ x, x = idxI digitsL c := ⟨_, rfl⟩
    obtain ⟨y, hy⟩ : ∃ y, y = idxI digitsL d := ⟨_, rfl⟩
    have HQC : Hid (∀ W, Below w.heap.size w W → Calls Tryz.prog 77 #[.string ⟨#[48, 49, 50, 51, 52, 53, 54, 55, 56, 57, 97, 98, 99, 100, 101, 102]⟩, .int .u8 c] W fun e w' => e = .returned (.int .i64 x) ∧ Below W.heap.size W w') := fun W _ => by
      rw [hx, ← e0]; exact (indexByte_any _ c hc W).mono fun e w' ⟨h1, h2⟩ => ⟨h1, h2 ▸ Below.refl _ _⟩
    have HQD : Hid (∀ W, Below w.heap.size w W → Calls Tryz.prog 77 #[.string ⟨#[48, 49, 50, 51, 52, 53, 54, 55, 56, 57, 97, 98, 99, 100, 101, 102]⟩, .int .u8 d] W fun e w' => e = .returned (.int .i64 y) ∧ Below W.heap.size W w') := fun W _ => by
      rw [hy, ← e0]; exact (indexByte_any _ d hd W).mono fun e w' ⟨h1, h2⟩ => ⟨h1, h2 ▸ Below.refl _ _⟩
    have HS : Hid (scanD (bytesN t) = if digitsL.contains c && digitsL.contains d then (16 * digitsL.idxOf c + digitsL.idxOf d, 4) else (0, 0)) := by rw [hl]; rfl
    have HX := hide hx
    have HY := hide hy
    obtain ⟨u, hu⟩ : ∃ u, u = (scanD (bytesN t)).1 := ⟨_, rfl⟩
    obtain ⟨m, hm⟩ : ∃ m, m = (scanD (bytesN t)).2 := ⟨_, rfl⟩
    rw [← hu, ← hm]
    have HU := hide hu
    have HM := hide hm
    rw [HS.out] at HU HM
    clear hl e0 hx hy hu hm HS
    go_enter Tryz.func159, Tryz.ntmps159
    go_wp2
    have hG : Grows fun W => Below w.heap.size w W := fun W W' h1 h2 => h1.trans (h2.mono h1.size)
    have hqc := HQC.out
    have hqd := HQD.out
    have h2 := H2.out
    have h3 := H3.out
    refine w_lit (C := fun W => Below w.heap.size w W) (by kernel_rfl) (by kernel_rfl) ⟨rfl, rfl, rfl, Nat.le_refl _, fun _ _ => rfl⟩ ?_
    refine w_value (.string t) (by kernel_rfl) (fun w hw => x_move _ _ _ _ _ _ _ _ rfl w) ?_
    simp only [Act.put, List.setIfInBounds_toArray, List.set_cons_succ, List.set_cons_zero]
    refine w_value (.int .u8 c) (by kernel_rfl) (fun w hw => x_strIdx _ _ _ _ _ _ _ _ t 2 c h2 rfl rfl w) ?_
    simp only [Act.put, List.setIfInBounds_toArray, List.set_cons_succ, List.set_cons_zero]
    refine w_call hG 77 #[.string ⟨#[48, 49, 50, 51, 52, 53, 54, 55, 56, 57, 97, 98, 99, 100, 101, 102]⟩, .int .u8 c] (.int .i64 x) (by kernel_rfl) (fun w => x_call2 _ _ _ _ _ _ _ _ _ _ _ _ _ rfl rfl rfl (enters_of Tryz.func77 (by kernel_rfl) rfl) w) (fun w hw => hqc w hw) ?_
    simp only [Act.put, List.setIfInBounds_toArray, List.set_cons_succ, List.set_cons_zero]
    refine w_value (.string t) (by kernel_rfl) (fun w hw => x_move _ _ _ _ _ _ _ _ rfl w) ?_
    simp only [Act.put, List.setIfInBounds_toArray, List.set_cons_succ, List.set_cons_zero]
    refine w_value (.int .u8 d) (by kernel_rfl) (fun w hw => x_strIdx _ _ _ _ _ _ _ _ t 3 d h3 rfl rfl w) ?_
    simp only [Act.put, List.setIfInBounds_toArray, List.set_cons_succ, List.set_cons_zero]
    refine w_call hG 77 #[.string ⟨#[48, 49, 50, 51, 52, 53, 54, 55, 56, 57, 97, 98, 99, 100, 101, 102]⟩, .int .u8 d] (.int .i64 y) (by kernel_rfl) (fun w => x_call2 _ _ _ _ _ _ _ _ _ _ _ _ _ rfl rfl rfl (enters_of Tryz.func77 (by kernel_rfl) rfl) w) (fun w hw => hqd w hw) ?_
    simp only [Act.put, List.setIfInBounds_toArray, List.set_cons_succ, List.set_cons_zero]
    refine w_value (.int .i64 x) (by kernel_rfl) (fun w hw => x_assign _ _ _ _ _ _ _ _ rfl w) ?_
    simp only [Act.put, List.setIfInBounds_toArray, List.set_cons_succ, List.set_cons_zero]
    refine w_value (.int .i64 y) (by kernel_rfl) (fun w hw => x_assign _ _ _ _ _ _ _ _ rfl w) ?_
    simp only [Act.put, List.setIfInBounds_toArray, List.set_cons_succ, List.set_cons_zero]
    refine w_nil ?_
    intro W hW
    have HBX := hide hW
    clear hW hG hqc hqd h2 h3 HQC HQD
    have len16 : ∀ z, digitsL.contains z = true → digitsL.idxOf z < 16 := fun z hz => by
      have := List.idxOf_lt_length_of_mem (List.contains_iff_mem.1 hz)
      exact this
    cases k1 : digitsL.contains c with
    | false =>
      have ex : x = -1 := by rw [HX.out]; unfold idxI; rw [k1]; rfl
      clear HX
      subst ex
      have HU : Hid (u = 0) := by show _ = _; rw [HU.out, k1]; rfl
      have HM : Hid (m = 0) := by show _ = _; rw [HM.out, k1]; rfl
      clear k1 len16
      go_wp2
      refine bodyPost_ret (v := .tuple #[.int .u8 (0 : Nat), .int .i64 (0 : Nat)]) (by simp [results, Tryz.results159, go_sem]) rfl ⟨?_, HBX.out⟩
      rw [HU.out, HM.out]
    | true =>
      obtain ⟨x', hx'⟩ : ∃ x', x' = digitsL.idxOf c := ⟨_, rfl⟩
      have hx16 : x' < 16 := by rw [hx']; exact len16 c k1
      have ex : x = (x' : Int) := by rw [HX.out, hx']; unfold idxI; rw [k1]; rfl
      clear HX
      subst ex
      have dx : decide ((x' : Int) < 0) = false := by simp
      cases k2 : digitsL.contains d with
      | false =>
        have ey : y = -1 := by rw [HY.out]; unfold idxI; rw [k2]; rfl
        clear HY
        subst ey
        have HU : Hid (u = 0) := by show _ = _; rw [HU.out, k1, k2]; rfl
        have HM : Hid (m = 0) := by show _ = _; rw [HM.out, k1, k2]; rfl
        clear k1 k2 len16 hx'
        go_wp2
        refine bodyPost_ret (v := .tuple #[.int .u8 (0 : Nat), .int .i64 (0 : Nat)]) (by simp [results, Tryz.results159, go_sem]) rfl ⟨?_, HBX.out⟩
        rw [HU.out, HM.out]
      | true =>
        obtain ⟨y', hy'⟩ : ∃ y', y' = digitsL.idxOf d := ⟨_, rfl⟩
        have hy16 : y' < 16 := by rw [hy']; exact len16 d k2
        have ey : y = (y' : Int) := by rw [HY.out, hy']; unfold idxI; rw [k2]; rfl
        clear HY
        subst ey
        have dy : decide ((y' : Int) < 0) = false := by simp
        have hbits := bits_or_hex x' y' hx16 hy16
        have HU : Hid (u = 16 * x' + y') := by show _ = _; rw [HU.out, k1, k2, hx', hy']; rfl
        have HM : Hid (m = 4) := by show _ = _; rw [HM.out, k1, k2]; rfl
        clear hx' hy' len16 H2 H3 k1 k2
        go_wp2
        refine bodyPost_ret (v := .tuple #[.int .u8 ((16 * x' + y' : Nat) : Int), .int .i64 (4 : Nat)]) (by simp [results, Tryz.results159, go_sem, hbits]) rfl ⟨?_, HBX.out⟩
        rw [HU.out, HM.out]

def scanM (l : List Nat) : Nat × Nat := match l with
  | _ :: b :: _ => if b = 110 then (10, 2) else if b = 116 then (9, 2) else if b = 120 then scanD l else if !plainB b || letterB b then (0, 0) else (b, 2)
  | _ => (0, 0)
theorem scan_marked (r : List Nat) : scanN (92 :: r) = scanM (92 :: r) := by
  match r with
  | [] => rfl
  | [b] => rfl
  | [b, c] => rfl
  | b :: c :: d :: _ => rfl
theorem tup_scan (a : Act) (fn : Func) : True := trivial
set_option maxHeartbeats 1000000 in
theorem scanMarked_any (t : ByteArray) (w : World) (ht : t.size ≤ 1000000) : Calls Tryz.prog 158 #[.string t] w fun e w' => e = .returned (.tuple #[.int .u8 (scanM (bytesN t)).1, .int .i64 (scanM (bytesN t)).2]) ∧ Below w.heap.size w w' := by
  obtain ⟨u, hu⟩ : ∃ u, u = (scanM (bytesN t)).1 := ⟨_, rfl⟩
  obtain ⟨m, hm⟩ : ∃ m, m = (scanM (bytesN t)).2 := ⟨_, rfl⟩
  rw [← hu, ← hm]
  have HU := hide hu
  have HM := hide hm
  clear hu hm
  by_cases h2 : t.size < 2
  · have d1 : decide ((t.size : Int) < 2) = true := by simp; omega
    have d2 : decide (t.size < 2) = true := by simp [h2]
    have HS : Hid (scanM (bytesN t) = (0, 0)) := by
      have hlen := bN_len t
      show _ = _
      match hb : bytesN t with
      | [] => rfl
      | [_] => rfl
      | _ :: _ :: _ => rw [hb] at hlen; simp at hlen; omega
    go_enter Tryz.func158, Tryz.ntmps158
    go_wp2
    refine bodyPost_ret (v := .tuple #[.int .u8 (0 : Nat), .int .i64 (0 : Nat)]) (by simp [results, Tryz.results158, go_sem]) rfl ⟨?_, Below.refl _ _⟩
    rw [HU.out, HM.out, HS.out]
  · have d1 : decide ((t.size : Int) < 2) = false := by simp; omega
    have d2 : decide (t.size < 2) = false := by simp; omega
    obtain ⟨a, b, r, hl⟩ : ∃ a b r, bytesN t = a :: b :: r := by
      have hlen := bN_len t
      match hb : bytesN t with
      | [] => rw [hb] at hlen; simp at hlen; omega
      | [_] => rw [hb] at hlen; simp at hlen; omega
      | a :: b :: r => exact ⟨a, b, r, rfl⟩
    have hb : b < 256 := bN_lt t b (by rw [hl]; simp)
    have HS : Hid (scanM (bytesN t) = if b = 110 then (10, 2) else if b = 116 then (9, 2) else if b = 120 then scanD (bytesN t) else if !plainB b || letterB b then (0, 0) else (b, 2)) := by rw [hl]; rfl
    obtain ⟨h1, e1⟩ := bN_at t 1 b (by rw [hl]; rfl)
    have HPL := hide (plain_any b w)
    have HLE := hide (letter_any b w)
    have HSD := hide (scanDigits_any t w ht)
    clear hl
    go_enter Tryz.func158, Tryz.ntmps158
    by_cases c1 : b = 110
    · have k1 : ((b : Int) == 110) = true := by simp; omega
      have HV : Hid (scanM (bytesN t) = (10, 2)) := by show _ = _; rw [HS.out, if_pos c1]
      clear c1 HPL HLE HSD HS
      go_wp2
      refine bodyPost_ret (v := .tuple #[.int .u8 (10 : Nat), .int .i64 (2 : Nat)]) (by simp [results, Tryz.results158, go_sem]) rfl ⟨?_, Below.refl _ _⟩
      rw [HU.out, HM.out, HV.out]
    have k1 : ((b : Int) == 110) = false := beq_eq_false_iff_ne.2 (by omega)
    by_cases c2 : b = 116
    · have k2 : ((b : Int) == 116) = true := by simp; omega
      have HV : Hid (scanM (bytesN t) = (9, 2)) := by show _ = _; rw [HS.out, if_neg c1, if_pos c2]
      clear c1 c2 HPL HLE HSD HS
      go_wp2
      refine bodyPost_ret (v := .tuple #[.int .u8 (9 : Nat), .int .i64 (2 : Nat)]) (by simp [results, Tryz.results158, go_sem]) rfl ⟨?_, Below.refl _ _⟩
      rw [HU.out, HM.out, HV.out]
    have k2 : ((b : Int) == 116) = false := beq_eq_false_iff_ne.2 (by omega)
    by_cases c3 : b = 120
    · have k3 : ((b : Int) == 120) = true := by simp; omega
      have HV : Hid (scanM (bytesN t) = scanD (bytesN t)) := by show _ = _; rw [HS.out, if_neg c1, if_neg c2, if_pos c3]
      obtain ⟨p, hp⟩ : ∃ p, p = (scanD (bytesN t)).1 := ⟨_, rfl⟩
      obtain ⟨q, hq⟩ : ∃ q, q = (scanD (bytesN t)).2 := ⟨_, rfl⟩
      rw [← hp, ← hq] at HSD
      have HP := hide hp
      have HQ := hide hq
      clear c1 c2 c3 HPL HLE HS hp hq
      go_wp2_with fail
      refine HSD.out.mono ?_
      rintro e w1 ⟨rfl, hb1⟩
      have HB1 := hide hb1
      clear hb1 HSD
      go_wp2
      refine bodyPost_ret (v := .tuple #[.int .u8 p, .int .i64 q]) (by simp [results, Tryz.results158, go_sem]) rfl ⟨?_, HB1.out⟩
      rw [HU.out, HM.out, HV.out, HP.out, HQ.out]
    have k3 : ((b : Int) == 120) = false := beq_eq_false_iff_ne.2 (by omega)
    have HV : Hid (scanM (bytesN t) = if !plainB b || letterB b then (0, 0) else (b, 2)) := by show _ = _; rw [HS.out, if_neg c1, if_neg c2, if_neg c3]
    obtain ⟨p, hp⟩ : ∃ p, p = plainB b := ⟨_, rfl⟩
    obtain ⟨q, hq⟩ : ∃ q, q = letterB b := ⟨_, rfl⟩
    rw [← hp] at HPL
    rw [← hq] at HLE
    rw [← hp, ← hq] at HV
    clear c1 c2 c3 HS hp hq HSD
    go_wp2_with fail
    refine HPL.out.mono ?_
    rintro e w1 ⟨rfl, rfl⟩
    cases p
    · go_wp2
      refine bodyPost_ret (v := .tuple #[.int .u8 (0 : Nat), .int .i64 (0 : Nat)]) (by simp [results, Tryz.results158, go_sem]) rfl ⟨?_, Below.refl _ _⟩
      rw [HU.out, HM.out, HV.out]; rfl
    · go_wp2_with fail
      refine HLE.out.mono ?_
      rintro e w1 ⟨rfl, rfl⟩
      cases q
      · go_wp2
        refine bodyPost_ret (v := .tuple #[.int .u8 b, .int .i64 (2 : Nat)]) (by simp [results, Tryz.results158, go_sem]) rfl ⟨?_, Below.refl _ _⟩
        rw [HU.out, HM.out, HV.out]; rfl
      · go_wp2
        refine bodyPost_ret (v := .tuple #[.int .u8 (0 : Nat), .int .i64 (0 : Nat)]) (by simp [results, Tryz.results158, go_sem]) rfl ⟨?_, Below.refl _ _⟩
        rw [HU.out, HM.out, HV.out]; rfl
set_option maxHeartbeats 1000000 in
theorem scan_any (t : ByteArray) (w : World) (ht : t.size ≤ 1000000) : Calls Tryz.prog 157 #[.string t] w fun e w' => e = .returned (.tuple #[.int .u8 (scanN (bytesN t)).1, .int .i64 (scanN (bytesN t)).2]) ∧ Below w.heap.size w w' := by
  obtain ⟨u, hu⟩ : ∃ u, u = (scanN (bytesN t)).1 := ⟨_, rfl⟩
  obtain ⟨m, hm⟩ : ∃ m, m = (scanN (bytesN t)).2 := ⟨_, rfl⟩
  rw [← hu, ← hm]
  have HU := hide hu
  have HM := hide hm
  clear hu hm
  have etl : ∀ b : Bool, t.data.toList.isEmpty = b → t.toList.isEmpty = b := fun b h => by rw [ByteArray.toList_eq]; exact h
  match hl : bytesN t with
  | [] =>
    have hemp : t.toList.isEmpty = true := etl true (by
      cases h : t.data.toList with
      | nil => rfl
      | cons x l => unfold bytesN at hl; rw [h] at hl; simp at hl)
    have HV : Hid (scanN (bytesN t) = (0, 0)) := by rw [hl]; rfl
    clear hl etl
    go_enter Tryz.func157, Tryz.ntmps157
    go_wp2
    refine bodyPost_ret (v := .tuple #[.int .u8 (0 : Nat), .int .i64 (0 : Nat)]) (by simp [results, Tryz.results157, go_sem]) rfl ⟨?_, Below.refl _ _⟩
    rw [HU.out, HM.out, HV.out]
  | a :: r =>
    have hemp : t.toList.isEmpty = false := etl false (by
      cases h : t.data.toList with
      | nil => unfold bytesN at hl; rw [h] at hl; simp at hl
      | cons x l => rfl)
    have ha : a < 256 := bN_lt t a (by rw [hl]; simp)
    obtain ⟨h0, e0⟩ := bN_at t 0 a (by rw [hl]; rfl)
    have HPL := hide (plain_any a w)
    have esg : bytesN ⟨#[32, 40, 41, 91, 93, 124, 38, 45, 42, 43, 63, 46, 92]⟩ = signsL := by decide +kernel
    have hix := indexByte_any ⟨#[32, 40, 41, 91, 93, 124, 38, 45, 42, 43, 63, 46, 92]⟩ a ha w
    rw [esg] at hix
    have HSM := hide (scanMarked_any t w ht)
    by_cases c1 : a = 92
    · have k1 : ((a : Int) == 92) = true := by simp; omega
      have HV : Hid (scanN (bytesN t) = scanM (bytesN t)) := by rw [hl, c1]; exact scan_marked r
      obtain ⟨p, hp⟩ : ∃ p, p = (scanM (bytesN t)).1 := ⟨_, rfl⟩
      obtain ⟨q, hq⟩ : ∃ q, q = (scanM (bytesN t)).2 := ⟨_, rfl⟩
      rw [← hp, ← hq] at HSM
      have HP := hide hp
      have HQ := hide hq
      clear c1 HPL hix hl etl hp hq esg
      go_enter Tryz.func157, Tryz.ntmps157
      go_wp2_with fail
      refine HSM.out.mono ?_
      rintro e w1 ⟨rfl, hb1⟩
      have HB1 := hide hb1
      clear hb1 HSM
      go_wp2
      refine bodyPost_ret (v := .tuple #[.int .u8 p, .int .i64 q]) (by simp [results, Tryz.results157, go_sem]) rfl ⟨?_, HB1.out⟩
      rw [HU.out, HM.out, HV.out, HP.out, HQ.out]
    · have k1 : ((a : Int) == 92) = false := beq_eq_false_iff_ne.2 (by omega)
      have HV : Hid (scanN (bytesN t) = if !plainB a || signsL.contains a then (0, 0) else (a, 1)) := by
        rw [hl]
        show (if a = 92 then _ else _) = _
        rw [if_neg c1]
      obtain ⟨p, hp⟩ : ∃ p, p = plainB a := ⟨_, rfl⟩
      obtain ⟨q, hq⟩ : ∃ q, q = signsL.contains a := ⟨_, rfl⟩
      obtain ⟨z, hz⟩ : ∃ z, z = idxI signsL a := ⟨_, rfl⟩
      have hzq : decide (0 ≤ z) = q := by rw [hz, hq]; exact idxI_pos _ _
      rw [← hz] at hix
      rw [← hp] at HPL
      rw [← hp, ← hq] at HV
      have HIX := hide hix
      clear c1 hl etl hp hq HSM hix hz esg
      go_enter Tryz.func157, Tryz.ntmps157
      go_wp2_with fail
      refine HPL.out.mono ?_
      rintro e w1 ⟨rfl, rfl⟩
      cases p
      · go_wp2
        refine bodyPost_ret (v := .tuple #[.int .u8 (0 : Nat), .int .i64 (0 : Nat)]) (by simp [results, Tryz.results157, go_sem]) rfl ⟨?_, Below.refl _ _⟩
        rw [HU.out, HM.out, HV.out]; rfl
      · go_wp2_with fail
        refine HIX.out.mono ?_
        rintro e w1 ⟨rfl, rfl⟩
        cases q
        · go_wp2
          refine bodyPost_ret (v := .tuple #[.int .u8 a, .int .i64 (1 : Nat)]) (by simp [results, Tryz.results157, go_sem]) rfl ⟨?_, Below.refl _ _⟩
          rw [HU.out, HM.out, HV.out]; rfl
        · go_wp2
          refine bodyPost_ret (v := .tuple #[.int .u8 (0 : Nat), .int .i64 (0 : Nat)]) (by simp [results, Tryz.results157, go_sem]) rfl ⟨?_, Below.refl _ _⟩
          rw [HU.out, HM.out, HV.out]; rfl
end Go.Proofs.YthhfpjehamhcbaaGreatDoor
