/- Texts of this claim put together: TrA, TrB, TwA, TwB, TwC, TwD. -/
import Derived.Test.YtkjmjppmpcnejaaGreatDoorJoinRdH
import Derived.Test.YtkjmjppmpcnejaaGreatDoorShA
import Derived.Lib.Bytealg
import Derived.Test.YtkjmjppmpcnejaaGreatDoorReO
import Derived.Lib.AppendStr
/- Bytes of texts: IndexByte, plain, letter, scan. -/
namespace Go.Proofs.YtkjmjppmpcnejaaGreatDoor
set_option maxRecDepth 100000
set_option linter.unusedSimpArgs false
set_option linter.unusedVariables false
open Go.RowKit

theorem bN_len (t : ByteArray) : (bytesN t).length = t.size := by unfold bytesN; rw [List.length_map]; rfl
theorem bN_lt (t : ByteArray) : ∀ x ∈ bytesN t, x < 256 := fun x hx => by
  obtain ⟨u, -, rfl⟩ := List.mem_map.1 hx
  exact u.toNat_lt
theorem bN_drop (t : ByteArray) (i : Nat) : bytesN (t.extract i t.size) = (bytesN t).drop i := by
  unfold bytesN
  rw [ByteArray.data_extract, Array.toList_extract, ← List.map_drop]
  congr 1
  show (t.data.toList.drop i).take (t.size - i) = _
  exact List.take_of_length_le (by rw [List.length_drop, Array.length_toList]; exact Nat.le_refl _)
theorem bN_get (t : ByteArray) (i : Nat) (h : i < t.size) : (bytesN t)[i]? = some (t[i]).toNat := by
  unfold bytesN
  rw [List.getElem?_map]
  have : t.data.toList[i]? = some t[i] := by
    rw [Array.getElem?_toList, Array.getElem?_eq_getElem h]; rfl
  rw [this]; rfl
theorem bN_at (t : ByteArray) (i c : Nat) (hc : (bytesN t)[i]? = some c) : ∃ h : i < t.size, (t[i]).toNat = c := by
  have h : i < t.size := by
    rw [← bN_len]
    exact (List.getElem?_eq_some_iff.1 hc).1
  refine ⟨h, ?_⟩
  rw [bN_get t i h] at hc
  injection hc
theorem x_strIdx (ρ : Operand → Value) (d : Option Tmp) (x y : Operand) (ty : TypeId) (pos : String) (af : Array Edge) (g : Option (Nat × Bool)) (t : ByteArray) (i c : Nat) (hc : (bytesN t)[i]? = some c) (hx : ρ x = .string t) (hy : ρ y = .int .i64 i) (w : World) :
    (execOp ρ { dst := d, op := .index 9 x y, type := ty, pos := pos, after := af, guard := g }).run Tryz.prog w = .ok (.value (.int .u8 c)) w := by
  obtain ⟨h, e⟩ := bN_at t i c hc
  simp [go_sem, hx, hy, h, ← e]

/-- The first place of a byte; -1: there is none. -/
def idxI (l : List Nat) (c : Nat) : Int := if l.contains c then (l.idxOf c : Int) else -1
theorem idx_eq (c : Nat) (hc : c < 256) : ∀ l : List UInt8, Lib.indexByte l c.toUInt8 = idxI (l.map UInt8.toNat) c
  | [] => rfl
  | b :: l => by
    have ih := idx_eq c hc l
    have hb : (b == c.toUInt8) = (b.toNat == c) := by
      rw [Bool.eq_iff_iff, beq_iff_eq, beq_iff_eq, ← UInt8.toNat_inj]
      have : (c.toUInt8).toNat = c := by simp [Nat.toUInt8]; omega
      rw [this]
    unfold Lib.indexByte
    rw [ih, hb]
    unfold idxI
    rw [List.map_cons, List.contains_cons, List.idxOf_cons]
    by_cases h : b.toNat = c
    · simp [h]
    · have h1 : (b.toNat == c) = false := by simpa using h
      have h2 : (c == b.toNat) = false := by simpa using fun e => h e.symm
      rw [h1, h2]
      cases hm : (l.map UInt8.toNat).contains c with
      | false => simp [hm]
      | true =>
        simp only [Bool.false_eq_true, if_false, Bool.or_true, if_true, cond_false]
        have : ((((l.map UInt8.toNat).idxOf c : Nat) : Int) == -1) = false := beq_eq_false_iff_ne.2 (by omega)
        rw [this]
        simp
theorem indexByte_any (t : ByteArray) (c : Nat) (hc : c < 256) (w : World) :
    Calls Tryz.prog 63 #[.string t, .int .u8 c] w fun e w' => e = .returned (.int .i64 (idxI (bytesN t) c)) ∧ w' = w := by
  have hx : (Extern.BytealgIndexByte.indexByte #[.string t, .int .u8 (c : Int)]).run Tryz.prog w = .ok (.int .i64 (idxI (bytesN t) c)) w := by
    rw [Lib.run_indexByteString]
    have e := idx_eq c hc t.data.toList
    rw [Int.toNat_natCast, e]; rfl
  have h1 : Calls Tryz.prog 80 #[.string t, .int .u8 c] w fun e w' => e = .returned (.int .i64 (idxI (bytesN t) c)) ∧ w' = w := by
    go_enter Tryz.func80, Tryz.ntmps80
    go_wp2
    rw [run_callFunc_extern Tryz.func92 (by kernel_rfl) (by kernel_rfl) (by kernel_rfl) (e := Extern.BytealgIndexByte.indexByte) (by kernel_rfl), hx]
    simp only [Result.andThen]
    rw [Oper.upon_value]
    go_wp2
    go_ret
    exact ⟨rfl, rfl⟩
  have H1 := hide h1
  clear h1 hx
  go_enter Tryz.func63, Tryz.ntmps63
  go_wp2_with fail
  refine H1.out.mono ?_
  rintro e w1 ⟨rfl, rfl⟩
  go_wp2
  go_ret
  exact ⟨rfl, rfl⟩
theorem idxI_neg (l : List Nat) (c : Nat) : decide (idxI l c < 0) = !l.contains c := by
  unfold idxI
  cases h : l.contains c <;> simp
theorem idxI_pos (l : List Nat) (c : Nat) : decide (0 ≤ idxI l c) = l.contains c := by
  unfold idxI
  cases h : l.contains c <;> simp

theorem plain_any (c : Nat) (w : World) : Calls Tryz.prog 68 #[.int .u8 c] w fun e w' => e = .returned (.bool (plainB c)) ∧ w' = w := by
  go_enter Tryz.func68, Tryz.ntmps68
  by_cases h1 : 32 ≤ c
  · have d1 : decide (32 ≤ c) = true := by simp [h1]
    have d2 : decide ((32 : Int) ≤ c) = true := by simp; omega
    have HR : Hid (plainB c = decide (c ≤ 126)) := by show _ = _; unfold plainB; rw [d1]; rfl
    by_cases h2 : c ≤ 126
    · have d3 : decide (c ≤ 126) = true := by simp [h2]
      have d4 : decide ((c : Int) ≤ 126) = true := by simp; omega
      go_wp2
      go_ret
      refine ⟨?_, rfl⟩
      rw [HR.out, d3]; rfl
    · have d3 : decide (c ≤ 126) = false := by simp; omega
      have d4 : decide ((c : Int) ≤ 126) = false := by simp; omega
      go_wp2
      go_ret
      refine ⟨?_, rfl⟩
      rw [HR.out, d3]; rfl
  · have d1 : decide (32 ≤ c) = false := by simp; omega
    have d2 : decide ((32 : Int) ≤ c) = false := by simp; omega
    have HR : Hid (plainB c = false) := by show _ = _; unfold plainB; rw [d1]; rfl
    go_wp2
    go_ret
    refine ⟨?_, rfl⟩
    rw [HR.out]; rfl
theorem letter_any (c : Nat) (w : World) : Calls Tryz.prog 124 #[.int .u8 c] w fun e w' => e = .returned (.bool (letterB c)) ∧ w' = w := by
  go_enter Tryz.func124, Tryz.ntmps124
  go_wp2
  all_goals
    go_ret
    refine ⟨congrArg (fun b => Ending.returned (Value.bool b)) (?_ : _ = letterB c), rfl⟩
    unfold letterB
    rw [Bool.eq_iff_iff]
    simp only [Bool.or_eq_true, Bool.and_eq_true, decide_eq_true_eq, Bool.false_eq_true, eq_self, true_iff, false_iff]
    omega
end Go.Proofs.YtkjmjppmpcnejaaGreatDoor
/- scan: the byte that is written at a text's beginning. -/
namespace Go.Proofs.YtkjmjppmpcnejaaGreatDoor
set_option maxRecDepth 100000
set_option linter.unusedSimpArgs false
set_option linter.unusedVariables false
open Go.RowKit

theorem bits_or_hexF : ∀ x y : Fin 16, bits .or .i64 ((x.val : Int) * 16) (y.val : Int) % 256 = 16 * (x.val : Int) + (y.val : Int) := by decide +kernel
theorem bits_or_hex (x y : Nat) (hx : x < 16) (hy : y < 16) : bits .or .i64 ((x : Int) * 16) (y : Int) % 256 = 16 * (x : Int) + (y : Int) := bits_or_hexF ⟨x, hx⟩ ⟨y, hy⟩

def scanD (l : List Nat) : Nat × Nat := match l with
  | _ :: _ :: c :: d :: _ => if digitsL.contains c && digitsL.contains d then (16 * digitsL.idxOf c + digitsL.idxOf d, 4) else (0, 0)
  | _ => (0, 0)
theorem scan_none {l : List Nat} (h : l.length < 4) : scanD l = (0, 0) := by
  match l, h with
  | [], _ => rfl
  | [_], _ => rfl
  | [_, _], _ => rfl
  | [_, _, _], _ => rfl

set_option maxHeartbeats 1000000 in
theorem scanDigits_any (t : ByteArray) (w : World) (ht : t.size ≤ 1000000) : Calls Tryz.prog 123 #[.string t] w fun e w' => e = .returned (.tuple #[.int .u8 (scanD (bytesN t)).1, .int .i64 (scanD (bytesN t)).2]) ∧ Below w.heap.size w w' := by
  by_cases h4 : t.size < 4
  · have d1 : decide ((t.size : Int) < 4) = true := by simp; omega
    have d2 : decide (t.size < 4) = true := by simp [h4]
    rw [scan_none (by rw [bN_len]; exact h4)]
    go_enter Tryz.func123, Tryz.ntmps123
    go_wp2
    exact bodyPost_ret (by simp [results, Tryz.results123, go_sem]) rfl ⟨rfl, Below.refl _ _⟩
  · have d1 : decide ((t.size : Int) < 4) = false := by simp; omega
    have d2 : decide (t.size < 4) = false := by simp; omega
    obtain ⟨a, b, c, d, r, hl⟩ : ∃ a b c d r, bytesN t = a :: b :: c :: d :: r := by
      have hlen := bN_len t
      match hb : bytesN t with
      | [] => rw [hb] at hlen; simp at hlen; omega
      | [_] => rw [hb] at hlen; simp at hlen; omega
      | [_, _] => rw [hb] at hlen; simp at hlen; omega
      | [_, _, _] => rw [hb] at hlen; simp at hlen; omega
      | a :: b :: c :: d :: r => exact ⟨a, b, c, d, r, rfl⟩
    have hc : c < 256 := bN_lt t c (by rw [hl]; simp)
    have hd : d < 256 := bN_lt t d (by rw [hl]; simp)
    have H2 : Hid ((bytesN t)[2]? = some c) := by rw [hl]; rfl
    have H3 : Hid ((bytesN t)[3]? = some d) := by rw [hl]; rfl
    have e0 : bytesN ⟨#[48, 49, 50, 51, 52, 53, 54, 55, 56, 57, 97, 98, 99, 100, 101, 102]⟩ = digitsL := by decide +kernel
    obtain ⟨x, hx⟩ : ∃ x, x = idxI digitsL c := ⟨_, rfl⟩
    obtain ⟨y, hy⟩ : ∃ y, y = idxI digitsL d := ⟨_, rfl⟩
    have HQC : Hid (∀ W, Below w.heap.size w W → Calls Tryz.prog 63 #[.string ⟨#[48, 49, 50, 51, 52, 53, 54, 55, 56, 57, 97, 98, 99, 100, 101, 102]⟩, .int .u8 c] W fun e w' => e = .returned (.int .i64 x) ∧ Below W.heap.size W w') := fun W _ => by
      rw [hx, ← e0]; exact (indexByte_any _ c hc W).mono fun e w' ⟨h1, h2⟩ => ⟨h1, h2 ▸ Below.refl _ _⟩
    have HQD : Hid (∀ W, Below w.heap.size w W → Calls Tryz.prog 63 #[.string ⟨#[48, 49, 50, 51, 52, 53, 54, 55, 56, 57, 97, 98, 99, 100, 101, 102]⟩, .int .u8 d] W fun e w' => e = .returned (.int .i64 y) ∧ Below W.heap.size W w') := fun W _ => by
      rw [hy, ← e0]; exact (indexByte_any _ d hd W).mono fun e w' ⟨h1, h2⟩ => ⟨h1, h2 ▸ Below.refl _ _⟩
    have HS : Hid (scanD (bytesN t) = if digitsL.contains c && digitsL.contains d then (16 * digitsL.idxOf c + digitsL.idxOf d, 4) else (0, 0)) := by rw [hl]; rfl
    have HX := hide hx
    have HY := hide hy
    obtain ⟨u, hu⟩ : ∃ u, u = (scanD (bytesN t)).1 := ⟨_, rfl⟩
    obtain ⟨m, hm⟩ : ∃ m, m = (scanD (bytesN t)).2 := ⟨_, rfl⟩
    rw [← hu, ← hm]
    have HU := hide hu
    have HM := hide hm
    rw [HS.out] at HU HM
    clear hl e0 hx hy hu hm HS
    go_enter Tryz.func123, Tryz.ntmps123
    go_wp2
    have hG : Grows fun W => Below w.heap.size w W := fun W W' h1 h2 => h1.trans (h2.mono h1.size)
    have hqc := HQC.out
    have hqd := HQD.out
    have h2 := H2.out
    have h3 := H3.out
    refine w_lit (C := fun W => Below w.heap.size w W) (by kernel_rfl) (by kernel_rfl) ⟨rfl, rfl, rfl, Nat.le_refl _, fun _ _ => rfl⟩ ?_
    refine w_value (.string t) (by kernel_rfl) (fun w hw => x_move _ _ _ _ _ _ _ _ rfl w) ?_
    simp only [Act.put, List.setIfInBounds_toArray, List.set_cons_succ, List.set_cons_zero]
    refine w_value (.int .u8 c) (by kernel_rfl) (fun w hw => x_strIdx _ _ _ _ _ _ _ _ t 2 c h2 rfl rfl w) ?_
    simp only [Act.put, List.setIfInBounds_toArray, List.set_cons_succ, List.set_cons_zero]
    refine w_call hG 63 #[.string ⟨#[48, 49, 50, 51, 52, 53, 54, 55, 56, 57, 97, 98, 99, 100, 101, 102]⟩, .int .u8 c] (.int .i64 x) (by kernel_rfl) (fun w => x_call2 _ _ _ _ _ _ _ _ _ _ _ _ _ rfl rfl rfl (enters_of Tryz.func63 (by kernel_rfl) rfl) w) (fun w hw => hqc w hw) ?_
    simp only [Act.put, List.setIfInBounds_toArray, List.set_cons_succ, List.set_cons_zero]
    refine w_value (.string t) (by kernel_rfl) (fun w hw => x_move _ _ _ _ _ _ _ _ rfl w) ?_
    simp only [Act.put, List.setIfInBounds_toArray, List.set_cons_succ, List.set_cons_zero]
    refine w_value (.int .u8 d) (by kernel_rfl) (fun w hw => x_strIdx _ _ _ _ _ _ _ _ t 3 d h3 rfl rfl w) ?_
    simp only [Act.put, List.setIfInBounds_toArray, List.set_cons_succ, List.set_cons_zero]
    refine w_call hG 63 #[.string ⟨#[48, 49, 50, 51, 52, 53, 54, 55, 56, 57, 97, 98, 99, 100, 101, 102]⟩, .int .u8 d] (.int .i64 y) (by kernel_rfl) (fun w => x_call2 _ _ _ _ _ _ _ _ _ _ _ _ _ rfl rfl rfl (enters_of Tryz.func63 (by kernel_rfl) rfl) w) (fun w hw => hqd w hw) ?_
    simp only [Act.put, List.setIfInBounds_toArray, List.set_cons_succ, List.set_cons_zero]
    refine w_value (.int .i64 x) (by kernel_rfl) (fun w hw => x_assign _ _ _ _ _ _ _ _ rfl w) ?_
    simp only [Act.put, List.setIfInBounds_toArray, List.set_cons_succ, List.set_cons_zero]
    refine w_value (.int .i64 y) (by kernel_rfl) (fun w hw => x_assign _ _ _ _ _ _ _ _ rfl w) ?_
    simp only [Act.put, List.setIfInBounds_toArray, List.set_cons_succ, List.set_cons_zero]
    refine w_nil ?_
    intro W hW
    have HBX := hide hW
    clear hW hG hqc hqd h2 h3 HQC HQD
    have len16 : ∀ z, digitsL.contains z = true → digitsL.idxOf z < 16 := fun z hz => by
      have := List.idxOf_lt_length_of_mem (List.contains_iff_mem.1 hz)
      exact this
    cases k1 : digitsL.contains c with
    | false =>
      have ex : x = -1 := by rw [HX.out]; unfold idxI; rw [k1]; rfl
      clear HX
      subst ex
      have HU : Hid (u = 0) := by show _ = _; rw [HU.out, k1]; rfl
      have HM : Hid (m = 0) := by show _ = _; rw [HM.out, k1]; rfl
      clear k1 len16
      go_wp2
      refine bodyPost_ret (v := .tuple #[.int .u8 (0 : Nat), .int .i64 (0 : Nat)]) (by simp [results, Tryz.results123, go_sem]) rfl ⟨?_, HBX.out⟩
      rw [HU.out, HM.out]
    | true =>
      obtain ⟨x', hx'⟩ : ∃ x', x' = digitsL.idxOf c := ⟨_, rfl⟩
      have hx16 : x' < 16 := by rw [hx']; exact len16 c k1
      have ex : x = (x' : Int) := by rw [HX.out, hx']; unfold idxI; rw [k1]; rfl
      clear HX
      subst ex
      have dx : decide ((x' : Int) < 0) = false := by simp
      cases k2 : digitsL.contains d with
      | false =>
        have ey : y = -1 := by rw [HY.out]; unfold idxI; rw [k2]; rfl
        clear HY
        subst ey
        have HU : Hid (u = 0) := by show _ = _; rw [HU.out, k1, k2]; rfl
        have HM : Hid (m = 0) := by show _ = _; rw [HM.out, k1, k2]; rfl
        clear k1 k2 len16 hx'
        go_wp2
        refine bodyPost_ret (v := .tuple #[.int .u8 (0 : Nat), .int .i64 (0 : Nat)]) (by simp [results, Tryz.results123, go_sem]) rfl ⟨?_, HBX.out⟩
        rw [HU.out, HM.out]
      | true =>
        obtain ⟨y', hy'⟩ : ∃ y', y' = digitsL.idxOf d := ⟨_, rfl⟩
        have hy16 : y' < 16 := by rw [hy']; exact len16 d k2
        have ey : y = (y' : Int) := by rw [HY.out, hy']; unfold idxI; rw [k2]; rfl
        clear HY
        subst ey
        have dy : decide ((y' : Int) < 0) = false := by simp
        have hbits := bits_or_hex x' y' hx16 hy16
        have HU : Hid (u = 16 * x' + y') := by show _ = _; rw [HU.out, k1, k2, hx', hy']; rfl
        have HM : Hid (m = 4) := by show _ = _; rw [HM.out, k1, k2]; rfl
        clear hx' hy' len16 H2 H3 k1 k2
        go_wp2
        refine bodyPost_ret (v := .tuple #[.int .u8 ((16 * x' + y' : Nat) : Int), .int .i64 (4 : Nat)]) (by simp [results, Tryz.results123, go_sem, hbits]) rfl ⟨?_, HBX.out⟩
        rw [HU.out, HM.out]

def scanM (l : List Nat) : Nat × Nat := match l with
  | _ :: b :: _ => if b = 110 then (10, 2) else if b = 116 then (9, 2) else if b = 120 then scanD l else if !plainB b || letterB b then (0, 0) else (b, 2)
  | _ => (0, 0)
theorem scan_marked (r : List Nat) : scanN (92 :: r) = scanM (92 :: r) := by
  match r with
  | [] => rfl
  | [b] => rfl
  | [b, c] => rfl
  | b :: c :: d :: _ => rfl
theorem tup_scan (a : Act) (fn : Func) : True := trivial
set_option maxHeartbeats 1000000 in
theorem scanMarked_any (t : ByteArray) (w : World) (ht : t.size ≤ 1000000) : Calls Tryz.prog 122 #[.string t] w fun e w' => e = .returned (.tuple #[.int .u8 (scanM (bytesN t)).1, .int .i64 (scanM (bytesN t)).2]) ∧ Below w.heap.size w w' := by
  obtain ⟨u, hu⟩ : ∃ u, u = (scanM (bytesN t)).1 := ⟨_, rfl⟩
  obtain ⟨m, hm⟩ : ∃ m, m = (scanM (bytesN t)).2 := ⟨_, rfl⟩
  rw [← hu, ← hm]
  have HU := hide hu
  have HM := hide hm
  clear hu hm
  by_cases h2 : t.size < 2
  · have d1 : decide ((t.size : Int) < 2) = true := by simp; omega
    have d2 : decide (t.size < 2) = true := by simp [h2]
    have HS : Hid (scanM (bytesN t) = (0, 0)) := by
      have hlen := bN_len t
      show _ = _
      match hb : bytesN t with
      | [] => rfl
      | [_] => rfl
      | _ :: _ :: _ => rw [hb] at hlen; simp at hlen; omega
    go_enter Tryz.func122, Tryz.ntmps122
    go_wp2
    refine bodyPost_ret (v := .tuple #[.int .u8 (0 : Nat), .int .i64 (0 : Nat)]) (by simp [results, Tryz.results122, go_sem]) rfl ⟨?_, Below.refl _ _⟩
    rw [HU.out, HM.out, HS.out]
  · have d1 : decide ((t.size : Int) < 2) = false := by simp; omega
    have d2 : decide (t.size < 2) = false := by simp; omega
    obtain ⟨a, b, r, hl⟩ : ∃ a b r, bytesN t = a :: b :: r := by
      have hlen := bN_len t
      match hb : bytesN t with
      | [] => rw [hb] at hlen; simp at hlen; omega
      | [_] => rw [hb] at hlen; simp at hlen; omega
      | a :: b :: r => exact ⟨a, b, r, rfl⟩
    have hb : b < 256 := bN_lt t b (by rw [hl]; simp)
    have HS : Hid (scanM (bytesN t) = if b = 110 then (10, 2) else if b = 116 then (9, 2) else if b = 120 then scanD (bytesN t) else if !plainB b || letterB b then (0, 0) else (b, 2)) := by rw [hl]; rfl
    obtain ⟨h1, e1⟩ := bN_at t 1 b (by rw [hl]; rfl)
    have HPL := hide (plain_any b w)
    have HLE := hide (letter_any b w)
    have HSD := hide (scanDigits_any t w ht)
    clear hl
    go_enter Tryz.func122, Tryz.ntmps122
    by_cases c1 : b = 110
    · have k1 : ((b : Int) == 110) = true := by simp; omega
      have HV : Hid (scanM (bytesN t) = (10, 2)) := by show _ = _; rw [HS.out, if_pos c1]
      clear c1 HPL HLE HSD HS
      go_wp2
      refine bodyPost_ret (v := .tuple #[.int .u8 (10 : Nat), .int .i64 (2 : Nat)]) (by simp [results, Tryz.results122, go_sem]) rfl ⟨?_, Below.refl _ _⟩
      rw [HU.out, HM.out, HV.out]
    have k1 : ((b : Int) == 110) = false := beq_eq_false_iff_ne.2 (by omega)
    by_cases c2 : b = 116
    · have k2 : ((b : Int) == 116) = true := by simp; omega
      have HV : Hid (scanM (bytesN t) = (9, 2)) := by show _ = _; rw [HS.out, if_neg c1, if_pos c2]
      clear c1 c2 HPL HLE HSD HS
      go_wp2
      refine bodyPost_ret (v := .tuple #[.int .u8 (9 : Nat), .int .i64 (2 : Nat)]) (by simp [results, Tryz.results122, go_sem]) rfl ⟨?_, Below.refl _ _⟩
      rw [HU.out, HM.out, HV.out]
    have k2 : ((b : Int) == 116) = false := beq_eq_false_iff_ne.2 (by omega)
    by_cases c3 : b = 120
    · have k3 : ((b : Int) == 120) = true := by simp; omega
      have HV : Hid (scanM (bytesN t) = scanD (bytesN t)) := by show _ = _; rw [HS.out, if_neg c1, if_neg c2, if_pos c3]
      obtain ⟨p, hp⟩ : ∃ p, p = (scanD (bytesN t)).1 := ⟨_, rfl⟩
      obtain ⟨q, hq⟩ : ∃ q, q = (scanD (bytesN t)).2 := ⟨_, rfl⟩
      rw [← hp, ← hq] at HSD
      have HP := hide hp
      have HQ := hide hq
      clear c1 c2 c3 HPL HLE HS hp hq
      go_wp2_with fail
      refine HSD.out.mono ?_
      rintro e w1 ⟨rfl, hb1⟩
      have HB1 := hide hb1
      clear hb1 HSD
      go_wp2
      refine bodyPost_ret (v := .tuple #[.int .u8 p, .int .i64 q]) (by simp [results, Tryz.results122, go_sem]) rfl ⟨?_, HB1.out⟩
      rw [HU.out, HM.out, HV.out, HP.out, HQ.out]
    have k3 : ((b : Int) == 120) = false := beq_eq_false_iff_ne.2 (by omega)
    have HV : Hid (scanM (bytesN t) = if !plainB b || letterB b then (0, 0) else (b, 2)) := by show _ = _; rw [HS.out, if_neg c1, if_neg c2, if_neg c3]
    obtain ⟨p, hp⟩ : ∃ p, p = plainB b := ⟨_, rfl⟩
    obtain ⟨q, hq⟩ : ∃ q, q = letterB b := ⟨_, rfl⟩
    rw [← hp] at HPL
    rw [← hq] at HLE
    rw [← hp, ← hq] at HV
    clear c1 c2 c3 HS hp hq HSD
    go_wp2_with fail
    refine HPL.out.mono ?_
    rintro e w1 ⟨rfl, rfl⟩
    cases p
    · go_wp2
      refine bodyPost_ret (v := .tuple #[.int .u8 (0 : Nat), .int .i64 (0 : Nat)]) (by simp [results, Tryz.results122, go_sem]) rfl ⟨?_, Below.refl _ _⟩
      rw [HU.out, HM.out, HV.out]; rfl
    · go_wp2_with fail
      refine HLE.out.mono ?_
      rintro e w1 ⟨rfl, rfl⟩
      cases q
      · go_wp2
        refine bodyPost_ret (v := .tuple #[.int .u8 b, .int .i64 (2 : Nat)]) (by simp [results, Tryz.results122, go_sem]) rfl ⟨?_, Below.refl _ _⟩
        rw [HU.out, HM.out, HV.out]; rfl
      · go_wp2
        refine bodyPost_ret (v := .tuple #[.int .u8 (0 : Nat), .int .i64 (0 : Nat)]) (by simp [results, Tryz.results122, go_sem]) rfl ⟨?_, Below.refl _ _⟩
        rw [HU.out, HM.out, HV.out]; rfl
set_option maxHeartbeats 1000000 in
theorem scan_any (t : ByteArray) (w : World) (ht : t.size ≤ 1000000) : Calls Tryz.prog 121 #[.string t] w fun e w' => e = .returned (.tuple #[.int .u8 (scanN (bytesN t)).1, .int .i64 (scanN (bytesN t)).2]) ∧ Below w.heap.size w w' := by
  obtain ⟨u, hu⟩ : ∃ u, u = (scanN (bytesN t)).1 := ⟨_, rfl⟩
  obtain ⟨m, hm⟩ : ∃ m, m = (scanN (bytesN t)).2 := ⟨_, rfl⟩
  rw [← hu, ← hm]
  have HU := hide hu
  have HM := hide hm
  clear hu hm
  have etl : ∀ b : Bool, t.data.toList.isEmpty = b → t.toList.isEmpty = b := fun b h => by rw [ByteArray.toList_eq]; exact h
  match hl : bytesN t with
  | [] =>
    have hemp : t.toList.isEmpty = true := etl true (by
      cases h : t.data.toList with
      | nil => rfl
      | cons x l => unfold bytesN at hl; rw [h] at hl; simp at hl)
    have HV : Hid (scanN (bytesN t) = (0, 0)) := by rw [hl]; rfl
    clear hl etl
    go_enter Tryz.func121, Tryz.ntmps121
    go_wp2
    refine bodyPost_ret (v := .tuple #[.int .u8 (0 : Nat), .int .i64 (0 : Nat)]) (by simp [results, Tryz.results121, go_sem]) rfl ⟨?_, Below.refl _ _⟩
    rw [HU.out, HM.out, HV.out]
  | a :: r =>
    have hemp : t.toList.isEmpty = false := etl false (by
      cases h : t.data.toList with
      | nil => unfold bytesN at hl; rw [h] at hl; simp at hl
      | cons x l => rfl)
    have ha : a < 256 := bN_lt t a (by rw [hl]; simp)
    obtain ⟨h0, e0⟩ := bN_at t 0 a (by rw [hl]; rfl)
    have HPL := hide (plain_any a w)
    have esg : bytesN ⟨#[32, 40, 41, 91, 93, 124, 38, 45, 42, 43, 63, 46, 92]⟩ = signsL := by decide +kernel
    have hix := indexByte_any ⟨#[32, 40, 41, 91, 93, 124, 38, 45, 42, 43, 63, 46, 92]⟩ a ha w
    rw [esg] at hix
    have HSM := hide (scanMarked_any t w ht)
    by_cases c1 : a = 92
    · have k1 : ((a : Int) == 92) = true := by simp; omega
      have HV : Hid (scanN (bytesN t) = scanM (bytesN t)) := by rw [hl, c1]; exact scan_marked r
      obtain ⟨p, hp⟩ : ∃ p, p = (scanM (bytesN t)).1 := ⟨_, rfl⟩
      obtain ⟨q, hq⟩ : ∃ q, q = (scanM (bytesN t)).2 := ⟨_, rfl⟩
      rw [← hp, ← hq] at HSM
      have HP := hide hp
      have HQ := hide hq
      clear c1 HPL hix hl etl hp hq esg
      go_enter Tryz.func121, Tryz.ntmps121
      go_wp2_with fail
      refine HSM.out.mono ?_
      rintro e w1 ⟨rfl, hb1⟩
      have HB1 := hide hb1
      clear hb1 HSM
      go_wp2
      refine bodyPost_ret (v := .tuple #[.int .u8 p, .int .i64 q]) (by simp [results, Tryz.results121, go_sem]) rfl ⟨?_, HB1.out⟩
      rw [HU.out, HM.out, HV.out, HP.out, HQ.out]
    · have k1 : ((a : Int) == 92) = false := beq_eq_false_iff_ne.2 (by omega)
      have HV : Hid (scanN (bytesN t) = if !plainB a || signsL.contains a then (0, 0) else (a, 1)) := by
        rw [hl]
        show (if a = 92 then _ else _) = _
        rw [if_neg c1]
      obtain ⟨p, hp⟩ : ∃ p, p = plainB a := ⟨_, rfl⟩
      obtain ⟨q, hq⟩ : ∃ q, q = signsL.contains a := ⟨_, rfl⟩
      obtain ⟨z, hz⟩ : ∃ z, z = idxI signsL a := ⟨_, rfl⟩
      have hzq : decide (0 ≤ z) = q := by rw [hz, hq]; exact idxI_pos _ _
      rw [← hz] at hix
      rw [← hp] at HPL
      rw [← hp, ← hq] at HV
      have HIX := hide hix
      clear c1 hl etl hp hq HSM hix hz esg
      go_enter Tryz.func121, Tryz.ntmps121
      go_wp2_with fail
      refine HPL.out.mono ?_
      rintro e w1 ⟨rfl, rfl⟩
      cases p
      · go_wp2
        refine bodyPost_ret (v := .tuple #[.int .u8 (0 : Nat), .int .i64 (0 : Nat)]) (by simp [results, Tryz.results121, go_sem]) rfl ⟨?_, Below.refl _ _⟩
        rw [HU.out, HM.out, HV.out]; rfl
      · go_wp2_with fail
        refine HIX.out.mono ?_
        rintro e w1 ⟨rfl, rfl⟩
        cases q
        · go_wp2
          refine bodyPost_ret (v := .tuple #[.int .u8 a, .int .i64 (1 : Nat)]) (by simp [results, Tryz.results121, go_sem]) rfl ⟨?_, Below.refl _ _⟩
          rw [HU.out, HM.out, HV.out]; rfl
        · go_wp2
          refine bodyPost_ret (v := .tuple #[.int .u8 (0 : Nat), .int .i64 (0 : Nat)]) (by simp [results, Tryz.results121, go_sem]) rfl ⟨?_, Below.refl _ _⟩
          rw [HU.out, HM.out, HV.out]; rfl
end Go.Proofs.YtkjmjppmpcnejaaGreatDoor
/- Writing: rows of bytes that grow; appendByte. -/
namespace Go.Proofs.YtkjmjppmpcnejaaGreatDoor
set_option maxRecDepth 100000
set_option linter.unusedSimpArgs false
set_option linter.unusedVariables false
open Go.RowKit Go.Shelf

def othersL : List Nat := [94, 47, 34, 35]
/-- A byte as it is written. -/
def byteW (b : Nat) : List Nat :=
  if b = 10 then [92, 110] else if b = 9 then [92, 116] else if plainB b = false then [92, 120, digitsL.getD (b / 16) 0, digitsL.getD (b % 16) 0] else if (signsL ++ othersL).contains b then [92, b] else [b]

/-- From (w, v) to (w', v'): nothing old turned but v's own row. -/
structure GB (w w' : World) (v v' : Value) : Prop where
  grown : w.grownBy w' v.ownBlock
  own : v'.ownBlock = v.ownBlock ∨ ∃ g, v'.ownBlock = some g ∧ w.heap.size ≤ g
  drawn : w.drawn ≤ w'.drawn
theorem GB.refl (w : World) (v : Value) : GB w w v v := ⟨⟨rfl, rfl, rfl, Nat.le_refl _, fun _ _ _ => rfl⟩, .inl rfl, Nat.le_refl _⟩
theorem GB.trans {w w1 w2 : World} {v v1 v2 : Value} (h : GB w w1 v v1) (k : GB w1 w2 v1 v2) : GB w w2 v v2 := by
  refine ⟨⟨k.grown.os.trans h.grown.os, k.grown.tape.trans h.grown.tape, k.grown.output.trans h.grown.output, Nat.le_trans h.grown.size k.grown.size, fun i hi hn => ?_⟩, ?_, Nat.le_trans h.drawn k.drawn⟩
  · have hs := h.grown.size
    rw [k.grown.block i (by omega) ?_, h.grown.block i hi hn]
    intro e
    rcases h.own with h1 | ⟨g, h1, h2⟩
    · exact hn (e.trans h1)
    · rw [h1] at e; injection e; omega
  · have hs := h.grown.size
    rcases k.own with h1 | ⟨g, h1, h2⟩
    · rcases h.own with h3 | ⟨g, h3, h4⟩
      · exact .inl (h1.trans h3)
      · exact .inr ⟨g, h1.trans h3, h4⟩
    · exact .inr ⟨g, h1, by omega⟩
/-- What was written since (w, v): l. -/
structure AW (w : World) (base : Nat) (v : Value) (n : Nat) (xs : List Value) (l : List Nat) (V : Value) (W : World) : Prop where
  own : OwnU W base V (n + l.length) (xs ++ byteV l)
  gb : GB w W v V
  base : base ≤ W.heap.size
theorem AW.start {w : World} {base n : Nat} {v : Value} {xs : List Value} (h : OwnU w base v n xs) (hb : base ≤ w.heap.size) : AW w base v n xs [] v w := ⟨by simpa [byteV] using h, GB.refl _ _, hb⟩
theorem AW.step {w W W' : World} {base n : Nat} {v V : Value} {xs : List Value} {l : List Nat} (h : AW w base v n xs l V W) (hb : Below W.heap.size W W') (hd : W.drawn ≤ W'.drawn) : AW w base v n xs l V W' :=
  ⟨h.own.keep fun g hg => hb.block g (h.own.own_lt hg).2, h.gb.trans ⟨⟨hb.os, hb.tape, hb.output, hb.size, fun k hk _ => hb.block k hk⟩, .inl rfl, hd⟩, Nat.le_trans h.base hb.size⟩
theorem AW.slice {w W : World} {base n : Nat} {v V : Value} {xs : List Value} {l : List Nat} (h : AW w base v n xs l V W) : ∃ a c, V = .slice a (n + l.length) c := h.own.slice
/-- What another call wrote behind it. -/
theorem AW.more {w W W' : World} {base n : Nat} {v V V' : Value} {xs : List Value} {l m : List Nat} (h : AW w base v n xs l V W) (k : AW W base V (n + l.length) (xs ++ byteV l) m V' W') : AW w base v n xs (l ++ m) V' W' := by
  refine ⟨?_, h.gb.trans k.gb, k.base⟩
  have := k.own
  rw [byteV_append, List.length_append, ← List.append_assoc, ← Nat.add_assoc]
  exact this
theorem AW.app {w W : World} {base n : Nat} {v V : Value} {xs : List Value} {l : List Nat} (h : AW w base v n xs l V W) (ty : TypeId) (g : Nat) (c : Array Value) (m : List Nat) (hg : Blk W g (byteV m).toArray 5) (hm : 0 < m.length) (hl : n + l.length + m.length ≤ 140737488355328) :
    ∃ V' W', (Builtin.append_ #[61, 61] ty #[V, .slice (some ⟨g, 0, none⟩) m.length m.length]).run Tryz.prog W = .ok V' W' ∧ AW w base v n xs (l ++ m) V' W' := by
  obtain ⟨v', w', hr, ho, hg', hob, hd⟩ := run_appendU W ty base V _ _ h.own ⟨g, 0, none⟩ m.length m.length (byteV m) (by simp [byteV]) (fun j u hu => by
      rw [Go.WideShapes.add_plain, Nat.zero_add, hg.cell]; simpa using hu) (by intro u hu; simp [byteV] at hu; obtain ⟨x, -, rfl⟩ := hu; rfl) hm hl h.base
  refine ⟨v', w', hr, ?_, h.gb.trans ⟨hg', ?_, hd⟩, Nat.le_trans h.base hg'.size⟩
  · rw [byteV_append, List.length_append, ← List.append_assoc, ← Nat.add_assoc]; exact ho
  · rcases hob with e | e
    · exact .inl e
    · exact .inr ⟨_, e, Nat.le_refl _⟩
theorem strCells_byteV (s : ByteArray) : Lib.strCells s = byteV (bytesN s) := by simp [Lib.strCells, byteV, bytesN]
/-- append of a text's bytes. -/
theorem run_appendS (w : World) (ty : TypeId) (base : Nat) (v : Value) (n : Nat) (xs : List Value) (hown : OwnU w base v n xs) (s : ByteArray) (hm : 0 < s.size) (hbytes : n + s.size ≤ 140737488355328) (hbase : base ≤ w.heap.size) :
    ∃ v' w', (Builtin.append_ #[61, 9] ty #[v, .string s]).run Tryz.prog w = .ok v' w' ∧ OwnU w' base v' (n + s.size) (xs ++ byteV (bytesN s)) ∧ GB w w' v v' := by
  obtain ⟨i, hi, hz0, hz1, hz2⟩ := info_parts infoU8
  have hbl : (byteV (bytesN s)).length = s.size := by simp [byteV, bN_len]
  have hlen : (xs ++ byteV (bytesN s)).length = n + s.size := by rw [List.length_append, hown.1, hbl]
  have hml : n + s.size ≤ maxLen := by unfold maxLen; omega
  have grown : ∀ old, OwnU (w.drew.alloc (.cells (xs.toArray ++ (byteV (bytesN s)).toArray ++ Builtin.zeroCells (Value.int .u8 0).cells (grownCap w (n + s.size) old 5 - (n + s.size))) 5)) base
        (.slice (some ⟨w.heap.size, 0, none⟩) (n + s.size) (grownCap w (n + s.size) old 5)) (n + s.size) (xs ++ byteV (bytesN s)) := by
    intro old
    have hge := grownCap_ge w (n + s.size) old 5
    have hcm : grownCap w (n + s.size) old 5 ≤ maxLen := grownCap_le_maxLen w (n + s.size) old _ hml
    refine ⟨hlen, .inr ⟨w.heap.size, _, _, _, rfl, hbase, heap_alloc_new w.drew _, hge, hcm, ?_, ?_⟩⟩
    · simp only [Array.size_append, List.size_toArray, size_zeroCells, hown.1, hbl]
      simp [Value.cells]; omega
    · simp only [Array.toList_append, List.append_assoc]
      rw [← List.append_assoc, ← hlen]
      exact List.take_left
  have gb : ∀ o u, GB w (w.drew.alloc o) v (.slice (some ⟨w.heap.size, 0, none⟩) (n + s.size) u) := fun o u => ⟨⟨rfl, rfl, rfl, by simp, fun k hk _ => heap_alloc_old w.drew _ hk⟩, .inr ⟨_, rfl, Nat.le_refl _⟩, Nat.le_succ _⟩
  have esc := strCells_byteV s
  rcases hown.2 with ⟨rfl, rfl⟩ | ⟨g, cap, cur, t, rfl, hbg, hg, hnc, hcm, hcs, htake⟩
  · have hx : xs = [] := List.eq_nil_of_length_eq_zero (by simpa using hown.1)
    subst hx
    have hr := run_append_nil_string (P := Tryz.prog) w 61 9 ty 5 i (.int .u8 0) Tryz.underlying61 Tryz.underlying9 hi hz0 s hm (by omega) (by rw [hz2]; omega)
    have e1 : (s.data.map fun b => Value.int .u8 b.toNat) = (byteV (bytesN s)).toArray := by
      rw [← esc]; apply Array.ext'; simp [Lib.strCells]
    rw [e1] at hr
    have hgr := grown 0
    have hgb := gb (.cells ((byteV (bytesN s)).toArray ++ Builtin.zeroCells (Value.int .u8 0).cells (grownCap w s.size 0 5 - s.size)) 5) (grownCap w s.size 0 5)
    simp only [Nat.zero_add, List.nil_append, Array.empty_append] at hgr hgb ⊢
    exact ⟨_, _, hr, hgr, hgb⟩
  · by_cases hroom : n + s.size ≤ cap
    · have hf := Lib.run_firstCells_string (P := Tryz.prog) w i.size s
      have hst := run_storeCells_at Tryz.prog g (n * i.size) t (Lib.strCells s) 0 cur w hg (by rw [hz1]; simpa [Lib.strCells_length, hcs] using hroom) (Lib.strCells_oneCell s)
      simp only [Nat.add_zero] at hst
      have hr : (Builtin.append_ #[61, 9] ty #[.slice (some ⟨g, 0, none⟩) n cap, .string s]).run Tryz.prog w = .ok (.slice (some ⟨g, 0, none⟩) (n + s.size) cap) (w.setRow g (cur.toList.take (n * i.size) ++ Lib.strCells s ++ cur.toList.drop (n * i.size + (Lib.strCells s).length)).toArray) := by
        simp [Builtin.append_, run_underlying Tryz.underlying61, run_underlying Tryz.underlying9, sizeOf, typeInfo, hi, Builtin.lenOf, hroom, hf, Addr.add_lit, hst]
      refine ⟨_, _, hr, ⟨hlen, .inr ⟨g, cap, _, t, rfl, hbg, setRow_heap w g cur _ t _ hg, hroom, hcm, ?_, ?_⟩⟩, ⟨⟨rfl, rfl, rfl, by simp, fun k _ hk => setRow_other w g k _ (fun e => hk (by simp [Value.ownBlock, e]))⟩, .inl rfl, Nat.le_refl _⟩⟩
      · simp only [List.size_toArray, List.length_append, List.length_take, List.length_drop, Array.length_toList, hz1, Lib.strCells_length]
        omega
      · rw [hz1, Nat.mul_one, htake, esc, ← hlen]
        exact List.take_left
    · have holds : ∀ j u, xs[j]? = some u → w.cell? ((⟨g, 0, none⟩ : Addr).add j) = some u := fun j u hu => by
        rw [Go.WideShapes.add_plain, Nat.zero_add]; exact hown.cells j u hu
      have hr := Lib.run_append_grow_string (P := Tryz.prog) w 61 9 ty 5 i (.int .u8 0) Tryz.underlying61 Tryz.underlying9 hi hz0 ⟨g, 0, none⟩ n cap xs (by rw [hz1, hown.1]; omega) holds s (by omega) (by omega) (by rw [hz2]; exact growslice_fits (by omega) (by omega))
      rw [esc] at hr
      exact ⟨_, _, hr, grown cap, gb _ _⟩
theorem AW.appS {w W : World} {base n : Nat} {v V : Value} {xs : List Value} {l : List Nat} (h : AW w base v n xs l V W) (ty : TypeId) (s : ByteArray) (m : List Nat) (hm : bytesN s = m) (h0 : 0 < m.length) (hl : n + l.length + m.length ≤ 140737488355328) :
    ∃ V' W', (Builtin.append_ #[61, 9] ty #[V, .string s]).run Tryz.prog W = .ok V' W' ∧ AW w base v n xs (l ++ m) V' W' := by
  have hsz : s.size = m.length := by rw [← hm, bN_len]
  obtain ⟨v', w', hr, ho, hgb⟩ := run_appendS W ty base V _ _ h.own s (by omega) (by omega) h.base
  refine ⟨v', w', hr, ?_, h.gb.trans hgb, Nat.le_trans h.base hgb.grown.size⟩
  rw [byteV_append, List.length_append, ← List.append_assoc, ← Nat.add_assoc, ← hsz, ← hm]; exact ho

theorem wpList_appendS_run {w w' : World} {ops : Array Oper} {rest : List Oper} {o : Oper} {a : Act} {Q : Exit → Act → World → Prop} (hg : o.guard = none) (s x : Operand) (t u : TypeId)
    (hop : o.op = Op.call { callee := Callee.builtin Builtin.append, args := #[s, x], argTypes := #[t, u] }) (v y v' : Value) (hs : a.eval s = v) (hx : a.eval x = y)
    (hrun : (Builtin.append_ #[t, u] o.type #[v, y]).run Tryz.prog w = .ok v' w') (hK : wpList Tryz.prog ops Q rest (a.put o.dst v') w') : wpList Tryz.prog ops Q (o :: rest) a w := by
  refine wpList_plain hg fun K hK' => ?_
  unfold Oper.wp execOp
  simp only [hop, resolve, invoke, builtin, Sem.run_bind, Sem.run_pure, Result.andThen_ok, List.map_toArray, List.map_cons, List.map_nil, hs, hx, hrun]
  exact hK' _ _ hK
theorem wp_append_known {o : Oper} {a : Act} {w w' : World} {K : Act → World → Prop} {Q : Exit → Act → World → Prop} (s x : Operand) (t : Array TypeId)
    (hop : o.op = Op.call { callee := Callee.builtin Builtin.append, args := #[s, x], argTypes := t }) (v y v' : Value) (hs : a.eval s = v) (hx : a.eval x = y)
    (hrun : (Builtin.append_ t o.type #[v, y]).run Tryz.prog w = .ok v' w') (hK : K (a.put o.dst v') w') : o.wp Tryz.prog a w K Q := by
  unfold Oper.wp execOp
  simp only [hop, resolve, invoke, builtin, Sem.run_bind, Sem.run_pure, Result.andThen_ok, List.map_toArray, List.map_cons, List.map_nil, hs, hx, hrun]
  exact hK
theorem u8_shr4 : ∀ c : Fin 256, (execOp (fun _ => Value.int .u8 c.val) { dst := none, op := .move (.tmp 0), type := 0, pos := "", after := #[], guard := none } = execOp (fun _ => Value.int .u8 c.val) { dst := none, op := .move (.tmp 0), type := 0, pos := "", after := #[], guard := none }) := fun _ => rfl
theorem u8_and15F : ∀ c : Fin 256, bits .and .u8 (c.val : Int) 15 = ((c.val % 16 : Nat) : Int) := by decide +kernel
theorem x_and15 (ρ : Operand → Value) (d : Option Tmp) (x : Operand) (t : TypeId) (pos : String) (af : Array Edge) (g : Option (Nat × Bool)) (c : Nat) (hc : c < 256) (hx : ρ x = .int .u8 c) (hy : ρ (.const (.int .u8 15)) = .int .u8 15) (w : World) :
    (execOp ρ { dst := d, op := .binOp .and 5 x (.const (.int .u8 15)) 5, type := t, pos := pos, after := af, guard := g }).run Tryz.prog w = .ok (.value (.int .u8 ((c % 16 : Nat) : Int))) w := by
  have e : bits .and .u8 (c : Int) 15 = ((c % 16 : Nat) : Int) := u8_and15F ⟨c, hc⟩
  simp [go_sem, hx, hy, e]
theorem x_shr4 (ρ : Operand → Value) (d : Option Tmp) (x : Operand) (t : TypeId) (pos : String) (af : Array Edge) (g : Option (Nat × Bool)) (c : Nat) (hc : c < 256) (hx : ρ x = .int .u8 c) (hy : ρ (.const (.int .u64 4)) = .int .u64 4) (w : World) :
    (execOp ρ { dst := d, op := .binOp .shr 5 x (.const (.int .u64 4)) 65, type := t, pos := pos, after := af, guard := g }).run Tryz.prog w = .ok (.value (.int .u8 ((c / 16 : Nat) : Int))) w := by
  simp [go_sem, hx, hy]
theorem x_build4 (ρ : Operand → Value) (d : Option Tmp) (x y : Operand) (t : TypeId) (pos : String) (af : Array Edge) (g : Option (Nat × Bool)) (u v : Nat) (h1 : ρ (.const (.int .u8 92)) = .int .u8 92) (h2 : ρ (.const (.int .u8 120)) = .int .u8 120) (hx : ρ x = .int .u8 u) (hy : ρ y = .int .u8 v) (w : World) :
    (execOp ρ { dst := d, op := .buildSlice 61 4 #[(0, .const (.int .u8 92)), (1, .const (.int .u8 120)), (2, x), (3, y)], type := t, pos := pos, after := af, guard := g }).run Tryz.prog w = .ok (.value (.slice (some ⟨w.heap.size, 0, none⟩) 4 4)) (w.alloc (.cells #[.int .u8 92, .int .u8 120, .int .u8 u, .int .u8 v] 5)) := by
  simp [go_sem, h1, h2, hx, hy]
end Go.Proofs.YtkjmjppmpcnejaaGreatDoor
/- appendByte, hold, need, opOf. -/
namespace Go.Proofs.YtkjmjppmpcnejaaGreatDoor
set_option maxRecDepth 100000
set_option linter.unusedSimpArgs false
set_option linter.unusedVariables false
open Go.RowKit Go.Shelf

theorem x_strIdx8 (ρ : Operand → Value) (d : Option Tmp) (x y : Operand) (ty : TypeId) (pos : String) (af : Array Edge) (g : Option (Nat × Bool)) (t : ByteArray) (i c : Nat) (hc : (bytesN t)[i]? = some c) (hx : ρ x = .string t) (hy : ρ y = .int .u8 i) (w : World) :
    (execOp ρ { dst := d, op := .index 9 x y, type := ty, pos := pos, after := af, guard := g }).run Tryz.prog w = .ok (.value (.int .u8 c)) w := by
  obtain ⟨h, e⟩ := bN_at t i c hc
  simp [go_sem, hx, hy, h, ← e]
theorem byteW_len (c : Nat) : 1 ≤ (byteW c).length ∧ (byteW c).length ≤ 4 := by
  unfold byteW
  repeat' split
  all_goals simp
set_option maxHeartbeats 1000000 in
theorem appendByte_any (c : Nat) (hc : c < 256) (v : Value) (n base : Nat) (xs : List Value) (w : World) (hO : OwnU w base v n xs) (hb : base ≤ w.heap.size) (hn : n ≤ 1099511627776) :
    Calls Tryz.prog 45 #[v, .int .u8 c] w fun e w' => ∃ V, e = .returned V ∧ AW w base v n xs (byteW c) V w' := by
  obtain ⟨a0, cp0, rfl⟩ := hO.slice
  have hst := AW.start hO hb
  obtain ⟨L, hL⟩ : ∃ L, L = byteW c := ⟨_, rfl⟩
  rw [← hL]
  have HL := hide hL
  clear hL
  go_enter Tryz.func45, Tryz.ntmps45
  by_cases c1 : c = 10
  · have k1 : ((c : Int) == 10) = true := by simp; omega
    obtain ⟨V, W, hr, hA⟩ := hst.appS 61 ⟨#[92, 110]⟩ [92, 110] (by decide +kernel) (by simp) (by simp; omega)
    have HA := hide hA
    have HE : Hid (L = [] ++ [92, 110]) := by show _ = _; rw [HL.out]; unfold byteW; rw [if_pos c1]; rfl
    obtain ⟨a1, cp1, rfl⟩ := hA.slice
    clear hA hst c1 hO
    go_wp2_with (refine wpList_appendS_run rfl _ _ _ _ rfl _ _ _ rfl rfl hr ?_)
    go_ret
    exact ⟨_, rfl, by rw [HE.out]; exact HA.out⟩
  have k1 : ((c : Int) == 10) = false := beq_eq_false_iff_ne.2 (by omega)
  by_cases c2 : c = 9
  · have k2 : ((c : Int) == 9) = true := by simp; omega
    obtain ⟨V, W, hr, hA⟩ := hst.appS 61 ⟨#[92, 116]⟩ [92, 116] (by decide +kernel) (by simp) (by simp; omega)
    have HA := hide hA
    have HE : Hid (L = [] ++ [92, 116]) := by show _ = _; rw [HL.out]; unfold byteW; rw [if_neg c1, if_pos c2]; rfl
    obtain ⟨a1, cp1, rfl⟩ := hA.slice
    clear hA hst c1 c2 hO
    go_wp2_with (refine wpList_appendS_run rfl _ _ _ _ rfl _ _ _ rfl rfl hr ?_)
    go_ret
    exact ⟨_, rfl, by rw [HE.out]; exact HA.out⟩
  have k2 : ((c : Int) == 9) = false := beq_eq_false_iff_ne.2 (by omega)
  have HPL := hide (plain_any c w)
  obtain ⟨pl, hpl⟩ : ∃ pl, pl = plainB c := ⟨_, rfl⟩
  rw [← hpl] at HPL
  have HL3 : Hid (L = if pl = false then [92, 120, digitsL.getD (c / 16) 0, digitsL.getD (c % 16) 0] else if (signsL ++ othersL).contains c then [92, c] else [c]) := by
    show _ = _
    rw [HL.out, hpl]; unfold byteW; rw [if_neg c1, if_neg c2]
  have HST := hide hst
  clear hst c1 c2 hpl HL hO
  go_wp2_with fail
  refine HPL.out.mono ?_
  rintro e w1 ⟨rfl, rfl⟩
  cases pl with
  | false =>
    obtain ⟨hx, hhx0⟩ : ∃ hx, hx = digitsL.getD (c / 16) 0 := ⟨_, rfl⟩
    obtain ⟨lx, hlx0⟩ : ∃ lx, lx = digitsL.getD (c % 16) 0 := ⟨_, rfl⟩
    have hdg : bytesN ⟨#[48, 49, 50, 51, 52, 53, 54, 55, 56, 57, 97, 98, 99, 100, 101, 102]⟩ = digitsL := by decide +kernel
    have hget : ∀ i, i < 16 → digitsL[i]? = some (digitsL.getD i 0) := fun i hi => by
      rw [List.getD_eq_getElem?_getD, List.getElem?_eq_getElem (show i < digitsL.length from hi)]; rfl
    have hhx : (bytesN ⟨#[48, 49, 50, 51, 52, 53, 54, 55, 56, 57, 97, 98, 99, 100, 101, 102]⟩)[c / 16]? = some hx := by rw [hdg, hhx0]; exact hget _ (by omega)
    have hlx : (bytesN ⟨#[48, 49, 50, 51, 52, 53, 54, 55, 56, 57, 97, 98, 99, 100, 101, 102]⟩)[c % 16]? = some lx := by rw [hdg, hlx0]; exact hget _ (by omega)
    have HE : Hid (L = [] ++ [92, 120, hx, lx]) := by show _ = _; rw [HL3.out, if_pos rfl, hhx0, hlx0]; rfl
    have HHX := hide hhx
    have HLX := hide hlx
    clear hhx0 hlx0 hdg hget HPL hhx hlx
    go_wp2
    have hhx := HHX.out
    have hlx := HLX.out
    have hA1 := HST.out.step (⟨rfl, rfl, rfl, Nat.le_refl _, fun _ _ => rfl⟩ : Below w1.heap.size w1 { w1 with drawn := w1.drawn + 1 }) (Nat.le_succ _)
    refine wp_region_noPanic (wp_region_held (S := fun _ => True) (by kernel_rfl) ?_)
    show wpAnyH _ _ _ _ _ 10 #[false, false, false, false, false, false, false, false, false, false] _ _
    generalize ({ w1 with drawn := w1.drawn + 1 } : World) = W at hA1 ⊢
    have hb2 := (Below.refl W.heap.size W).alloc (Nat.le_refl _) (.cells #[.int .u8 92, .int .u8 120, .int .u8 hx, .int .u8 lx] 5)
    obtain ⟨v2, W2, hr2, hA2⟩ := (hA1.step hb2 (Nat.le_refl _)).app 61 W.heap.size #[] [92, 120, hx, lx] (Blk.newAt rfl _ _) (by simp) (by simp; omega)
    simp only [List.length_cons, List.length_nil, Nat.zero_add, Nat.reduceAdd] at hr2
    refine h_take 0 (.slice a0 n cp0) rfl (by kernel_rfl) (by kernel_rfl) (by kernel_rfl) rfl (fun w hw => x_move _ _ _ _ _ _ _ _ rfl w) trivial ?_
    simp only [Act.put, List.setIfInBounds_toArray, List.set_cons_succ, List.set_cons_zero]
    refine h_take 1 (.int .u8 c) rfl (by kernel_rfl) (by kernel_rfl) (by kernel_rfl) rfl (fun w hw => x_move _ _ _ _ _ _ _ _ rfl w) trivial ?_
    simp only [Act.put, List.setIfInBounds_toArray, List.set_cons_succ, List.set_cons_zero]
    refine h_take 2 (.int .u8 ((c / 16 : Nat) : Int)) rfl (by kernel_rfl) (by kernel_rfl) (by kernel_rfl) rfl (fun w hw => x_shr4 _ _ _ _ _ _ _ c hc rfl rfl w) trivial ?_
    simp only [Act.put, List.setIfInBounds_toArray, List.set_cons_succ, List.set_cons_zero]
    refine h_take 3 (.int .u8 hx) rfl (by kernel_rfl) (by kernel_rfl) (by kernel_rfl) rfl (fun w hw => x_strIdx8 _ _ _ _ _ _ _ _ _ (c / 16) hx hhx rfl rfl w) trivial ?_
    simp only [Act.put, List.setIfInBounds_toArray, List.set_cons_succ, List.set_cons_zero]
    refine h_take 4 (.int .u8 c) rfl (by kernel_rfl) (by kernel_rfl) (by kernel_rfl) rfl (fun w hw => x_move _ _ _ _ _ _ _ _ rfl w) trivial ?_
    simp only [Act.put, List.setIfInBounds_toArray, List.set_cons_succ, List.set_cons_zero]
    refine h_take 5 (.int .u8 ((c % 16 : Nat) : Int)) rfl (by kernel_rfl) (by kernel_rfl) (by kernel_rfl) rfl (fun w hw => x_and15 _ _ _ _ _ _ _ c hc rfl rfl w) trivial ?_
    simp only [Act.put, List.setIfInBounds_toArray, List.set_cons_succ, List.set_cons_zero]
    refine h_take 6 (.int .u8 lx) rfl (by kernel_rfl) (by kernel_rfl) (by kernel_rfl) rfl (fun w hw => x_strIdx8 _ _ _ _ _ _ _ _ _ (c % 16) lx hlx rfl rfl w) trivial ?_
    simp only [Act.put, List.setIfInBounds_toArray, List.set_cons_succ, List.set_cons_zero]
    refine h_alloc 7 (.slice (some ⟨W.heap.size, 0, none⟩) 4 4) (W.alloc (.cells #[.int .u8 92, .int .u8 120, .int .u8 hx, .int .u8 lx] 5)) rfl (by kernel_rfl) rfl (x_build4 _ _ _ _ _ _ _ _ _ _ rfl rfl rfl rfl W) trivial ?_
    simp only [Act.put, List.setIfInBounds_toArray, List.set_cons_succ, List.set_cons_zero]
    refine h_oper 8 rfl (by kernel_rfl) rfl ?_
    refine wp_append_known _ _ _ rfl _ _ _ rfl rfl hr2 ⟨trivial, ?_⟩
    simp only [Act.put, List.setIfInBounds_toArray, List.set_cons_succ, List.set_cons_zero]
    refine h_take 9 (v2) rfl (by kernel_rfl) (by kernel_rfl) (by kernel_rfl) rfl (fun w hw => x_assign _ _ _ _ _ _ _ _ rfl w) trivial ?_
    simp only [Act.put, List.setIfInBounds_toArray, List.set_cons_succ, List.set_cons_zero]
    refine wpAnyH_done (by kernel_rfl) ?_ _
    refine NoPanic.normal ?_
    have HA := hide hA2
    obtain ⟨a1, cp1, rfl⟩ := hA2.slice
    clear hA2 hA1 hb2 hr2 hhx hlx
    go_wp2
    go_ret
    exact ⟨_, rfl, by rw [HE.out]; exact ⟨HA.out.own, HA.out.gb, HA.out.base⟩⟩
  | true =>
    have esg : bytesN ⟨#[32, 40, 41, 91, 93, 124, 38, 45, 42, 43, 63, 46, 92, 94, 47, 34, 35]⟩ = signsL ++ othersL := by decide +kernel
    have hix := indexByte_any ⟨#[32, 40, 41, 91, 93, 124, 38, 45, 42, 43, 63, 46, 92, 94, 47, 34, 35]⟩ c hc w1
    rw [esg] at hix
    obtain ⟨q, hq⟩ : ∃ q, q = (signsL ++ othersL).contains c := ⟨_, rfl⟩
    obtain ⟨z, hz⟩ : ∃ z, z = idxI (signsL ++ othersL) c := ⟨_, rfl⟩
    have hzq : decide (0 ≤ z) = q := by rw [hz, hq]; exact idxI_pos _ _
    rw [← hz] at hix
    rw [← hq, if_neg (by simp)] at HL3
    have HIX := hide hix
    clear hix hz hq esg HPL
    go_wp2_with fail
    refine HIX.out.mono ?_
    rintro e w2 ⟨rfl, rfl⟩
    clear HIX
    cases q with
    | true =>
      have HE : Hid (L = [] ++ [92, c]) := by show _ = _; rw [HL3.out, if_pos rfl]; rfl
      have hb2 := (Below.refl w2.heap.size w2).alloc (Nat.le_refl _) (.cells #[.int .u8 92, .int .u8 c] 5)
      obtain ⟨v2, W2, hr2, hA2⟩ := (HST.out.step hb2 (Nat.le_refl _)).app 61 w2.heap.size #[] [92, c] (Blk.newAt rfl _ _) (by simp) (by simp; omega)
      simp only [List.length_cons, List.length_nil, Nat.zero_add, Nat.reduceAdd] at hr2
      have HA := hide hA2
      obtain ⟨a1, cp1, rfl⟩ := hA2.slice
      clear hA2 hb2
      go_wp2_with (refine wpList_append_run rfl _ _ _ rfl _ _ _ rfl rfl hr2 ?_)
      go_ret
      exact ⟨_, rfl, by rw [HE.out]; exact HA.out⟩
    | false =>
      have HE : Hid (L = [] ++ [c]) := by show _ = _; rw [HL3.out, if_neg (by simp)]; rfl
      have hb2 := (Below.refl w2.heap.size w2).alloc (Nat.le_refl _) (.cells #[.int .u8 c] 5)
      obtain ⟨v2, W2, hr2, hA2⟩ := (HST.out.step hb2 (Nat.le_refl _)).app 61 w2.heap.size #[] [c] (Blk.newAt rfl _ _) (by simp) (by simp; omega)
      simp only [List.length_cons, List.length_nil, Nat.zero_add, Nat.reduceAdd] at hr2
      have HA := hide hA2
      obtain ⟨a1, cp1, rfl⟩ := hA2.slice
      clear hA2 hb2
      go_wp2_with (refine wpList_append_run rfl _ _ _ rfl _ _ _ rfl rfl hr2 ?_)
      go_ret
      exact ⟨_, rfl, by rw [HE.out]; exact HA.out⟩

/-- How closely what is written of an Op holds together. -/
def holdN (o : Nat) : Nat := if o = 4 then 0 else if o = 7 then 1 else if o = 6 then 2 else if o = 3 then 3 else if o = 5 then 4 else 5
def needN (o i : Nat) : Nat := if o = 7 ∧ i = 0 then holdN o else holdN o + 1
theorem hold_any (o : Nat) (w : World) : Calls Tryz.prog 76 #[.int .i64 o] w fun e w' => e = .returned (.int .i64 (holdN o)) ∧ w' = w := by
  go_enter Tryz.func76, Tryz.ntmps76
  by_cases h4 : o = 4
  · subst h4; go_wp2; go_ret; exact ⟨rfl, rfl⟩
  have k4 : ((o : Int) == 4) = false := beq_eq_false_iff_ne.2 (by omega)
  by_cases h7 : o = 7
  · subst h7; go_wp2; go_ret; exact ⟨rfl, rfl⟩
  have k7 : ((o : Int) == 7) = false := beq_eq_false_iff_ne.2 (by omega)
  by_cases h6 : o = 6
  · subst h6; go_wp2; go_ret; exact ⟨rfl, rfl⟩
  have k6 : ((o : Int) == 6) = false := beq_eq_false_iff_ne.2 (by omega)
  by_cases h3 : o = 3
  · subst h3; go_wp2; go_ret; exact ⟨rfl, rfl⟩
  have k3 : ((o : Int) == 3) = false := beq_eq_false_iff_ne.2 (by omega)
  by_cases h5 : o = 5
  · subst h5; go_wp2; go_ret; exact ⟨rfl, rfl⟩
  have k5 : ((o : Int) == 5) = false := beq_eq_false_iff_ne.2 (by omega)
  have HE : Hid (holdN o = 5) := by show _ = _; unfold holdN; rw [if_neg h4, if_neg h7, if_neg h6, if_neg h3, if_neg h5]
  clear h3 h4 h5 h6 h7
  go_wp2
  go_ret
  refine ⟨?_, rfl⟩
  rw [HE.out]; rfl
theorem holdN_le (o : Nat) : holdN o ≤ 5 := by unfold holdN; repeat' split
                                               all_goals omega
theorem need_any (o i : Nat) (w : World) : Calls Tryz.prog 77 #[.int .i64 o, .int .i64 i] w fun e w' => e = .returned (.int .i64 (needN o i)) ∧ w' = w := by
  obtain ⟨h, hh⟩ : ∃ h, h = holdN o := ⟨_, rfl⟩
  have hle : h ≤ 5 := by rw [hh]; exact holdN_le o
  have HO := hide (hold_any o w)
  rw [← hh] at HO
  by_cases h7 : o = 7
  · have k7 : ((o : Int) == 7) = true := by simp [h7]
    by_cases h0 : i = 0
    · have k0 : ((i : Int) == 0) = true := by simp [h0]
      have HE : Hid (needN o i = h) := by show _ = _; unfold needN; rw [if_pos ⟨h7, h0⟩, hh]
      clear hh h7 h0
      go_enter Tryz.func77, Tryz.ntmps77
      go_wp2_with fail
      refine HO.out.mono ?_
      rintro e w1 ⟨rfl, rfl⟩
      clear HO
      go_wp2
      go_ret
      refine ⟨?_, rfl⟩
      rw [HE.out]; rfl
    · have k0 : ((i : Int) == 0) = false := beq_eq_false_iff_ne.2 (by omega)
      have HE : Hid (needN o i = h + 1) := by show _ = _; unfold needN; rw [if_neg (fun x => h0 x.2), hh]
      clear hh h7 h0
      go_enter Tryz.func77, Tryz.ntmps77
      go_wp2_with fail
      refine HO.out.mono ?_
      rintro e w1 ⟨rfl, rfl⟩
      clear HO
      go_wp2
      go_ret
      refine ⟨?_, rfl⟩
      rw [HE.out]; rfl
  · have k7 : ((o : Int) == 7) = false := beq_eq_false_iff_ne.2 (by omega)
    have HE : Hid (needN o i = h + 1) := by show _ = _; unfold needN; rw [if_neg (fun x => h7 x.1), hh]
    clear hh h7
    go_enter Tryz.func77, Tryz.ntmps77
    go_wp2_with fail
    refine HO.out.mono ?_
    rintro e w1 ⟨rfl, rfl⟩
    clear HO
    go_wp2
    go_ret
    refine ⟨?_, rfl⟩
    rw [HE.out]; rfl
theorem opOf_any (b : Nat) (r : RE) (w : World) (h : ReAt w b r) : Calls Tryz.prog 58 #[PT b] w fun e w' => e = .returned (.int .i64 r.op) ∧ w' = w := by
  have c0 := h.cell0
  clear h
  unfold PT
  go_enter Tryz.func58, Tryz.ntmps58
  go_wp2
  go_ret
  exact ⟨rfl, rfl⟩
end Go.Proofs.YtkjmjppmpcnejaaGreatDoor
/- appendRuns of package text: a set's runs as they are written. -/
namespace Go.Proofs.YtkjmjppmpcnejaaGreatDoor
set_option maxRecDepth 100000
set_option linter.unusedSimpArgs false
set_option linter.unusedVariables false
open Go.RowKit Go.Shelf
attribute [local go_sem] Oper.semAt_some

/-- A run as it is written. -/
def runW (x : Nat × Nat) : List Nat := byteW x.1 ++ if x.1 < x.2 then 45 :: byteW x.2 else []
def runsW (l : List (Nat × Nat)) : List Nat := l.flatMap runW
theorem runsW_snoc (l : List (Nat × Nat)) (x : Nat × Nat) : runsW (l ++ [x]) = runsW l ++ runW x := by simp [runsW]
theorem runW_len (x : Nat × Nat) : (runW x).length ≤ 9 := by
  have h1 := (byteW_len x.1).2
  have h2 := (byteW_len x.2).2
  unfold runW
  rw [List.length_append]
  split <;> simp <;> omega
theorem runsW_len (l : List (Nat × Nat)) : (runsW l).length ≤ 9 * l.length := by
  induction l with
  | nil => simp [runsW]
  | cons x l ih =>
    have h := runW_len x
    have e : runsW (x :: l) = runW x ++ runsW l := by simp [runsW]
    rw [e, List.length_append, List.length_cons]
    omega
theorem runs_lt256 (s : BitVec 256) : ∀ x ∈ runsOf s, x.1 < 256 ∧ x.2 < 256 := fun x hx => by
  have h : ∀ y ∈ rnB (runsOf s), y < 256 := rnB_lt s
  exact ⟨h x.1 (List.mem_flatMap.2 ⟨x, hx, by simp⟩), h x.2 (List.mem_flatMap.2 ⟨x, hx, by simp⟩)⟩
/-- As GB, but for one block more. -/
structure GX (N : Nat) (w w' : World) (v v' : Value) : Prop where
  os : w'.os = w.os
  tape : w'.tape = w.tape
  output : w'.output = w.output
  size : w.heap.size ≤ w'.heap.size
  block : ∀ k, k < w.heap.size → some k ≠ v.ownBlock → k ≠ N → w'.heap[k]? = w.heap[k]?
  own : v'.ownBlock = v.ownBlock ∨ ∃ g, v'.ownBlock = some g ∧ w.heap.size ≤ g
  drawn : w.drawn ≤ w'.drawn
theorem GX.of {N : Nat} {w w' : World} {v v' : Value} (h : GB w w' v v') : GX N w w' v v' := ⟨h.grown.os, h.grown.tape, h.grown.output, h.grown.size, fun k hk hn _ => h.grown.block k hk hn, h.own, h.drawn⟩
theorem GX.set {N : Nat} (w : World) (v u : Value) : GX N w (w.setCell ⟨N, 0, none⟩ u) v v := ⟨rfl, rfl, rfl, by simp [World.setCell], fun k _ _ hk => Below.heap_setCell _ _ _ _ hk, .inl rfl, Nat.le_refl _⟩
theorem GX.step {N : Nat} {w w' : World} (v : Value) (h : Below w.heap.size w w') (hd : w.drawn ≤ w'.drawn) : GX N w w' v v := ⟨h.os, h.tape, h.output, h.size, fun k hk _ _ => h.block k hk, .inl rfl, hd⟩
theorem GX.trans {N : Nat} {w w1 w2 : World} {v v1 v2 : Value} (h : GX N w w1 v v1) (k : GX N w1 w2 v1 v2) : GX N w w2 v v2 := by
  refine ⟨k.os.trans h.os, k.tape.trans h.tape, k.output.trans h.output, Nat.le_trans h.size k.size, fun i hi hn hN => ?_, ?_, Nat.le_trans h.drawn k.drawn⟩
  · have hs := h.size
    rw [k.block i (by omega) ?_ hN, h.block i hi hn hN]
    intro e
    rcases h.own with h1 | ⟨g, h1, h2⟩
    · exact hn (e.trans h1)
    · rw [h1] at e; injection e; omega
  · have hs := h.size
    rcases k.own with h1 | ⟨g, h1, h2⟩
    · rcases h.own with h3 | ⟨g, h3, h4⟩
      · exact .inl (h1.trans h3)
      · exact .inr ⟨g, h1.trans h3, h4⟩
    · exact .inr ⟨g, h1, by omega⟩
/-- The row in its box N, and what was done since (W, v'). -/
structure BW (N base n : Nat) (xs : List Value) (l : List Nat) (W : World) (v' : Value) (V : Value) (X : World) : Prop where
  box : Blk X N #[V] 61
  own : OwnU X base V (n + l.length) (xs ++ byteV l)
  gx : GX N W X v' V
  ne : V.ownBlock ≠ some N
  base : base ≤ X.heap.size
theorem BW.ne' {N base n : Nat} {xs : List Value} {l : List Nat} {W X : World} {v' V V' : Value} (h : BW N base n xs l W v' V X) (k : V'.ownBlock = V.ownBlock ∨ ∃ g, V'.ownBlock = some g ∧ X.heap.size ≤ g) : V'.ownBlock ≠ some N := fun e => by
  rcases k with h1 | ⟨g, h1, h2⟩
  · exact h.ne (h1.symm.trans e)
  · rw [e] at h1; injection h1 with h1; have := h.box.lt; omega
/-- Something was written, and laid into the box. -/
theorem BW.put {N base n : Nat} {xs : List Value} {l m : List Nat} {W X Y : World} {v' V V' : Value} (h : BW N base n xs l W v' V X) (k : AW X base V (n + l.length) (xs ++ byteV l) m V' Y) : BW N base n xs (l ++ m) W v' V' (Y.setCell ⟨N, 0, none⟩ V') := by
  have hne := h.ne' k.gb.own
  have hb : Blk Y N #[V] 61 := (k.gb.grown.block N h.box.lt (fun e => h.ne e.symm)).trans h.box
  refine ⟨hb.set 0 V', ?_, (h.gx.trans (GX.of k.gb)).trans (GX.set _ _ _), hne, by simpa [World.setCell] using k.base⟩
  have := k.own
  rw [byteV_append, List.length_append, ← List.append_assoc, ← Nat.add_assoc]
  exact this.keep fun g hg => Below.heap_setCell _ _ _ _ (fun e => hne (by rw [hg]; exact congrArg some e))

set_option maxHeartbeats 2000000 in
theorem textRuns_in (s : BitVec 256) (v : Value) (n base : Nat) (xs : List Value) (w : World) (hv : OwnU w base v n xs) (hn : n ≤ 1000000000000) (hG : 1 < base) (hbase : base ≤ w.heap.size) (hT : TabAt w) :
    CallsIn Fence.wide 0 Tryz.prog 75 #[v, SV s] w fun e w' => ∃ V, e = .returned V ∧ AW w base v n xs (runsW (runsOf s)) V w' := by
  obtain ⟨ad, ln, cap, rfl⟩ : ∃ ad ln cap, v = .slice ad ln cap := by
    rcases hv.2 with ⟨rfl, -⟩ | ⟨g, cap, cur, t, rfl, -⟩ <;> exact ⟨_, _, _, rfl⟩
  refine callsIn_of_wp_marks Tryz.func75 rfl trivial ?_ rfl
  simp only [Tryz.ntmps75, List.size_toArray, List.length_nil, List.length_cons, Nat.reduceSub, Nat.reduceAdd, Array.replicate_succ, Array.replicate_zero, List.push_toArray, List.append_toArray, List.nil_append, List.cons_append]
  gi_wp2_with fail
  refine ⟨trivial, rfl, ?_⟩
  refine (callsIn_wide.2 (runs_any s _)).mono ?_
  rintro e w5 ⟨rfl, rfl⟩
  gi_wp2
  refine wpIn_world (fun W => Blk W w.heap.size #[.slice ad ln cap] 61 ∧ Blk W (w.heap.size + 1) (WS s) 42 ∧ Blk W (w.heap.size + 2) (WS s) 42 ∧ Below w.heap.size w W ∧ w.drawn ≤ W.drawn) ⟨?_, ?_, ?_, ?_, ?_⟩ ?_
  · exact ((Blk.newAt rfl _ _).alloc _).alloc _
  · exact (Blk.newAt (by simp) _ _).alloc _
  · exact Blk.newAt (by simp) _ _
  · exact (((Below.refl _ _).alloc (Nat.le_refl _) _).alloc (by simp) _).alloc (by simp; omega) _
  · exact Nat.le_refl _
  rintro W0 ⟨k0, k1, k2, hbel, hdw⟩
  have hT0 : TabAt W0 := hT.agree (Agree.of_all (K := fun _ => True) hbel) trivial
  have HT := hide hT0
  have HB := hide hbel
  have zk := k2.lt
  have hv0 : OwnU W0 base (.slice ad ln cap) n xs := hv.keep fun g hg => hbel.block g (hv.own_lt hg).2
  have hvo : ∀ g, (Value.slice ad ln cap).ownBlock = some g → base ≤ g ∧ g < w.heap.size := fun g hg => hv.own_lt hg
  have hr256 := runs_le s
  have hrw := runsW_len (runsOf s)
  have hrl : ∀ x ∈ runsOf s, x.1 < 256 ∧ x.2 < 256 := fun x hx => runs_lt256 s x hx
  clear hT hT0 hbel hv
  generalize hN : w.heap.size = N at *
  refine wpIn_rangeM (gf := 105) (lb := #[.pointer (some ⟨N + 1 + 1, 0, none⟩)]) rfl enters_runs (encs := fun x : Nat × Nat => #[.int .u8 x.1, .int .u8 x.2]) (xs := runsOf s)
    (own := fun k => k = N + 2 ∨ k = 1)
    (fun W1 hb => runs1_any s _ W1 (k2.below hb zk) (HT.out.agree (Agree.of_all (K := fun _ => True) hb) trivial)) (fun _ => rfl)
    (fun pre M W => M N ∧ ∃ v', Blk W N #[v'] 61 ∧ OwnU W base v' (n + (runsW pre).length) (xs ++ byteV (runsW pre)) ∧ (∀ g, v'.ownBlock = some g → M g) ∧ (v'.ownBlock = (Value.slice ad ln cap).ownBlock ∨ ∃ g, v'.ownBlock = some g ∧ N < g))
    (fun _ _ _ _ => False)
    (fun _ M A B h ha => ⟨h.1, h.2.choose, h.2.choose_spec.1.agree ha h.1, h.2.choose_spec.2.1.keep (fun g hg => ha.block g (h.2.choose_spec.2.1.own_lt hg).2 (h.2.choose_spec.2.2.1 g hg)), h.2.choose_spec.2.2⟩)
    (fun _ _ M A B h ha => h)
    (fun k => k = N ∨ (Value.slice ad ln cap).ownBlock = some k) (fun k hk => by rcases hk with rfl | hk; exact k0.lt; have := hvo k hk; omega)
    (fun k hk => by
      rcases hk with rfl | rfl
      · exact ⟨fun h => by rcases h with h | h; omega; have := hvo _ h; omega, zk⟩
      · exact ⟨fun h => by rcases h with h | h; omega; have := hvo _ h; omega, by omega⟩)
    ⟨.inl rfl, _, k0, by simpa [byteV, runsW] using hv0, fun g hg => .inr hg, .inl rfl⟩
    (fun x => { tmps := #[.slice ad ln cap, SV s, .pointer (some ⟨N, 0, none⟩), .pointer (some ⟨N + 1, 0, none⟩), .slice none 0 0, .int .u8 x.1, .int .u8 x.2, SV s, .func (.func 105) #[] #[.pointer (some ⟨N + 1 + 1, 0, none⟩)],
        .int .u8 x.1, .int .u8 x.2, undef, undef, undef, undef, undef, undef, undef, undef, undef, undef, undef, undef], defers := [] }) ?assign ?body ?done ?stop
  case assign =>
    intro l x W K hK
    gi_wp2
    exact hK
  case body =>
    rintro l pre x M W hpre ⟨m1, v', b1, ho, hom, hor⟩ hM
    have hxm : x ∈ runsOf s := hpre.subset (by simp)
    obtain ⟨hx1, hx2⟩ := hrl x hxm
    have hpl : pre.length < (runsOf s).length := by have := hpre.length_le; simp at this; omega
    have hpw := runsW_len pre
    have hne : v'.ownBlock ≠ some N := fun e => by
      rcases hor with h | ⟨g, h, hg⟩
      · have := hvo N (h.symm.trans e); omega
      · rw [e] at h; injection h; omega
    obtain ⟨ad', ln', cap', rfl⟩ : ∃ ad ln cap, v' = .slice ad ln cap := by
      rcases ho.2 with ⟨rfl, -⟩ | ⟨g, cap, cur, t, rfl, -⟩ <;> exact ⟨_, _, _, rfl⟩
    obtain ⟨n1, hn1⟩ : ∃ n1, n1 = n + (runsW pre).length := ⟨_, rfl⟩
    obtain ⟨xs1, hxs1⟩ : ∃ xs1, xs1 = xs ++ byteV (runsW pre) := ⟨_, rfl⟩
    have hbW : base ≤ W.heap.size := by have := b1.lt; omega
    have hB0 : BW N base n1 xs1 [] W (.slice ad' ln' cap') (.slice ad' ln' cap') W := ⟨b1, by rw [hn1, hxs1]; simpa [byteV] using ho, ⟨rfl, rfl, rfl, Nat.le_refl _, fun _ _ _ _ => rfl, .inl rfl, Nat.le_refl _⟩, hne, hbW⟩
    have e1 := b1.cell 0
    simp only [List.getElem?_toArray, List.getElem?_cons_zero] at e1
    have hn1b : n1 ≤ 1000000003000 := by omega
    have hab := appendByte_any x.1 hx1 (.slice ad' ln' cap') n1 base xs1 W (by rw [hn1, hxs1]; exact ho) hbW (by omega)
    have HAB := hide hab
    have HB0 := hide hB0
    have HNE := hide hN
    -- at the end of a round
    have HEND : Hid (∀ V X, BW N base n1 xs1 (runW x) W (.slice ad' ln' cap') V X → ∃ M', Foot M M' W X ∧ M' N ∧ ∃ v', Blk X N #[v'] 61 ∧ OwnU X base v' (n + (runsW (pre ++ [x])).length) (xs ++ byteV (runsW (pre ++ [x]))) ∧ (∀ g, v'.ownBlock = some g → M' g) ∧ (v'.ownBlock = (Value.slice ad ln cap).ownBlock ∨ ∃ g, v'.ownBlock = some g ∧ N < g)) := fun V X hX => by
      have hNW := b1.lt
      refine ⟨fun k => M k ∨ V.ownBlock = some k, ⟨fun k hk => ?_, ?_⟩, .inl m1, V, hX.box, ?_, fun g hg => .inr hg, ?_⟩
      · rcases hk with hk | hk
        · exact ⟨.inl hk, by have := hM k hk; have := hX.gx.size; omega⟩
        · refine ⟨?_, (hX.own.own_lt hk).2⟩
          rcases hX.gx.own with h | ⟨g, h, h2⟩
          · exact .inl (hom k (h.symm.trans hk))
          · rw [h] at hk; injection hk with hk; exact .inr (by omega)
      · exact ⟨hX.gx.os, hX.gx.tape, hX.gx.output, hX.gx.size, fun k hk hn => hX.gx.block k hk (fun e => hn (hom k e.symm)) (fun e => hn (e ▸ m1)), hX.gx.drawn⟩
      · have := hX.own
        rw [hn1, hxs1] at this
        rw [runsW_snoc, byteV_append, List.length_append, ← List.append_assoc, ← Nat.add_assoc]
        exact this
      · rcases hX.gx.own with h | ⟨g, h, h2⟩
        · rw [h]; exact hor
        · exact .inr ⟨g, h, by omega⟩
    clear hab hB0 ho hN hn1 hxs1 hom hor hM hpre hxm hrl
    gi_wp2_with fail
    refine ⟨trivial, rfl, ?_⟩
    refine (callsIn_wide.2 HAB.out).mono ?_
    rintro e W1 ⟨V1, rfl, hA1⟩
    have hP1 := HB0.out.put (l := []) (by simpa [byteV] using hA1)
    obtain ⟨a1, c1, rfl⟩ := hA1.slice
    have HP1 := hide hP1
    have hb1 : Blk W1 N #[.slice ad' ln' cap'] 61 := (hA1.gb.grown.block N b1.lt (fun e => hne e.symm)).trans b1
    have e2 := hb1.cell 0
    have f2 := hb1.frozen 0
    simp only [List.getElem?_toArray, List.getElem?_cons_zero] at e2
    obtain ⟨W2, hW2⟩ : ∃ W2, W2 = W1.setCell ⟨N, 0, none⟩ (.slice a1 (n1 + (byteW x.1).length) c1) := ⟨_, rfl⟩
    have ew2 : W1.setCell ⟨N, 0, none⟩ (.slice a1 (n1 + (byteW x.1).length) c1) = W2 := hW2.symm
    rw [← hW2] at HP1
    have e3 := HP1.out.box.cell 0
    simp only [List.getElem?_toArray, List.getElem?_cons_zero] at e3
    clear hA1 hP1 hb1 HAB hW2 e1
    by_cases hlt : x.1 < x.2
    · have hd1 : decide ((x.1 : Int) < x.2) = true := by simp; omega
      have hd2 : decide (x.1 < x.2) = true := by simp [hlt]
      have hbl := (byteW_len x.1).2
      have hb3 := (Below.refl W2.heap.size W2).alloc (Nat.le_refl _) (.cells #[.int .u8 45] 5)
      have hst : AW W2 base (.slice a1 (n1 + (byteW x.1).length) c1) (n1 + ([] ++ byteW x.1).length) (xs1 ++ byteV ([] ++ byteW x.1)) [] (.slice a1 (n1 + (byteW x.1).length) c1) W2 := AW.start HP1.out.own HP1.out.base
      obtain ⟨V3, W3, hr3, hA3⟩ := (hst.step hb3 (Nat.le_refl _)).app 61 W2.heap.size #[] [45] (Blk.newAt rfl _ _) (by simp) (by simp; omega)
      simp only [List.length_cons, List.length_nil, Nat.zero_add] at hr3
      have hab := appendByte_any x.2 hx2 V3 _ base _ W3 hA3.own hA3.base (by simp; omega)
      obtain ⟨a3, c3, rfl⟩ := hA3.slice
      have HAB := hide hab
      have HA3 := hide hA3
      have HRW : Hid (runW x = [] ++ byteW x.1 ++ ([] ++ [45] ++ byteW x.2)) := by show _ = _; unfold runW; rw [if_pos hlt]; simp
      clear hb3 hst hab hA3 hlt
      gi_wp2_with (refine wpListIn_append_run rfl _ _ _ rfl _ _ _ rfl rfl hr3 ?_)
      refine ⟨trivial, rfl, ?_⟩
      refine (callsIn_wide.2 HAB.out).mono ?_
      rintro e W4 ⟨V4, rfl, hA4⟩
      have hA5 := HA3.out.more hA4
      have hP5 := HP1.out.put hA5
      obtain ⟨a4, c4, rfl⟩ := hA4.slice
      rw [← HRW.out] at hP5
      have HP5 := hide hP5
      have hb4 : Blk W4 N #[.slice a1 (n1 + (byteW x.1).length) c1] 61 := (hA5.gb.grown.block N HP1.out.box.lt (fun e => HP1.out.ne e.symm)).trans HP1.out.box
      have e4 := hb4.cell 0
      have f4 := hb4.frozen 0
      simp only [List.getElem?_toArray, List.getElem?_cons_zero] at e4
      clear hA4 hA5 hP5 hb4 HAB HA3 e3
      gi_wp2
      exact HEND.out _ _ HP5.out
    · have hd1 : decide ((x.1 : Int) < x.2) = false := by simp; omega
      have hd2 : decide (x.1 < x.2) = false := by simp; omega
      have HRW : Hid (runW x = [] ++ byteW x.1) := by show _ = _; unfold runW; rw [if_neg hlt]; simp
      rw [← HRW.out] at HP1
      clear hlt
      gi_wp2
      exact HEND.out _ _ HP1.out
  case done =>
    rintro D M' W ⟨m1, v', b1, ho, hom, hor⟩ hF hD hK hn
    have e1 := b1.cell 0
    simp only [List.getElem?_toArray, List.getElem?_cons_zero] at e1
    obtain ⟨ad', ln', cap', rfl⟩ : ∃ ad ln cap, v' = .slice ad ln cap := by
      rcases ho.2 with ⟨rfl, -⟩ | ⟨g, cap, cur, t, rfl, -⟩ <;> exact ⟨_, _, _, rfl⟩
    have HF := hide hF
    have HK := hide hK
    have HO := hide ho
    have HNE := hide hN
    clear hF hK ho hN
    gi_wp2
    refine leave_mark HK.out (results_tmp rfl _ _ _) ⟨_, rfl, ?_, ⟨?_, ?_, Nat.le_trans hdw HF.out.agree.drawn⟩, ?_⟩
    · refine HO.out.keep fun g hg => World.putObj_heap_other ?_
      rintro rfl
      exact hn (hom _ hg)
    · have hb : Below N w W0 := HB.out
      refine ⟨HF.out.agree.os.trans hb.os, HF.out.agree.tape.trans hb.tape, HF.out.agree.output.trans hb.output, ?_, fun k hk hne => ?_⟩
      · rw [World.putObj_size]; exact Nat.le_trans hb.size HF.out.agree.size
      · have hk' : k < N := by rw [← HNE.out]; exact hk
        rw [World.putObj_heap_other (by omega), HF.out.agree.block k (by omega) (fun h => by rcases h with h | h; omega; exact hne h.symm), hb.block k hk']
    · rcases hor with h | ⟨g, h, hg⟩
      · exact .inl h
      · exact .inr ⟨g, h, by rw [HNE.out]; omega⟩
    · have := b1.lt
      rw [World.putObj_size]; omega
  case stop =>
    rintro D c pre M' W hp h
    exact h.elim
theorem textRuns_any (s : BitVec 256) (v : Value) (n base : Nat) (xs : List Value) (w : World) (hv : OwnU w base v n xs) (hn : n ≤ 1000000000000) (hG : 1 < base) (hbase : base ≤ w.heap.size) (hT : TabAt w) :
    Calls Tryz.prog 75 #[v, SV s] w fun e w' => ∃ V, e = .returned V ∧ AW w base v n xs (runsW (runsOf s)) V w' := callsIn_wide.1 (textRuns_in s v n base xs w hv hn hG hbase hT)
end Go.Proofs.YtkjmjppmpcnejaaGreatDoor
/- appendClass: a set as it is written. -/
namespace Go.Proofs.YtkjmjppmpcnejaaGreatDoor
set_option maxRecDepth 100000
set_option linter.unusedSimpArgs false
set_option linter.unusedVariables false
open Go.RowKit Go.Shelf

/-- A set as it is written. -/
def classW (s : BitVec 256) : List Nat :=
  if card s = 1 then runsW (runsOf s) else if card s = 256 then [46] else if 128 < card s then [91, 94] ++ runsW (runsOf (~~~s)) ++ [93] else [91] ++ runsW (runsOf s) ++ [93]

section
variable {ops : Array Oper} {Q : Exit → Act → World → Prop} {a : Act} {w : World} {oi : Oper} {rest : List Oper} {K : Act → World → Prop}
theorem op_val {i : Nat} {v : Value} {w' : World} (hi : ops.toList.drop i = oi :: rest) (hw : Region.wanted oi (yielded ops a.tmps) = true) (hv : (execOp a.eval oi).run Tryz.prog w = .ok (.value v) w') (hK : K (a.put oi.dst v) w') : wpOp Tryz.prog ops Q i K a w := by
  unfold wpOp
  simp only [at_drop hi, hw, if_true]
  refine .inl ?_
  unfold Oper.wp
  rw [hv, Oper.upon_value]; exact hK
theorem op_wp {i : Nat} (hi : ops.toList.drop i = oi :: rest) (hw : Region.wanted oi (yielded ops a.tmps) = true) (h : oi.wp Tryz.prog a w K Q) : wpOp Tryz.prog ops Q i K a w := by
  unfold wpOp
  simp only [at_drop hi, hw, if_true]
  exact .inl h
theorem op_ent {i : Nat} {f : FuncId} {vs : Array Value} (hi : ops.toList.drop i = oi :: rest) (hw : Region.wanted oi (yielded ops a.tmps) = true) (hv : (execOp a.eval oi).run Tryz.prog w = .ok (.enter f vs) w) (hc : Calls Tryz.prog f vs w fun e w' => ∃ v, e = .returned v ∧ K (a.put oi.dst v) w') : wpOp Tryz.prog ops Q i K a w := by
  unfold wpOp
  simp only [at_drop hi, hw, if_true]
  refine .inl ?_
  unfold Oper.wp
  rw [hv, Oper.upon_enter]
  refine hc.mono ?_
  rintro e w' ⟨v, rfl, h⟩
  exact h
end
theorem x_buildC (ρ : Operand → Value) (d : Option Tmp) (t : TypeId) (pos : String) (af : Array Edge) (g : Option (Nat × Bool)) (c : Nat) (hx : ρ (.const (.int .u8 c)) = .int .u8 c) (w : World) :
    (execOp ρ { dst := d, op := .buildSlice 61 1 #[(0, .const (.int .u8 c))], type := t, pos := pos, after := af, guard := g }).run Tryz.prog w = .ok (.value (.slice (some ⟨w.heap.size, 0, none⟩) 1 1)) (w.alloc (.cells #[.int .u8 c] 5)) := by
  simp [go_sem, hx]

/-- The row, the set in its box B, bytes that were laid. -/
structure CW (w : World) (base : Nat) (v : Value) (n : Nat) (xs : List Value) (B : Nat) (s : BitVec 256) (l : List Nat) (V : Value) (ls : List (Nat × Nat)) (W : World) : Prop where
  aw : AW w base v n xs l V W
  box : Blk W B (WS s) 42
  ne : V.ownBlock ≠ some B
  lit : ∀ x ∈ ls, Blk W x.2 #[.int .u8 x.1] 5 ∧ V.ownBlock ≠ some x.2
  tab : TabAt W
  low : 1 < base
section
variable {w W W' : World} {base n B : Nat} {v V V' : Value} {xs : List Value} {s : BitVec 256} {l m : List Nat} {ls : List (Nat × Nat)}
theorem CW.step (h : CW w base v n xs B s l V ls W) (hb : Below W.heap.size W W') (hd : W.drawn ≤ W'.drawn) : CW w base v n xs B s l V ls W' :=
  ⟨h.aw.step hb hd, h.box.below hb h.box.lt, h.ne, fun x hx => ⟨(h.lit x hx).1.below hb (h.lit x hx).1.lt, (h.lit x hx).2⟩, h.tab.agree (Agree.of_all (K := fun _ => True) hb) trivial, h.low⟩
theorem CW.lay (h : CW w base v n xs B s l V ls W) (c : Nat) : CW w base v n xs B s l V ((c, W.heap.size) :: ls) (W.alloc (.cells #[.int .u8 c] 5)) := by
  have h2 := h.step ((Below.refl W.heap.size W).alloc (Nat.le_refl _) (.cells #[.int .u8 c] 5)) (Nat.le_refl _)
  refine ⟨h2.aw, h2.box, h2.ne, fun x hx => ?_, h2.tab, h2.low⟩
  rcases List.mem_cons.1 hx with rfl | hx
  · exact ⟨Blk.newAt rfl _ _, fun e => by have := (h.aw.own.own_lt e).2; simp at this⟩
  · exact h2.lit x hx
theorem CW.more (h : CW w base v n xs B s l V ls W) (k : AW W base V (n + l.length) (xs ++ byteV l) m V' W') : CW w base v n xs B s (l ++ m) V' ls W' := by
  have hne : ∀ g, g < W.heap.size → V.ownBlock ≠ some g → V'.ownBlock ≠ some g := fun g hg hn e => by
    rcases k.gb.own with h1 | ⟨g', h1, h2⟩
    · exact hn (h1.symm.trans e)
    · rw [e] at h1; injection h1 with h1; omega
  refine ⟨h.aw.more k, (k.gb.grown.block B h.box.lt (fun e => h.ne e.symm)).trans h.box, hne B h.box.lt h.ne, fun x hx => ?_, ?_, h.low⟩
  · obtain ⟨h1, h2⟩ := h.lit x hx
    exact ⟨(k.gb.grown.block x.2 h1.lt (fun e => h2 e.symm)).trans h1, hne x.2 h1.lt h2⟩
  · intro j hj
    have hc := h.tab j hj
    rw [← hc]
    refine World.cell?_of_block (w := W) (k.gb.grown.block _ (World.block_lt_of_cell? _ _ hc) fun e => ?_)
    have := (h.aw.own.own_lt e.symm).1
    have := h.low
    simp at *; omega
theorem CW.app (h : CW w base v n xs B s l V ls W) (c g : Nat) (hm : (c, g) ∈ ls) (hl : n + l.length + 1 ≤ 140737488355328) :
    ∃ V' W', (Builtin.append_ #[61, 61] 61 #[V, .slice (some ⟨g, 0, none⟩) 1 1]).run Tryz.prog W = .ok V' W' ∧ CW w base v n xs B s (l ++ [c]) V' ls W' := by
  have hst : AW W base V (n + l.length) (xs ++ byteV l) [] V W := AW.start h.aw.own h.aw.base
  obtain ⟨V', W', hr, hA⟩ := hst.app 61 g #[] [c] (h.lit _ hm).1 (by simp) (by simp; omega)
  exact ⟨V', W', hr, h.more hA⟩
theorem CW.appS (h : CW w base v n xs B s l V ls W) (t : ByteArray) (m : List Nat) (hm : bytesN t = m) (h0 : 0 < m.length) (hl : n + l.length + m.length ≤ 140737488355328) :
    ∃ V' W', (Builtin.append_ #[61, 9] 61 #[V, .string t]).run Tryz.prog W = .ok V' W' ∧ CW w base v n xs B s (l ++ m) V' ls W' := by
  have hst : AW W base V (n + l.length) (xs ++ byteV l) [] V W := AW.start h.aw.own h.aw.base
  obtain ⟨V', W', hr, hA⟩ := hst.appS 61 t m hm h0 (by simp; omega)
  exact ⟨V', W', hr, h.more hA⟩
end
set_option maxHeartbeats 400000 in
theorem notD_any (s : BitVec 256) (w : World) :
    Calls Tryz.prog 22 #[SV s] w fun e w' => e = .returned (SV (~~~s)) ∧ Below w.heap.size w w' ∧ w.drawn ≤ w'.drawn := by
  go_enter Tryz.func22, Tryz.ntmps22
  go_wp2
  refine wp_loop_rounds 5 ?_
  rw [rounds_succ]; go_wp2
  rw [rounds_succ]; go_wp2
  rw [rounds_succ]; go_wp2
  rw [rounds_succ]; go_wp2
  rw [rounds_succ]; go_wp2
  simp only [bits_not_wd s 0 (by omega), bits_not_wd s 1 (by omega), bits_not_wd s 2 (by omega), bits_not_wd s 3 (by omega)]
  exact bodyPost_ret (v := SV (~~~s)) (by simp [results, Tryz.results22, go_sem]) rfl ⟨rfl, ((Below.refl _ _).alloc (Nat.le_refl _) _).alloc (by simp) _, Nat.le_refl _⟩

set_option maxHeartbeats 400000 in
theorem lenD_any (s : BitVec 256) (w : World) :
    Calls Tryz.prog 74 #[SV s] w fun e w' => e = .returned (.int .i64 (card s)) ∧ Below w.heap.size w w' ∧ w.drawn ≤ w'.drawn := by
  obtain ⟨n0, h0⟩ : ∃ n, n = ds 2 64 (wd s 0) := ⟨_, rfl⟩
  obtain ⟨n1, h1⟩ : ∃ n, n = ds 2 64 (wd s 1) := ⟨_, rfl⟩
  obtain ⟨n2, h2⟩ : ∃ n, n = ds 2 64 (wd s 2) := ⟨_, rfl⟩
  obtain ⟨n3, h3⟩ : ∃ n, n = ds 2 64 (wd s 3) := ⟨_, rfl⟩
  have b0 : n0 ≤ 64 := by rw [h0]; exact ds2_le _ _
  have b1 : n1 ≤ 64 := by rw [h1]; exact ds2_le _ _
  have b2 : n2 ≤ 64 := by rw [h2]; exact ds2_le _ _
  have b3 : n3 ≤ 64 := by rw [h3]; exact ds2_le _ _
  have c0 := ones_any (wd s 0) (wd_lt s 0)
  have c1 := ones_any (wd s 1) (wd_lt s 1)
  have c2 := ones_any (wd s 2) (wd_lt s 2)
  have c3 := ones_any (wd s 3) (wd_lt s 3)
  have hsum : Hid (card s = n0 + n1 + n2 + n3) := by rw [h0, h1, h2, h3]; rfl
  rw [← h0] at c0; rw [← h1] at c1; rw [← h2] at c2; rw [← h3] at c3
  clear h0 h1 h2 h3
  have C0 : Hid (∀ (w : World), Calls Tryz.prog 89 #[.int .u64 (wd s 0)] w fun e w' => e = .returned (.int .i64 n0) ∧ w' = w) := c0
  have C1 : Hid (∀ (w : World), Calls Tryz.prog 89 #[.int .u64 (wd s 1)] w fun e w' => e = .returned (.int .i64 n1) ∧ w' = w) := c1
  have C2 : Hid (∀ (w : World), Calls Tryz.prog 89 #[.int .u64 (wd s 2)] w fun e w' => e = .returned (.int .i64 n2) ∧ w' = w) := c2
  have C3 : Hid (∀ (w : World), Calls Tryz.prog 89 #[.int .u64 (wd s 3)] w fun e w' => e = .returned (.int .i64 n3) ∧ w' = w) := c3
  clear c0 c1 c2 c3
  have i0 := idx4 (wd s 0) (wd s 1) (wd s 2) (wd s 3) 0 (by omega)
  have i1 := idx4 (wd s 0) (wd s 1) (wd s 2) (wd s 3) 1 (by omega)
  have i2 := idx4 (wd s 0) (wd s 1) (wd s 2) (wd s 3) 2 (by omega)
  have i3 := idx4 (wd s 0) (wd s 1) (wd s 2) (wd s 3) 3 (by omega)
  simp only [List.getD_cons_zero, List.getD_cons_succ, Int.cast_ofNat_Int] at i0 i1 i2 i3
  go_enter Tryz.func74, Tryz.ntmps74
  go_wp2
  refine wp_loop_rounds 5 ?_
  rw [rounds_succ]; go_wp2_with fail; refine (C0.out _).mono ?_; rintro e w1 ⟨rfl, rfl⟩; go_wp2
  rw [rounds_succ]; go_wp2_with fail; refine (C1.out _).mono ?_; rintro e w1 ⟨rfl, rfl⟩; go_wp2
  rw [rounds_succ]; go_wp2_with fail; refine (C2.out _).mono ?_; rintro e w1 ⟨rfl, rfl⟩; go_wp2
  rw [rounds_succ]; go_wp2_with fail; refine (C3.out _).mono ?_; rintro e w1 ⟨rfl, rfl⟩; go_wp2
  rw [rounds_succ]; go_wp2
  go_ret
  exact ⟨ret_int (by have := hsum.out; omega), (Below.refl _ _).alloc (Nat.le_refl _) _, Nat.le_refl _⟩

set_option maxHeartbeats 4000000 in
theorem appendClass_any (s : BitVec 256) (v : Value) (n base : Nat) (xs : List Value) (w : World) (hv : OwnU w base v n xs) (hn : n ≤ 900000000000) (hG : 1 < base) (hbase : base ≤ w.heap.size) (hT : TabAt w) :
    Calls Tryz.prog 59 #[v, SV s] w fun e w' => ∃ V, e = .returned V ∧ AW w base v n xs (classW s) V w' := by
  obtain ⟨a0, cp0, rfl⟩ := hv.slice
  obtain ⟨L, hL⟩ : ∃ L, L = classW s := ⟨_, rfl⟩
  rw [← hL]
  obtain ⟨B, hB⟩ : ∃ B, B = w.heap.size := ⟨_, rfl⟩
  have hb0 := (Below.refl w.heap.size w).alloc (Nat.le_refl _) (.cells (WS s) 42)
  have hC0 : CW w base (.slice a0 n cp0) n xs B s [] (.slice a0 n cp0) [] (w.alloc (.cells (WS s) 42)) :=
    ⟨(AW.start hv hbase).step hb0 (Nat.le_refl _), Blk.newAt hB _ _, fun e => by have := (hv.own_lt e).2; omega, fun x hx => by simp at hx, hT.agree (Agree.of_all (K := fun _ => True) hb0) trivial, hG⟩
  have hln := lenD_any s (w.alloc (.cells (WS s) 42))
  have HC0 := hide hC0
  have HLN := hide hln
  have HBB := hide hB
  have HLL := hide hL
  have hr1 := runs_le s
  have hr2 := runs_le (~~~s)
  have hw1 := runsW_len (runsOf s)
  have hw2 := runsW_len (runsOf (~~~s))
  obtain ⟨cd, hcd⟩ : ∃ cd, cd = card s := ⟨_, rfl⟩
  rw [← hcd] at HLN
  clear hL hb0 hC0 hln hv hT
  unfold SV at HLN ⊢
  unfold WS at HLN HC0
  go_enter Tryz.func59, Tryz.ntmps59
  go_wp2_with fail
  rw [← hB]
  clear hB
  refine HLN.out.mono ?_
  rintro e w1 ⟨rfl, hb1, hd1⟩
  have HC1 := hide (HC0.out.step hb1 hd1)
  have hbx := HC1.out.box
  have b0 := hbx.cell 0; have b1 := hbx.cell 1; have b2 := hbx.cell 2; have b3 := hbx.cell 3
  simp only [WS, List.getElem?_toArray, List.getElem?_cons_zero, List.getElem?_cons_succ] at b0 b1 b2 b3
  clear hb1 hd1 HLN HC0 hbx
  by_cases h1 : cd = 1
  · have k1 : ((cd : Int) == 1) = true := by simp [h1]
    have HE : Hid (L = [] ++ runsW (runsOf s)) := by show _ = _; rw [HLL.out]; unfold classW; rw [← hcd, if_pos h1]; rfl
    have hab := textRuns_any s (.slice a0 n cp0) n base xs w1 (by simpa [byteV] using HC1.out.aw.own) (by omega) hG HC1.out.aw.base HC1.out.tab
    have HAB := hide hab
    clear hab h1 hcd
    unfold SV at HAB
    go_wp2_with fail
    refine HAB.out.mono ?_
    rintro e w2 ⟨V, rfl, hA⟩
    have HC2 := hide (HC1.out.more (l := []) (by simpa [byteV] using hA))
    obtain ⟨a1, c1, rfl⟩ := hA.slice
    clear hA HAB b0 b1 b2 b3
    go_wp2
    go_ret
    exact ⟨_, rfl, by rw [HE.out]; exact HC2.out.aw⟩
  have k1 : ((cd : Int) == 1) = false := beq_eq_false_iff_ne.2 (by omega)
  by_cases h2 : cd = 256
  · have k2 : ((cd : Int) == 256) = true := by simp [h2]
    have HE : Hid (L = [] ++ [46]) := by show _ = _; rw [HLL.out]; unfold classW; rw [← hcd, if_neg h1, if_pos h2]; rfl
    obtain ⟨V, W, hr, hC2⟩ := (HC1.out.lay 46).app 46 w1.heap.size (by simp) (by simp; omega)
    have HC2 := hide hC2
    obtain ⟨a1, c1, rfl⟩ := hC2.aw.slice
    clear hC2 h1 hcd b0 b1 b2 b3
    go_wp2_with (refine wpList_append_run rfl _ _ _ rfl _ _ _ rfl rfl hr ?_)
    go_ret
    exact ⟨_, rfl, by rw [HE.out]; exact HC2.out.aw⟩
  have k2 : ((cd : Int) == 256) = false := beq_eq_false_iff_ne.2 (by omega)
  by_cases h3 : 128 < cd
  · have k3 : decide ((128 : Int) < cd) = true := by simp; omega
    have k4 : decide (128 < cd) = true := by simp [h3]
    have HE : Hid (L = [] ++ [91, 94] ++ runsW (runsOf (~~~s)) ++ [93]) := by show _ = _; rw [HLL.out]; unfold classW; rw [← hcd, if_neg h1, if_neg h2, if_pos h3]; rfl
    have HLEN : Hid ((runsW (runsOf (~~~s))).length ≤ 2304) := by show _ ≤ _; omega
    clear h1 h2 h3 hcd b0 b1 b2 b3
    go_wp2
    have c0 := HC1.out.step (⟨rfl, rfl, rfl, Nat.le_refl _, fun _ _ => rfl⟩ : Below w1.heap.size w1 { w1 with drawn := w1.drawn + 1 }) (Nat.le_succ _)
    refine wp_region_noPanic (wp_region_held (S := fun W => Blk W B (WS s) 42) (by kernel_rfl) ?_)
    show wpAnyH _ _ _ _ _ 8 #[false, false, false, false, false, false, false, false] _ _
    generalize ({ w1 with drawn := w1.drawn + 1 } : World) = W0 at c0 ⊢
    refine h_take 0 (.slice a0 n cp0) rfl (by kernel_rfl) (by kernel_rfl) (by kernel_rfl) rfl (fun w hw => x_move _ _ _ _ _ _ _ _ rfl w) c0.box ?_
    simp only [Act.put, List.setIfInBounds_toArray, List.set_cons_succ, List.set_cons_zero]
    refine h_take 2 (SV s) rfl (by kernel_rfl) (by kernel_rfl) (by kernel_rfl) rfl (fun w hw => x_loadSet _ _ _ _ _ _ _ _ s rfl w hw) c0.box ?_
    simp only [Act.put, List.setIfInBounds_toArray, List.set_cons_succ, List.set_cons_zero]
    refine wpAnyH_all (rs := [1, 5]) (by kernel_rfl) (by simp) ?_
    intro i hi
    simp only [List.mem_cons, List.not_mem_nil, or_false] at hi
    rcases hi with rfl | rfl
    · obtain ⟨v2, W3, hr4, c1⟩ := (c0).appS ⟨#[91, 94]⟩ [91, 94] (by decide +kernel) (by simp) (by simp; omega)
      refine op_wp (i := 1) rfl rfl (wp_append_known _ _ _ rfl _ _ _ rfl rfl hr4 ⟨(c1).box, ?_⟩)
      simp only [Act.put, List.setIfInBounds_toArray, List.set_cons_succ, List.set_cons_zero]
      refine wpAnyH_all (rs := [3, 5]) (by kernel_rfl) (by simp) ?_
      intro i hi
      simp only [List.mem_cons, List.not_mem_nil, or_false] at hi
      rcases hi with rfl | rfl
      · refine op_ent (i := 3) rfl rfl (x_call1 _ _ _ _ _ _ _ _ _ _ rfl rfl (enters_of Tryz.func22 (by kernel_rfl) rfl) _) ((notD_any s _).mono ?_)
        rintro e W6 ⟨rfl, hb7, hd⟩
        have c5 := (c1).step hb7 hd
        refine ⟨_, rfl, (c5).box, ?_⟩
        simp only [Act.put, List.setIfInBounds_toArray, List.set_cons_succ, List.set_cons_zero]
        refine wpAnyH_all (rs := [4, 5]) (by kernel_rfl) (by simp) ?_
        intro i hi
        simp only [List.mem_cons, List.not_mem_nil, or_false] at hi
        rcases hi with rfl | rfl
        · refine op_ent (i := 4) rfl rfl (x_call2 _ _ _ _ _ _ _ _ _ _ _ _ _ rfl rfl rfl (enters_of Tryz.func75 (by kernel_rfl) rfl) _) ((textRuns_any (~~~s) _ _ base _ _ (c5).aw.own (by simp; omega) hG (c5).aw.base (c5).tab).mono ?_)
          rintro e W10 ⟨v9, rfl, ha11⟩
          have c8 := (c5).more ha11
          refine ⟨_, rfl, (c8).box, ?_⟩
          simp only [Act.put, List.setIfInBounds_toArray, List.set_cons_succ, List.set_cons_zero]
          refine wpAnyH_all (rs := [5]) (by kernel_rfl) (by simp) ?_
          intro i hi
          simp only [List.mem_cons, List.not_mem_nil, or_false] at hi
          subst hi
          refine op_val (i := 5) rfl rfl (x_buildC _ _ _ _ _ _ 93 rfl _) ⟨(c8).box.alloc _, ?_⟩
          simp only [Act.put, List.setIfInBounds_toArray, List.set_cons_succ, List.set_cons_zero]
          have c12 := (c8).lay 93
          generalize W10.alloc (.cells #[.int .u8 ((93 : Nat) : Int)] 5) = X13 at c12 ⊢
          refine wpAnyH_all (rs := [6]) (by kernel_rfl) (by simp) ?_
          intro i hi
          simp only [List.mem_cons, List.not_mem_nil, or_false] at hi
          subst hi
          obtain ⟨v15, W16, hr17, c14⟩ := (c12).app 93 (W10.heap.size) (by simp) (by have := HLEN.out; simp; omega)
          refine op_wp (i := 6) rfl rfl (wp_append_known _ _ _ rfl _ _ _ rfl rfl hr17 ⟨(c14).box, ?_⟩)
          simp only [Act.put, List.setIfInBounds_toArray, List.set_cons_succ, List.set_cons_zero]
          refine wpAnyH_all (rs := [7]) (by kernel_rfl) (by simp) ?_
          intro i hi
          simp only [List.mem_cons, List.not_mem_nil, or_false] at hi
          subst hi
          refine op_val (i := 7) rfl rfl (x_assign _ _ _ _ _ _ _ _ rfl _) ⟨(c14).box, ?_⟩
          simp only [Act.put, List.setIfInBounds_toArray, List.set_cons_succ, List.set_cons_zero]
          refine wpAnyH_done (by kernel_rfl) ?_ _
          refine NoPanic.normal ?_
          have HZ := hide c14.aw
          obtain ⟨az, cz, hvz⟩ := c14.aw.slice
          clear c14
          subst hvz
          go_wp2
          go_ret
          exact ⟨_, rfl, by rw [HE.out]; exact HZ.out⟩
        · refine op_val (i := 5) rfl rfl (x_buildC _ _ _ _ _ _ 93 rfl _) ⟨(c5).box.alloc _, ?_⟩
          simp only [Act.put, List.setIfInBounds_toArray, List.set_cons_succ, List.set_cons_zero]
          have c18 := (c5).lay 93
          generalize W6.alloc (.cells #[.int .u8 ((93 : Nat) : Int)] 5) = X19 at c18 ⊢
          refine wpAnyH_all (rs := [4]) (by kernel_rfl) (by simp) ?_
          intro i hi
          simp only [List.mem_cons, List.not_mem_nil, or_false] at hi
          subst hi
          refine op_ent (i := 4) rfl rfl (x_call2 _ _ _ _ _ _ _ _ _ _ _ _ _ rfl rfl rfl (enters_of Tryz.func75 (by kernel_rfl) rfl) _) ((textRuns_any (~~~s) _ _ base _ _ (c18).aw.own (by simp; omega) hG (c18).aw.base (c18).tab).mono ?_)
          rintro e W22 ⟨v21, rfl, ha23⟩
          have c20 := (c18).more ha23
          refine ⟨_, rfl, (c20).box, ?_⟩
          simp only [Act.put, List.setIfInBounds_toArray, List.set_cons_succ, List.set_cons_zero]
          refine wpAnyH_all (rs := [6]) (by kernel_rfl) (by simp) ?_
          intro i hi
          simp only [List.mem_cons, List.not_mem_nil, or_false] at hi
          subst hi
          obtain ⟨v25, W26, hr27, c24⟩ := (c20).app 93 (W6.heap.size) (by simp) (by have := HLEN.out; simp; omega)
          refine op_wp (i := 6) rfl rfl (wp_append_known _ _ _ rfl _ _ _ rfl rfl hr27 ⟨(c24).box, ?_⟩)
          simp only [Act.put, List.setIfInBounds_toArray, List.set_cons_succ, List.set_cons_zero]
          refine wpAnyH_all (rs := [7]) (by kernel_rfl) (by simp) ?_
          intro i hi
          simp only [List.mem_cons, List.not_mem_nil, or_false] at hi
          subst hi
          refine op_val (i := 7) rfl rfl (x_assign _ _ _ _ _ _ _ _ rfl _) ⟨(c24).box, ?_⟩
          simp only [Act.put, List.setIfInBounds_toArray, List.set_cons_succ, List.set_cons_zero]
          refine wpAnyH_done (by kernel_rfl) ?_ _
          refine NoPanic.normal ?_
          have HZ := hide c24.aw
          obtain ⟨az, cz, hvz⟩ := c24.aw.slice
          clear c24
          subst hvz
          go_wp2
          go_ret
          exact ⟨_, rfl, by rw [HE.out]; exact HZ.out⟩
      · refine op_val (i := 5) rfl rfl (x_buildC _ _ _ _ _ _ 93 rfl _) ⟨(c1).box.alloc _, ?_⟩
        simp only [Act.put, List.setIfInBounds_toArray, List.set_cons_succ, List.set_cons_zero]
        have c28 := (c1).lay 93
        generalize W3.alloc (.cells #[.int .u8 ((93 : Nat) : Int)] 5) = X29 at c28 ⊢
        refine wpAnyH_all (rs := [3]) (by kernel_rfl) (by simp) ?_
        intro i hi
        simp only [List.mem_cons, List.not_mem_nil, or_false] at hi
        subst hi
        refine op_ent (i := 3) rfl rfl (x_call1 _ _ _ _ _ _ _ _ _ _ rfl rfl (enters_of Tryz.func22 (by kernel_rfl) rfl) _) ((notD_any s _).mono ?_)
        rintro e W31 ⟨rfl, hb32, hd⟩
        have c30 := (c28).step hb32 hd
        refine ⟨_, rfl, (c30).box, ?_⟩
        simp only [Act.put, List.setIfInBounds_toArray, List.set_cons_succ, List.set_cons_zero]
        refine wpAnyH_all (rs := [4]) (by kernel_rfl) (by simp) ?_
        intro i hi
        simp only [List.mem_cons, List.not_mem_nil, or_false] at hi
        subst hi
        refine op_ent (i := 4) rfl rfl (x_call2 _ _ _ _ _ _ _ _ _ _ _ _ _ rfl rfl rfl (enters_of Tryz.func75 (by kernel_rfl) rfl) _) ((textRuns_any (~~~s) _ _ base _ _ (c30).aw.own (by simp; omega) hG (c30).aw.base (c30).tab).mono ?_)
        rintro e W35 ⟨v34, rfl, ha36⟩
        have c33 := (c30).more ha36
        refine ⟨_, rfl, (c33).box, ?_⟩
        simp only [Act.put, List.setIfInBounds_toArray, List.set_cons_succ, List.set_cons_zero]
        refine wpAnyH_all (rs := [6]) (by kernel_rfl) (by simp) ?_
        intro i hi
        simp only [List.mem_cons, List.not_mem_nil, or_false] at hi
        subst hi
        obtain ⟨v38, W39, hr40, c37⟩ := (c33).app 93 (W3.heap.size) (by simp) (by have := HLEN.out; simp; omega)
        refine op_wp (i := 6) rfl rfl (wp_append_known _ _ _ rfl _ _ _ rfl rfl hr40 ⟨(c37).box, ?_⟩)
        simp only [Act.put, List.setIfInBounds_toArray, List.set_cons_succ, List.set_cons_zero]
        refine wpAnyH_all (rs := [7]) (by kernel_rfl) (by simp) ?_
        intro i hi
        simp only [List.mem_cons, List.not_mem_nil, or_false] at hi
        subst hi
        refine op_val (i := 7) rfl rfl (x_assign _ _ _ _ _ _ _ _ rfl _) ⟨(c37).box, ?_⟩
        simp only [Act.put, List.setIfInBounds_toArray, List.set_cons_succ, List.set_cons_zero]
        refine wpAnyH_done (by kernel_rfl) ?_ _
        refine NoPanic.normal ?_
        have HZ := hide c37.aw
        obtain ⟨az, cz, hvz⟩ := c37.aw.slice
        clear c37
        subst hvz
        go_wp2
        go_ret
        exact ⟨_, rfl, by rw [HE.out]; exact HZ.out⟩
    · refine op_val (i := 5) rfl rfl (x_buildC _ _ _ _ _ _ 93 rfl _) ⟨(c0).box.alloc _, ?_⟩
      simp only [Act.put, List.setIfInBounds_toArray, List.set_cons_succ, List.set_cons_zero]
      have c41 := (c0).lay 93
      generalize W0.alloc (.cells #[.int .u8 ((93 : Nat) : Int)] 5) = X42 at c41 ⊢
      refine wpAnyH_all (rs := [1]) (by kernel_rfl) (by simp) ?_
      intro i hi
      simp only [List.mem_cons, List.not_mem_nil, or_false] at hi
      subst hi
      obtain ⟨v44, W45, hr46, c43⟩ := (c41).appS ⟨#[91, 94]⟩ [91, 94] (by decide +kernel) (by simp) (by simp; omega)
      refine op_wp (i := 1) rfl rfl (wp_append_known _ _ _ rfl _ _ _ rfl rfl hr46 ⟨(c43).box, ?_⟩)
      simp only [Act.put, List.setIfInBounds_toArray, List.set_cons_succ, List.set_cons_zero]
      refine wpAnyH_all (rs := [3]) (by kernel_rfl) (by simp) ?_
      intro i hi
      simp only [List.mem_cons, List.not_mem_nil, or_false] at hi
      subst hi
      refine op_ent (i := 3) rfl rfl (x_call1 _ _ _ _ _ _ _ _ _ _ rfl rfl (enters_of Tryz.func22 (by kernel_rfl) rfl) _) ((notD_any s _).mono ?_)
      rintro e W48 ⟨rfl, hb49, hd⟩
      have c47 := (c43).step hb49 hd
      refine ⟨_, rfl, (c47).box, ?_⟩
      simp only [Act.put, List.setIfInBounds_toArray, List.set_cons_succ, List.set_cons_zero]
      refine wpAnyH_all (rs := [4]) (by kernel_rfl) (by simp) ?_
      intro i hi
      simp only [List.mem_cons, List.not_mem_nil, or_false] at hi
      subst hi
      refine op_ent (i := 4) rfl rfl (x_call2 _ _ _ _ _ _ _ _ _ _ _ _ _ rfl rfl rfl (enters_of Tryz.func75 (by kernel_rfl) rfl) _) ((textRuns_any (~~~s) _ _ base _ _ (c47).aw.own (by simp; omega) hG (c47).aw.base (c47).tab).mono ?_)
      rintro e W52 ⟨v51, rfl, ha53⟩
      have c50 := (c47).more ha53
      refine ⟨_, rfl, (c50).box, ?_⟩
      simp only [Act.put, List.setIfInBounds_toArray, List.set_cons_succ, List.set_cons_zero]
      refine wpAnyH_all (rs := [6]) (by kernel_rfl) (by simp) ?_
      intro i hi
      simp only [List.mem_cons, List.not_mem_nil, or_false] at hi
      subst hi
      obtain ⟨v55, W56, hr57, c54⟩ := (c50).app 93 (W0.heap.size) (by simp) (by have := HLEN.out; simp; omega)
      refine op_wp (i := 6) rfl rfl (wp_append_known _ _ _ rfl _ _ _ rfl rfl hr57 ⟨(c54).box, ?_⟩)
      simp only [Act.put, List.setIfInBounds_toArray, List.set_cons_succ, List.set_cons_zero]
      refine wpAnyH_all (rs := [7]) (by kernel_rfl) (by simp) ?_
      intro i hi
      simp only [List.mem_cons, List.not_mem_nil, or_false] at hi
      subst hi
      refine op_val (i := 7) rfl rfl (x_assign _ _ _ _ _ _ _ _ rfl _) ⟨(c54).box, ?_⟩
      simp only [Act.put, List.setIfInBounds_toArray, List.set_cons_succ, List.set_cons_zero]
      refine wpAnyH_done (by kernel_rfl) ?_ _
      refine NoPanic.normal ?_
      have HZ := hide c54.aw
      obtain ⟨az, cz, hvz⟩ := c54.aw.slice
      clear c54
      subst hvz
      go_wp2
      go_ret
      exact ⟨_, rfl, by rw [HE.out]; exact HZ.out⟩
  · have k3 : decide ((128 : Int) < cd) = false := by simp; omega
    have k4 : decide (128 < cd) = false := by simp; omega
    have HE : Hid (L = [] ++ [91] ++ runsW (runsOf s) ++ [93]) := by show _ = _; rw [HLL.out]; unfold classW; rw [← hcd, if_neg h1, if_neg h2, if_neg h3]; rfl
    have HLEN : Hid ((runsW (runsOf s)).length ≤ 2304) := by show _ ≤ _; omega
    clear h1 h2 h3 hcd b0 b1 b2 b3
    go_wp2
    have c0 := HC1.out.step (⟨rfl, rfl, rfl, Nat.le_refl _, fun _ _ => rfl⟩ : Below w1.heap.size w1 { w1 with drawn := w1.drawn + 1 }) (Nat.le_succ _)
    refine wp_region_noPanic (wp_region_held (S := fun W => Blk W B (WS s) 42) (by kernel_rfl) ?_)
    show wpAnyH _ _ _ _ _ 8 #[false, false, false, false, false, false, false, false] _ _
    generalize ({ w1 with drawn := w1.drawn + 1 } : World) = W0 at c0 ⊢
    refine h_take 0 (.slice a0 n cp0) rfl (by kernel_rfl) (by kernel_rfl) (by kernel_rfl) rfl (fun w hw => x_move _ _ _ _ _ _ _ _ rfl w) c0.box ?_
    simp only [Act.put, List.setIfInBounds_toArray, List.set_cons_succ, List.set_cons_zero]
    refine h_take 3 (SV s) rfl (by kernel_rfl) (by kernel_rfl) (by kernel_rfl) rfl (fun w hw => x_loadSet _ _ _ _ _ _ _ _ s rfl w hw) c0.box ?_
    simp only [Act.put, List.setIfInBounds_toArray, List.set_cons_succ, List.set_cons_zero]
    refine wpAnyH_all (rs := [1, 5]) (by kernel_rfl) (by simp) ?_
    intro i hi
    simp only [List.mem_cons, List.not_mem_nil, or_false] at hi
    rcases hi with rfl | rfl
    · refine op_val (i := 1) rfl rfl (x_buildC _ _ _ _ _ _ 91 rfl _) ⟨(c0).box.alloc _, ?_⟩
      simp only [Act.put, List.setIfInBounds_toArray, List.set_cons_succ, List.set_cons_zero]
      have c1 := (c0).lay 91
      generalize W0.alloc (.cells #[.int .u8 ((91 : Nat) : Int)] 5) = X2 at c1 ⊢
      refine wpAnyH_all (rs := [2, 5]) (by kernel_rfl) (by simp) ?_
      intro i hi
      simp only [List.mem_cons, List.not_mem_nil, or_false] at hi
      rcases hi with rfl | rfl
      · obtain ⟨v4, W5, hr6, c3⟩ := (c1).app 91 (W0.heap.size) (by simp) (by simp; omega)
        refine op_wp (i := 2) rfl rfl (wp_append_known _ _ _ rfl _ _ _ rfl rfl hr6 ⟨(c3).box, ?_⟩)
        simp only [Act.put, List.setIfInBounds_toArray, List.set_cons_succ, List.set_cons_zero]
        refine wpAnyH_all (rs := [4, 5]) (by kernel_rfl) (by simp) ?_
        intro i hi
        simp only [List.mem_cons, List.not_mem_nil, or_false] at hi
        rcases hi with rfl | rfl
        · refine op_ent (i := 4) rfl rfl (x_call2 _ _ _ _ _ _ _ _ _ _ _ _ _ rfl rfl rfl (enters_of Tryz.func75 (by kernel_rfl) rfl) _) ((textRuns_any s _ _ base _ _ (c3).aw.own (by simp; omega) hG (c3).aw.base (c3).tab).mono ?_)
          rintro e W9 ⟨v8, rfl, ha10⟩
          have c7 := (c3).more ha10
          refine ⟨_, rfl, (c7).box, ?_⟩
          simp only [Act.put, List.setIfInBounds_toArray, List.set_cons_succ, List.set_cons_zero]
          refine wpAnyH_all (rs := [5]) (by kernel_rfl) (by simp) ?_
          intro i hi
          simp only [List.mem_cons, List.not_mem_nil, or_false] at hi
          subst hi
          refine op_val (i := 5) rfl rfl (x_buildC _ _ _ _ _ _ 93 rfl _) ⟨(c7).box.alloc _, ?_⟩
          simp only [Act.put, List.setIfInBounds_toArray, List.set_cons_succ, List.set_cons_zero]
          have c11 := (c7).lay 93
          generalize W9.alloc (.cells #[.int .u8 ((93 : Nat) : Int)] 5) = X12 at c11 ⊢
          refine wpAnyH_all (rs := [6]) (by kernel_rfl) (by simp) ?_
          intro i hi
          simp only [List.mem_cons, List.not_mem_nil, or_false] at hi
          subst hi
          obtain ⟨v14, W15, hr16, c13⟩ := (c11).app 93 (W9.heap.size) (by simp) (by have := HLEN.out; simp; omega)
          refine op_wp (i := 6) rfl rfl (wp_append_known _ _ _ rfl _ _ _ rfl rfl hr16 ⟨(c13).box, ?_⟩)
          simp only [Act.put, List.setIfInBounds_toArray, List.set_cons_succ, List.set_cons_zero]
          refine wpAnyH_all (rs := [7]) (by kernel_rfl) (by simp) ?_
          intro i hi
          simp only [List.mem_cons, List.not_mem_nil, or_false] at hi
          subst hi
          refine op_val (i := 7) rfl rfl (x_assign _ _ _ _ _ _ _ _ rfl _) ⟨(c13).box, ?_⟩
          simp only [Act.put, List.setIfInBounds_toArray, List.set_cons_succ, List.set_cons_zero]
          refine wpAnyH_done (by kernel_rfl) ?_ _
          refine NoPanic.normal ?_
          have HZ := hide c13.aw
          obtain ⟨az, cz, hvz⟩ := c13.aw.slice
          clear c13
          subst hvz
          go_wp2
          go_ret
          exact ⟨_, rfl, by rw [HE.out]; exact HZ.out⟩
        · refine op_val (i := 5) rfl rfl (x_buildC _ _ _ _ _ _ 93 rfl _) ⟨(c3).box.alloc _, ?_⟩
          simp only [Act.put, List.setIfInBounds_toArray, List.set_cons_succ, List.set_cons_zero]
          have c17 := (c3).lay 93
          generalize W5.alloc (.cells #[.int .u8 ((93 : Nat) : Int)] 5) = X18 at c17 ⊢
          refine wpAnyH_all (rs := [4]) (by kernel_rfl) (by simp) ?_
          intro i hi
          simp only [List.mem_cons, List.not_mem_nil, or_false] at hi
          subst hi
          refine op_ent (i := 4) rfl rfl (x_call2 _ _ _ _ _ _ _ _ _ _ _ _ _ rfl rfl rfl (enters_of Tryz.func75 (by kernel_rfl) rfl) _) ((textRuns_any s _ _ base _ _ (c17).aw.own (by simp; omega) hG (c17).aw.base (c17).tab).mono ?_)
          rintro e W21 ⟨v20, rfl, ha22⟩
          have c19 := (c17).more ha22
          refine ⟨_, rfl, (c19).box, ?_⟩
          simp only [Act.put, List.setIfInBounds_toArray, List.set_cons_succ, List.set_cons_zero]
          refine wpAnyH_all (rs := [6]) (by kernel_rfl) (by simp) ?_
          intro i hi
          simp only [List.mem_cons, List.not_mem_nil, or_false] at hi
          subst hi
          obtain ⟨v24, W25, hr26, c23⟩ := (c19).app 93 (W5.heap.size) (by simp) (by have := HLEN.out; simp; omega)
          refine op_wp (i := 6) rfl rfl (wp_append_known _ _ _ rfl _ _ _ rfl rfl hr26 ⟨(c23).box, ?_⟩)
          simp only [Act.put, List.setIfInBounds_toArray, List.set_cons_succ, List.set_cons_zero]
          refine wpAnyH_all (rs := [7]) (by kernel_rfl) (by simp) ?_
          intro i hi
          simp only [List.mem_cons, List.not_mem_nil, or_false] at hi
          subst hi
          refine op_val (i := 7) rfl rfl (x_assign _ _ _ _ _ _ _ _ rfl _) ⟨(c23).box, ?_⟩
          simp only [Act.put, List.setIfInBounds_toArray, List.set_cons_succ, List.set_cons_zero]
          refine wpAnyH_done (by kernel_rfl) ?_ _
          refine NoPanic.normal ?_
          have HZ := hide c23.aw
          obtain ⟨az, cz, hvz⟩ := c23.aw.slice
          clear c23
          subst hvz
          go_wp2
          go_ret
          exact ⟨_, rfl, by rw [HE.out]; exact HZ.out⟩
      · refine op_val (i := 5) rfl rfl (x_buildC _ _ _ _ _ _ 93 rfl _) ⟨(c1).box.alloc _, ?_⟩
        simp only [Act.put, List.setIfInBounds_toArray, List.set_cons_succ, List.set_cons_zero]
        have c27 := (c1).lay 93
        generalize X2.alloc (.cells #[.int .u8 ((93 : Nat) : Int)] 5) = X28 at c27 ⊢
        refine wpAnyH_all (rs := [2]) (by kernel_rfl) (by simp) ?_
        intro i hi
        simp only [List.mem_cons, List.not_mem_nil, or_false] at hi
        subst hi
        obtain ⟨v30, W31, hr32, c29⟩ := (c27).app 91 (W0.heap.size) (by simp) (by simp; omega)
        refine op_wp (i := 2) rfl rfl (wp_append_known _ _ _ rfl _ _ _ rfl rfl hr32 ⟨(c29).box, ?_⟩)
        simp only [Act.put, List.setIfInBounds_toArray, List.set_cons_succ, List.set_cons_zero]
        refine wpAnyH_all (rs := [4]) (by kernel_rfl) (by simp) ?_
        intro i hi
        simp only [List.mem_cons, List.not_mem_nil, or_false] at hi
        subst hi
        refine op_ent (i := 4) rfl rfl (x_call2 _ _ _ _ _ _ _ _ _ _ _ _ _ rfl rfl rfl (enters_of Tryz.func75 (by kernel_rfl) rfl) _) ((textRuns_any s _ _ base _ _ (c29).aw.own (by simp; omega) hG (c29).aw.base (c29).tab).mono ?_)
        rintro e W35 ⟨v34, rfl, ha36⟩
        have c33 := (c29).more ha36
        refine ⟨_, rfl, (c33).box, ?_⟩
        simp only [Act.put, List.setIfInBounds_toArray, List.set_cons_succ, List.set_cons_zero]
        refine wpAnyH_all (rs := [6]) (by kernel_rfl) (by simp) ?_
        intro i hi
        simp only [List.mem_cons, List.not_mem_nil, or_false] at hi
        subst hi
        obtain ⟨v38, W39, hr40, c37⟩ := (c33).app 93 (X2.heap.size) (by simp) (by have := HLEN.out; simp; omega)
        refine op_wp (i := 6) rfl rfl (wp_append_known _ _ _ rfl _ _ _ rfl rfl hr40 ⟨(c37).box, ?_⟩)
        simp only [Act.put, List.setIfInBounds_toArray, List.set_cons_succ, List.set_cons_zero]
        refine wpAnyH_all (rs := [7]) (by kernel_rfl) (by simp) ?_
        intro i hi
        simp only [List.mem_cons, List.not_mem_nil, or_false] at hi
        subst hi
        refine op_val (i := 7) rfl rfl (x_assign _ _ _ _ _ _ _ _ rfl _) ⟨(c37).box, ?_⟩
        simp only [Act.put, List.setIfInBounds_toArray, List.set_cons_succ, List.set_cons_zero]
        refine wpAnyH_done (by kernel_rfl) ?_ _
        refine NoPanic.normal ?_
        have HZ := hide c37.aw
        obtain ⟨az, cz, hvz⟩ := c37.aw.slice
        clear c37
        subst hvz
        go_wp2
        go_ret
        exact ⟨_, rfl, by rw [HE.out]; exact HZ.out⟩
    · refine op_val (i := 5) rfl rfl (x_buildC _ _ _ _ _ _ 93 rfl _) ⟨(c0).box.alloc _, ?_⟩
      simp only [Act.put, List.setIfInBounds_toArray, List.set_cons_succ, List.set_cons_zero]
      have c41 := (c0).lay 93
      generalize W0.alloc (.cells #[.int .u8 ((93 : Nat) : Int)] 5) = X42 at c41 ⊢
      refine wpAnyH_all (rs := [1]) (by kernel_rfl) (by simp) ?_
      intro i hi
      simp only [List.mem_cons, List.not_mem_nil, or_false] at hi
      subst hi
      refine op_val (i := 1) rfl rfl (x_buildC _ _ _ _ _ _ 91 rfl _) ⟨(c41).box.alloc _, ?_⟩
      simp only [Act.put, List.setIfInBounds_toArray, List.set_cons_succ, List.set_cons_zero]
      have c43 := (c41).lay 91
      generalize X42.alloc (.cells #[.int .u8 ((91 : Nat) : Int)] 5) = X44 at c43 ⊢
      refine wpAnyH_all (rs := [2]) (by kernel_rfl) (by simp) ?_
      intro i hi
      simp only [List.mem_cons, List.not_mem_nil, or_false] at hi
      subst hi
      obtain ⟨v46, W47, hr48, c45⟩ := (c43).app 91 (X42.heap.size) (by simp) (by simp; omega)
      refine op_wp (i := 2) rfl rfl (wp_append_known _ _ _ rfl _ _ _ rfl rfl hr48 ⟨(c45).box, ?_⟩)
      simp only [Act.put, List.setIfInBounds_toArray, List.set_cons_succ, List.set_cons_zero]
      refine wpAnyH_all (rs := [4]) (by kernel_rfl) (by simp) ?_
      intro i hi
      simp only [List.mem_cons, List.not_mem_nil, or_false] at hi
      subst hi
      refine op_ent (i := 4) rfl rfl (x_call2 _ _ _ _ _ _ _ _ _ _ _ _ _ rfl rfl rfl (enters_of Tryz.func75 (by kernel_rfl) rfl) _) ((textRuns_any s _ _ base _ _ (c45).aw.own (by simp; omega) hG (c45).aw.base (c45).tab).mono ?_)
      rintro e W51 ⟨v50, rfl, ha52⟩
      have c49 := (c45).more ha52
      refine ⟨_, rfl, (c49).box, ?_⟩
      simp only [Act.put, List.setIfInBounds_toArray, List.set_cons_succ, List.set_cons_zero]
      refine wpAnyH_all (rs := [6]) (by kernel_rfl) (by simp) ?_
      intro i hi
      simp only [List.mem_cons, List.not_mem_nil, or_false] at hi
      subst hi
      obtain ⟨v54, W55, hr56, c53⟩ := (c49).app 93 (W0.heap.size) (by simp) (by have := HLEN.out; simp; omega)
      refine op_wp (i := 6) rfl rfl (wp_append_known _ _ _ rfl _ _ _ rfl rfl hr56 ⟨(c53).box, ?_⟩)
      simp only [Act.put, List.setIfInBounds_toArray, List.set_cons_succ, List.set_cons_zero]
      refine wpAnyH_all (rs := [7]) (by kernel_rfl) (by simp) ?_
      intro i hi
      simp only [List.mem_cons, List.not_mem_nil, or_false] at hi
      subst hi
      refine op_val (i := 7) rfl rfl (x_assign _ _ _ _ _ _ _ _ rfl _) ⟨(c53).box, ?_⟩
      simp only [Act.put, List.setIfInBounds_toArray, List.set_cons_succ, List.set_cons_zero]
      refine wpAnyH_done (by kernel_rfl) ?_ _
      refine NoPanic.normal ?_
      have HZ := hide c53.aw
      obtain ⟨az, cz, hvz⟩ := c53.aw.slice
      clear c53
      subst hvz
      go_wp2
      go_ret
      exact ⟨_, rfl, by rw [HE.out]; exact HZ.out⟩
end Go.Proofs.YtkjmjppmpcnejaaGreatDoor
