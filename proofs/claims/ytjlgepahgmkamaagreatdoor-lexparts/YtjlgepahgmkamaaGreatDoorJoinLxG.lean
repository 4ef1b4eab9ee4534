/- Texts of this claim put together: LxM, LxN, LxG. -/
import Derived.Test.YtjlgepahgmkamaaGreatDoorJoinTrD
import Derived.Test.YtjlgepahgmkamaaGreatDoorJoinLxF
import Derived.Test.YtjlgepahgmkamaaGreatDoorJoinRdL
/- The reader of programs, as a function: blanks and remarks; what stands between quotes. -/
namespace Go.Proofs.YtjlgepahgmkamaaGreatDoor
set_option maxRecDepth 100000
set_option linter.unusedSimpArgs false
set_option linter.unusedVariables false
open Go.RowKit Go.Shelf

/-- How far blanks and remarks go; true: within a remark. -/
def skN : Bool → List Nat → Nat
  | _, [] => 0
  | false, c :: r => if isBl c = true then skN false r + 1 else if c = 35 then skN true r + 1 else 0
  | true, c :: r => if c = 10 then skN false r + 1 else skN true r + 1
theorem skN_le : ∀ (l : List Nat) (m : Bool), skN m l ≤ l.length
  | [], m => by cases m <;> exact Nat.le_refl _
  | c :: r, m => by
    have h1 := skN_le r true
    have h2 := skN_le r false
    cases m <;> rw [skN] <;> simp only [List.length_cons]
    · split
      · omega
      · split <;> omega
    · split <;> omega
theorem skN_true : ∀ l : List Nat, skN true l = l.idxOf 10 + skN false (l.drop (l.idxOf 10))
  | [] => rfl
  | c :: r => by
    by_cases h : c = 10
    · subst h
      simp [skN, isBl]
    · have hb : (c == 10) = false := by simpa using h
      rw [skN, if_neg h, skN_true r, List.idxOf_cons, hb]
      simp only [cond_false, List.drop_succ_cons]
      omega
/-- What a remark takes. -/
theorem skN_rem (r : List Nat) : skN false (35 :: r) = (35 :: r).idxOf 10 + skN false ((35 :: r).drop ((35 :: r).idxOf 10)) := by
  rw [skN, if_neg (by decide), if_pos rfl, skN_true, List.idxOf_cons]
  simp only [show ((35 : Nat) == 10) = false from rfl, cond_false, List.drop_succ_cons]
  omega
theorem skN_bl {c : Nat} (h : isBl c = true) (r : List Nat) : skN false (c :: r) = skN false r + 1 := by rw [skN, if_pos h]
theorem skN_no {c : Nat} (h : isBl c = false) (h2 : c ≠ 35) (r : List Nat) : skN false (c :: r) = 0 := by rw [skN, if_neg (by rw [h]; decide), if_neg h2]
/-- The least byte of a set; 0: there is none. -/
def leastN (r : RE) : Nat := (bytesOf r.set).headD 0
/-- The byte that is written at a text's beginning, between quotes; by how many bytes. -/
def scanL : List Nat → Nat × Nat
  | [] => (0, 0)
  | c :: r => if c = 92 then
      if (rdEnd ((c :: r).take (if r.head? = some 120 then 4 else 2))).err = 0 then (leastN (readQ ((c :: r).take (if r.head? = some 120 then 4 else 2))).1, ((c :: r).take (if r.head? = some 120 then 4 else 2)).length) else (0, 0)
    else if plainB c = true then (c, 1) else (0, 0)
theorem scanL_le (l : List Nat) : (scanL l).2 ≤ l.length := by
  cases l with
  | nil => exact Nat.le_refl _
  | cons c r =>
    rw [scanL]
    generalize (if r.head? = some 120 then 4 else 2) = n
    by_cases h : c = 92
    · rw [if_pos h]
      split
      · simp only [List.length_take]; omega
      · exact Nat.zero_le _
    · rw [if_neg h]
      split
      · simp
      · exact Nat.zero_le _
/-- What stands between quotes: its bytes, how far it goes, whether a byte is none. -/
def txN : Nat → List Nat → List Nat × Nat × Bool
  | 0, _ => ([], 0, false)
  | _ + 1, [] => ([], 0, false)
  | f + 1, c :: r => if c = 34 then ([], 0, false) else if (scanL (c :: r)).2 = 0 then ([], 0, true) else ((scanL (c :: r)).1 :: (txN f ((c :: r).drop (scanL (c :: r)).2)).1, (scanL (c :: r)).2 + (txN f ((c :: r).drop (scanL (c :: r)).2)).2.1, (txN f ((c :: r).drop (scanL (c :: r)).2)).2.2)
theorem txN_le : ∀ (f : Nat) (l : List Nat), (txN f l).2.1 ≤ l.length
  | 0, l => Nat.zero_le _
  | f + 1, [] => Nat.zero_le _
  | f + 1, c :: r => by
    rw [txN]
    split
    · exact Nat.zero_le _
    · split
      · exact Nat.zero_le _
      · have h1 := scanL_le (c :: r)
        have h2 := txN_le f ((c :: r).drop (scanL (c :: r)).2)
        rw [List.length_drop] at h2
        show _ + _ ≤ _
        omega
end Go.Proofs.YtjlgepahgmkamaaGreatDoor
/- The reader of programs, as a function: a token, all tokens. -/
namespace Go.Proofs.YtjlgepahgmkamaaGreatDoor
set_option maxRecDepth 100000
set_option linter.unusedSimpArgs false
set_option linter.unusedVariables false
open Go.RowKit Go.Shelf

/-- A token: its kind, its text, its expression, where it begins. -/
structure LTok where
  kind : Nat
  txt : ByteArray
  re : Option RE
  at' : Nat
def sgL : List Nat := [40, 41, 44, 46, 59, 124, 42, 61]
/-- The token that begins at a byte; an error, or the token and where the next one begins. -/
def tokB (s : ByteArray) (b : Nat) (c : Nat) : (Nat × Nat) ⊕ (LTok × Nat) :=
  if letB c true = true then (if 30 < lettN ((bytesN s).drop b) then .inl (3, b) else .inr (⟨1, s.extract b (b + lettN ((bytesN s).drop b)), none, b⟩, b + lettN ((bytesN s).drop b)))
  else if sgL.contains c = true then .inr (⟨2, s.extract b (b + 1), none, b⟩, b + 1)
  else if c = 34 then (if (txN (s.size + 1) ((bytesN s).drop (b + 1))).2.2 = true ∨ b + 1 + (txN (s.size + 1) ((bytesN s).drop (b + 1))).2.1 = s.size then .inl (2, b + 1 + (txN (s.size + 1) ((bytesN s).drop (b + 1))).2.1)
    else .inr (⟨3, strB (txN (s.size + 1) ((bytesN s).drop (b + 1))).1, none, b⟩, b + 1 + (txN (s.size + 1) ((bytesN s).drop (b + 1))).2.1 + 1))
  else if c = 47 then (if s.size ≤ b + 1 + reN ((bytesN s).drop (b + 1)) then .inl (2, s.size)
    else if (rdEnd (bytesN (s.extract (b + 1) (b + 1 + reN ((bytesN s).drop (b + 1)))))).err = 0 then .inr (⟨4, ⟨#[]⟩, some (readQ (bytesN (s.extract (b + 1) (b + 1 + reN ((bytesN s).drop (b + 1)))))).1, b⟩, b + 1 + reN ((bytesN s).drop (b + 1)) + 1)
    else .inl ((rdEnd (bytesN (s.extract (b + 1) (b + 1 + reN ((bytesN s).drop (b + 1)))))).err, b + 1 + (rdEnd (bytesN (s.extract (b + 1) (b + 1 + reN ((bytesN s).drop (b + 1)))))).wh))
  else .inl (2, b)
/-- The next token, and what stands ahead of it. -/
def tokF (s : ByteArray) (a : Nat) : (Nat × Nat) ⊕ (LTok × Nat) :=
  match (bytesN s)[a + skN false ((bytesN s).drop a)]? with
  | none => .inr (⟨0, ⟨#[]⟩, none, a + skN false ((bytesN s).drop a)⟩, a + skN false ((bytesN s).drop a))
  | some c => tokB s (a + skN false ((bytesN s).drop a)) c
/-- All tokens from a place on. -/
def lexF (s : ByteArray) : Nat → Nat → (Nat × Nat) ⊕ List LTok
  | 0, _ => .inl (0, 0)
  | f + 1, a => match tokF s a with
    | .inl e => .inl e
    | .inr (t, b) => if t.kind = 0 then .inr [t] else match lexF s f b with
      | .inl e => .inl e
      | .inr l => .inr (t :: l)
theorem lett_pos {c : Nat} {r : List Nat} (h : letB c true = true) : 0 < lettN (c :: r) := by
  have : letB c false = true := by unfold letB at h ⊢; simp at h ⊢; omega
  rw [lettN, if_pos this]; omega
/-- A token that is none of the end takes a byte at least, and ends within the text. -/
theorem tokB_step {s : ByteArray} {b c : Nat} (hc : (bytesN s)[b]? = some c) {t : LTok} {n : Nat} (h : tokB s b c = .inr (t, n)) : b < n ∧ n ≤ s.size ∧ t.kind ≠ 0 ∧ t.at' = b := by
  have hb : b < s.size := by have := (List.getElem?_eq_some_iff.1 hc).1; rwa [bN_len] at this
  have hd : (bytesN s).drop b = c :: (bytesN s).drop (b + 1) := by
    obtain ⟨hl, rfl⟩ := List.getElem?_eq_some_iff.1 hc
    exact List.drop_eq_getElem_cons hl
  unfold tokB at h
  split at h
  · rename_i h1
    split at h
    · cases h
    · injection h with h; injection h with h2 h3
      have := lettN_le ((bytesN s).drop b)
      rw [List.length_drop, bN_len] at this
      have h4 := lett_pos (r := (bytesN s).drop (b + 1)) h1
      rw [← hd] at h4
      subst h2 h3
      exact ⟨by omega, by omega, by show (1 : Nat) ≠ 0; decide, rfl⟩
  split at h
  · injection h with h; injection h with h2 h3; subst h2 h3
    exact ⟨by omega, by omega, by show (2 : Nat) ≠ 0; decide, rfl⟩
  split at h
  · split at h
    · cases h
    · rename_i h5
      injection h with h; injection h with h2 h3
      have := txN_le (s.size + 1) ((bytesN s).drop (b + 1))
      rw [List.length_drop, bN_len] at this
      have h6 : b + 1 + (txN (s.size + 1) ((bytesN s).drop (b + 1))).2.1 ≠ s.size := fun e => h5 (.inr e)
      subst h2 h3
      exact ⟨by omega, by omega, by show (3 : Nat) ≠ 0; decide, rfl⟩
  split at h
  · split at h
    · cases h
    split at h
    · injection h with h; injection h with h2 h3; subst h2 h3
      exact ⟨by omega, by omega, by show (4 : Nat) ≠ 0; decide, rfl⟩
    · cases h
  · cases h
theorem tokF_step {s : ByteArray} {a : Nat} (ha : a ≤ s.size) {t : LTok} {n : Nat} (h : tokF s a = .inr (t, n)) : (t.kind ≠ 0 → a < n) ∧ n ≤ s.size ∧ a ≤ t.at' ∧ (t.kind = 0 → t.at' = s.size ∧ t.txt = ⟨#[]⟩ ∧ t.re = none) ∧ (t.kind ≠ 0 → t.at' < n) := by
  have hs := skN_le ((bytesN s).drop a) false
  rw [List.length_drop, bN_len] at hs
  unfold tokF at h
  split at h
  · rename_i h1
    rw [List.getElem?_eq_none_iff, bN_len] at h1
    injection h with h; injection h with h2 h3; subst h2 h3
    exact ⟨fun h => absurd rfl h, by omega, Nat.le_add_right _ _, fun _ => ⟨by show a + _ = _; omega, rfl, rfl⟩, fun h => absurd rfl h⟩
  · rename_i c h1
    obtain ⟨h2, h3, h4, h5⟩ := tokB_step h1 h
    exact ⟨fun _ => by omega, h3, by omega, fun h => absurd h h4, fun _ => by omega⟩
end Go.Proofs.YtjlgepahgmkamaaGreatDoor
/- strings.Cut at a newline. -/
namespace Go.Proofs.YtjlgepahgmkamaaGreatDoor
set_option maxRecDepth 100000
set_option linter.unusedSimpArgs false
set_option linter.unusedVariables false
open Go.RowKit Go.Shelf

def nlS : ByteArray := ⟨#[10]⟩
theorem sIndexByte_any (t : ByteArray) (c : Nat) (hc : c < 256) (w : World) :
    Calls Tryz.prog 62 #[.string t, .int .u8 c] w fun e w' => e = .returned (.int .i64 (idxI (bytesN t) c)) ∧ w' = w := by
  have hx : (Extern.BytealgIndexByte.indexByte #[.string t, .int .u8 (c : Int)]).run Tryz.prog w = .ok (.int .i64 (idxI (bytesN t) c)) w := by
    rw [Lib.run_indexByteString]
    have e := idx_eq c hc t.data.toList
    rw [Int.toNat_natCast, e]; rfl
  go_enter Tryz.func62, Tryz.ntmps62
  go_wp2
  rw [run_callFunc_extern Tryz.func82 (by kernel_rfl) (by kernel_rfl) (by kernel_rfl) (e := Extern.BytealgIndexByte.indexByte) (by kernel_rfl), hx]
  simp only [Result.andThen]
  rw [Oper.upon_value]
  go_wp2
  go_ret
  exact ⟨rfl, rfl⟩
set_option maxHeartbeats 2000000 in
theorem index_nl (t : ByteArray) (w : World) :
    Calls Tryz.prog 98 #[.string t, .string ⟨#[10]⟩] w fun e w' => e = .returned (.int .i64 (idxI (bytesN t) 10)) ∧ w' = w := by
  have HI := hide (sIndexByte_any t 10 (by omega) w)
  rw [show ((10 : Nat) : Int) = 10 from rfl] at HI
  obtain ⟨B, hB⟩ : ∃ B, ([10] == t.toList) = B := ⟨_, rfl⟩
  cases B with
  | true =>
    have e1 : idxI (bytesN t) 10 = 0 := by
      have h : t.toList = [10] := by simpa using (beq_iff_eq.1 hB).symm
      have h2 : bytesN t = [10] := by unfold bytesN; rw [ByteArray.toList_eq] at h; rw [h]; rfl
      rw [h2]; decide
    rw [e1]
    clear e1 HI
    go_enter Tryz.func98, Tryz.ntmps98
    go_wp2
    go_ret
    exact ⟨rfl, rfl⟩
  | false =>
    go_enter Tryz.func98, Tryz.ntmps98
    go_wp2_with fail
    refine HI.out.mono ?_
    rintro e w1 ⟨rfl, rfl⟩
    go_wp2
    go_ret
    exact ⟨rfl, rfl⟩
def cutK (t : ByteArray) : Nat := (bytesN t).idxOf 10
def cutU (t : ByteArray) : ByteArray := if (bytesN t).contains 10 then t.extract (cutK t + 1) t.size else ⟨#[]⟩
section
variable (ρ : Operand → Value) (d : Option Tmp) (x y : Operand) (ty : TypeId) (pos : String) (af : Array Edge) (g : Option (Nat × Bool))
theorem x_sTo (t : ByteArray) (i : Nat) (hx : ρ x = .string t) (hy : ρ y = .int .i64 i) (h1 : i ≤ t.size) (w : World) :
    (execOp ρ { dst := d, op := .slice 9 x none (some y) none, type := ty, pos := pos, after := af, guard := g }).run Tryz.prog w = .ok (.value (.string (t.extract 0 i))) w := by
  simp [go_sem, hx, hy, h1]
theorem x_lenNl (hx : ρ x = .string ⟨#[10]⟩) (w : World) :
    (execOp ρ { dst := d, op := .call { callee := .builtin .len, args := #[x], argTypes := #[9] }, type := ty, pos := pos, after := af, guard := g }).run Tryz.prog w = .ok (.value (.int .i64 1)) w := by
  simp [go_sem, hx]
theorem x_addN1 (k : Nat) (hk : k ≤ 65536) (hx : ρ x = .int .i64 k) (hy : ρ y = .int .i64 1) (w : World) :
    (execOp ρ { dst := d, op := .binOp .add 3 x y 3, type := ty, pos := pos, after := af, guard := g }).run Tryz.prog w = .ok (.value (.int .i64 ((k + 1 : Nat) : Int))) w := by
  have h : IntKind.i64.wrap ((k : Int) + 1) = ((k + 1 : Nat) : Int) := by
    rw [IntKind.wrap_i64]; omega
  simp [go_sem, hx, hy, h]
end
theorem cutK_le (t : ByteArray) : cutK t ≤ t.size := by
  have := List.idxOf_le_length (a := 10) (l := bytesN t)
  rw [bN_len] at this
  exact this
set_option maxHeartbeats 4000000 in
theorem cut_nl0 (t : ByteArray) (ht : t.size ≤ 65536) (w : World) :
    Calls Tryz.prog 81 #[.string t, .string ⟨#[10]⟩] w fun e w' => e = .returned (.tuple #[.string (t.extract 0 (cutK t)), .string (cutU t), .bool ((bytesN t).contains 10)]) ∧ Below w.heap.size w w' := by
  obtain ⟨k, hk⟩ : ∃ k, cutK t = k := ⟨_, rfl⟩
  have hkle : k ≤ t.size := by rw [← hk]; exact cutK_le t
  rw [hk]
  have hkb : k ≤ 65536 := by omega
  obtain ⟨C, hC⟩ : ∃ C : World → Prop, C = fun W => Below w.heap.size w W := ⟨_, rfl⟩
  have HCD : Hid (C { w with drawn := w.drawn + 1 }) := by rw [hC]; exact ⟨rfl, rfl, rfl, Nat.le_refl _, fun _ _ => rfl⟩
  have HCB : Hid (∀ W, C W → Below w.heap.size w W) := by rw [hC]; exact fun W h => h
  clear hC
  have HI := hide (index_nl t w)
  cases hc : (bytesN t).contains 10 with
  | true =>
    have hklt : k + 1 ≤ t.size := by
      have h := List.idxOf_lt_length_iff.2 (List.contains_iff_mem.1 hc)
      rw [bN_len] at h
      have h2 : cutK t < t.size := h
      omega
    have e1 : idxI (bytesN t) 10 = (k : Int) := by unfold idxI; rw [hc, ← hk]; rfl
    have HU : Hid (cutU t = t.extract (k + 1) t.size) := by show _ = _; unfold cutU; rw [hc, hk]; rfl
    rw [HU.out]
    have hge : decide ((0 : Int) ≤ (k : Int)) = true := by simp
    have HI2 : Hid (Calls Tryz.prog 98 #[.string t, .string ⟨#[10]⟩] w fun e w' => e = .returned (.int .i64 (k : Int)) ∧ w' = w) := by rw [← e1]; exact HI.out
    clear hc e1 hk HI HU
    go_enter Tryz.func81, Tryz.ntmps81
    go_wp2_with fail
    refine HI2.out.mono ?_
    rintro e w1 ⟨rfl, rfl⟩
    go_wp2
    refine w_lit (C := C) (by kernel_rfl) (by kernel_rfl) HCD.out ?_
    refine w_value (.string t) (by kernel_rfl) (fun w hw => x_move _ _ _ _ _ _ _ _ rfl w) ?_
    simp only [Act.put, List.setIfInBounds_toArray, List.set_cons_succ, List.set_cons_zero]
    refine w_value (.int .i64 k) (by kernel_rfl) (fun w hw => x_move _ _ _ _ _ _ _ _ rfl w) ?_
    simp only [Act.put, List.setIfInBounds_toArray, List.set_cons_succ, List.set_cons_zero]
    refine w_value (.string (t.extract 0 k)) (by kernel_rfl) (fun w hw => x_sTo _ _ _ _ _ _ _ _ t k rfl rfl hkle w) ?_
    simp only [Act.put, List.setIfInBounds_toArray, List.set_cons_succ, List.set_cons_zero]
    refine w_value (.string t) (by kernel_rfl) (fun w hw => x_move _ _ _ _ _ _ _ _ rfl w) ?_
    simp only [Act.put, List.setIfInBounds_toArray, List.set_cons_succ, List.set_cons_zero]
    refine w_value (.int .i64 k) (by kernel_rfl) (fun w hw => x_move _ _ _ _ _ _ _ _ rfl w) ?_
    simp only [Act.put, List.setIfInBounds_toArray, List.set_cons_succ, List.set_cons_zero]
    refine w_value (.string ⟨#[10]⟩) (by kernel_rfl) (fun w hw => x_move _ _ _ _ _ _ _ _ rfl w) ?_
    simp only [Act.put, List.setIfInBounds_toArray, List.set_cons_succ, List.set_cons_zero]
    refine w_value (.int .i64 1) (by kernel_rfl) (fun w hw => x_lenNl _ _ _ _ _ _ _ rfl w) ?_
    simp only [Act.put, List.setIfInBounds_toArray, List.set_cons_succ, List.set_cons_zero]
    refine w_value (.int .i64 ((k + 1 : Nat) : Int)) (by kernel_rfl) (fun w hw => x_addN1 _ _ _ _ _ _ _ _ k hkb rfl rfl w) ?_
    simp only [Act.put, List.setIfInBounds_toArray, List.set_cons_succ, List.set_cons_zero]
    refine w_value (.string (t.extract (k + 1) t.size)) (by kernel_rfl) (fun w hw => x_strFrom _ _ _ _ _ _ _ _ t (k + 1) rfl rfl hklt w) ?_
    simp only [Act.put, List.setIfInBounds_toArray, List.set_cons_succ, List.set_cons_zero]
    refine w_value (.string (t.extract 0 k)) (by kernel_rfl) (fun w hw => x_assign _ _ _ _ _ _ _ _ rfl w) ?_
    simp only [Act.put, List.setIfInBounds_toArray, List.set_cons_succ, List.set_cons_zero]
    refine w_value (.string (t.extract (k + 1) t.size)) (by kernel_rfl) (fun w hw => x_assign _ _ _ _ _ _ _ _ rfl w) ?_
    simp only [Act.put, List.setIfInBounds_toArray, List.set_cons_succ, List.set_cons_zero]
    refine w_value (.bool true) (by kernel_rfl) (fun w hw => x_assign _ _ _ _ _ _ _ _ rfl w) ?_
    simp only [Act.put, List.setIfInBounds_toArray, List.set_cons_succ, List.set_cons_zero]
    refine w_nil ?_
    intro W hCW
    have HW := hide (HCB.out W hCW)
    clear hCW
    go_wp2
    refine bodyPost_ret (v := .tuple #[.string (t.extract 0 k), .string (t.extract (k + 1) t.size), .bool true]) (by simp [results, Tryz.results81, go_sem]) rfl ⟨rfl, HW.out⟩
  | false =>
    have e1 : idxI (bytesN t) 10 = -1 := by unfold idxI; rw [hc]; rfl
    have HU : Hid (cutU t = ⟨#[]⟩) := by show _ = _; unfold cutU; rw [hc]; rfl
    have hkt : k = t.size := by
      have h : ¬ (bytesN t).idxOf 10 < (bytesN t).length := fun h => by
        have := List.contains_iff_mem.2 (List.idxOf_lt_length_iff.1 h)
        rw [hc] at this; cases this
      rw [bN_len] at h
      have h2 : ¬ cutK t < t.size := h
      omega
    have HE : Hid (t.extract 0 k = t) := by
      show _ = _
      rw [hkt]
      exact ByteArray.ext (by simp [ByteArray.data_extract])
    rw [HU.out, HE.out]
    have HI2 : Hid (Calls Tryz.prog 98 #[.string t, .string ⟨#[10]⟩] w fun e w' => e = .returned (.int .i64 (-1)) ∧ w' = w) := by rw [← e1]; exact HI.out
    clear hc e1 hk HI HU hkt HE
    go_enter Tryz.func81, Tryz.ntmps81
    go_wp2_with fail
    refine HI2.out.mono ?_
    rintro e w1 ⟨rfl, rfl⟩
    go_wp2
    refine bodyPost_ret (v := .tuple #[.string t, .string ⟨#[]⟩, .bool false]) (by simp [results, Tryz.results81, go_sem]) rfl ⟨rfl, Below.refl _ _⟩
theorem cut_nl (t : ByteArray) (ht : t.size ≤ 65536) (w : World) :
    Calls Tryz.prog 61 #[.string t, .string ⟨#[10]⟩] w fun e w' => e = .returned (.tuple #[.string (t.extract 0 (cutK t)), .string (cutU t), .bool ((bytesN t).contains 10)]) ∧ Below w.heap.size w w' := by
  have HI := hide (cut_nl0 t ht w)
  go_enter Tryz.func61, Tryz.ntmps61
  go_wp2_with fail
  refine HI.out.mono ?_
  rintro e w1 ⟨rfl, hb⟩
  have HB := hide hb
  clear hb
  go_wp2
  refine bodyPost_ret (v := .tuple #[.string (t.extract 0 (cutK t)), .string (cutU t), .bool ((bytesN t).contains 10)]) (by simp [results, Tryz.results61, go_sem]) rfl ⟨rfl, HB.out⟩
end Go.Proofs.YtjlgepahgmkamaaGreatDoor
