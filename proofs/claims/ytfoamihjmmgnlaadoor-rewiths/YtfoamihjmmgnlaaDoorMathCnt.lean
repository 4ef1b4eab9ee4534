/- How many bytes are in a set, and the least one, counted byte by byte. -/
import Derived.Test.YtfoamihjmmgnlaaDoorQuiet2
import Derived.Test.YtfoamihjmmgnlaaDoorMathRuns
namespace Go.Proofs.YtfoamihjmmgnlaaDoor
set_option maxRecDepth 100000
open Go.RowKit

/-- How many of the first k bytes are in a set. -/
def cnt (s : BitVec 256) (k : Nat) : Nat := ((List.range k).filter fun b => s.getLsbD b).length
/-- The least of the first k bytes that is in a set; -1: none is. -/
def lst (s : BitVec 256) (k : Nat) : Int := match ((List.range k).filter fun b => s.getLsbD b) with | [] => -1 | x :: _ => (x : Int)
theorem cnt_succ (s : BitVec 256) (k : Nat) : cnt s (k + 1) = cnt s k + if s.getLsbD k then 1 else 0 := by
  unfold cnt; rw [List.range_succ, List.filter_append, List.length_append]
  cases h : s.getLsbD k <;> simp [h]
theorem cnt_le (s : BitVec 256) (k : Nat) : cnt s k ≤ k := by
  unfold cnt; have := List.length_filter_le (fun b => s.getLsbD b) (List.range k); simpa using this
theorem lst_no (s : BitVec 256) (k : Nat) (h : s.getLsbD k = false) : lst s (k + 1) = lst s k := by
  unfold lst; rw [List.range_succ, List.filter_append]; simp [h]
theorem lst_neg (s : BitVec 256) (k : Nat) (h : s.getLsbD k = true) (hn : lst s k < 0) : lst s (k + 1) = k := by
  unfold lst at *; rw [List.range_succ, List.filter_append]
  cases e : (List.range k).filter (fun b => s.getLsbD b) with
  | nil => simp [h]
  | cons x r => rw [e] at hn; simp at hn; omega
theorem lst_pos (s : BitVec 256) (k : Nat) (hn : 0 ≤ lst s k) : lst s (k + 1) = lst s k := by
  unfold lst at *; rw [List.range_succ, List.filter_append]
  cases e : (List.range k).filter (fun b => s.getLsbD b) with
  | nil => rw [e] at hn; simp at hn
  | cons x r => simp
theorem lst_ge (s : BitVec 256) (k : Nat) : -1 ≤ lst s k ∧ lst s k < 256 ∨ 256 < k := by
  by_cases hk : k ≤ 256
  · left
    unfold lst
    cases e : (List.range k).filter (fun b => s.getLsbD b) with
    | nil => simp
    | cons x r =>
      have : x ∈ (List.range k).filter (fun b => s.getLsbD b) := by rw [e]; simp
      have := List.mem_range.1 (List.mem_filter.1 this).1
      simp; omega
  · right; omega

theorem ds_bits (n : Nat) : ∀ x, ds 2 n x = ((List.range n).filter fun j => x.testBit j).length := by
  induction n with
  | zero => intro x; rfl
  | succ n ih =>
    intro x
    rw [ds, ih, List.range_succ_eq_map, List.filter_cons, List.filter_map]
    have e0 : x.testBit 0 = decide (x % 2 = 1) := Nat.testBit_zero x
    have e1 : ((fun j => x.testBit j) ∘ Nat.succ) = fun j => (x / 2).testBit j := by funext j; simp [Function.comp, Nat.testBit_succ]
    rw [e0, e1]
    rcases Nat.mod_two_eq_zero_or_one x with h | h <;> simp [h] <;> omega
theorem cnt_bytes (s : BitVec 256) : cnt s 256 = (bytesOf s).length := by rw [bytesOf_filter]; rfl
theorem card_cnt (s : BitVec 256) : card s = cnt s 256 := by
  have h : ∀ i, (wb s i).length = ds 2 64 (wd s i) := fun i => by rw [ds_bits]; simp [wb, bitsL]
  rw [cnt_bytes]
  simp only [bytesOf, upto, List.length_append, List.length_nil, h, card]
  omega
theorem lst_bytes (s : BitVec 256) : max (lst s 256) 0 = ((bytesOf s).headD 0 : Int) := by
  rw [bytesOf_filter]; unfold lst
  cases (List.range 256).filter (fun b => s.getLsbD b) with
  | nil => rfl
  | cons x r => simp
theorem sameB_eq (s t : BitVec 256) : sameB s t.getLsbD = (s == t) := by
  rw [Bool.eq_iff_iff, sameB_iff, beq_iff_eq]
  constructor
  · intro h; exact BitVec.eq_of_getLsbD_eq h
  · rintro rfl i _; rfl
theorem empty_cnt (s : BitVec 256) : (s == 0#256) = ((cnt s 256 : Int) == 0) := by
  rw [Bool.eq_iff_iff, beq_iff_eq, beq_iff_eq]
  constructor
  · rintro rfl; simp [cnt]
  · intro h
    apply BitVec.eq_of_getLsbD_eq
    intro i hi
    have h0 : (List.range 256).filter (fun b => s.getLsbD b) = [] := List.eq_nil_of_length_eq_zero (by unfold cnt at h; omega)
    rw [List.filter_eq_nil_iff] at h0
    have := h0 i (by simpa using hi)
    simpa using this

end Go.Proofs.YtfoamihjmmgnlaaDoor
