/- The runs of a set: bytes beside one another. -/
import Derived.Test.YtkjmjppmpcnejaaGreatDoorMathBits
namespace Go.Proofs.YtkjmjppmpcnejaaGreatDoor
set_option maxRecDepth 100000

/-- One byte more: what runs are over, and the one that is open. -/
def runStep (st : List (Nat × Nat) × Option (Nat × Nat)) (b : Nat) : List (Nat × Nat) × Option (Nat × Nat) :=
  match st with
  | (em, none) => (em, some (b, b))
  | (em, some (f, l)) => if b = l + 1 then (em, some (f, b)) else (em ++ [(f, l)], some (b, b))
def runSt (pre : List Nat) : List (Nat × Nat) × Option (Nat × Nat) := pre.foldl runStep ([], none)
theorem runSt_snoc (pre : List Nat) (b : Nat) : runSt (pre ++ [b]) = runStep (runSt pre) b := by simp [runSt]
/-- The runs of a list of bytes. -/
def runsL (l : List Nat) : List (Nat × Nat) := (runSt l).1 ++ (runSt l).2.toList
def runsOf (s : BitVec 256) : List (Nat × Nat) := runsL (bytesOf s)

theorem runStep_mono (st : List (Nat × Nat) × Option (Nat × Nat)) (b : Nat) : st.1 <+: (runStep st b).1 := by
  obtain ⟨em, cur⟩ := st
  cases cur with
  | none => exact List.prefix_rfl
  | some r =>
    obtain ⟨f, l⟩ := r
    simp only [runStep]
    split
    · exact List.prefix_rfl
    · exact List.prefix_append _ _
theorem runSt_mono (q : List Nat) : ∀ pre, (runSt pre).1 <+: (runSt (pre ++ q)).1 := by
  induction q with
  | nil => intro pre; rw [List.append_nil]; exact List.prefix_rfl
  | cons b q ih =>
    intro pre
    have h := ih (pre ++ [b])
    rw [List.append_assoc, List.singleton_append] at h
    refine List.IsPrefix.trans ?_ h
    rw [runSt_snoc]; exact runStep_mono _ _
theorem runSt_prefix {pre l : List Nat} (h : pre <+: l) : (runSt pre).1 <+: runsL l := by
  obtain ⟨q, rfl⟩ := h
  exact (runSt_mono q pre).trans (List.prefix_append _ _)
theorem runSt_none (pre : List Nat) : (runSt pre).2 = none → pre = [] := by
  intro h
  rcases List.eq_nil_or_concat pre with rfl | ⟨q, b, rfl⟩
  · rfl
  · rw [List.concat_eq_append] at *
    rw [runSt_snoc] at h
    generalize runSt q = st at h
    obtain ⟨em, cur⟩ := st
    cases cur with
    | none => simp [runStep] at h
    | some r => obtain ⟨f, l⟩ := r; simp only [runStep] at h; split at h <;> simp at h
/-- The open run ends with the last byte. -/
theorem runSt_last (pre : List Nat) (f l : Nat) : (runSt pre).2 = some (f, l) → ∃ q, pre = q ++ [l] := by
  intro h
  rcases List.eq_nil_or_concat pre with rfl | ⟨q, b, rfl⟩
  · simp [runSt] at h
  · refine ⟨q, ?_⟩
    rw [List.concat_eq_append] at *
    rw [runSt_snoc] at h
    generalize runSt q = st at h
    obtain ⟨em, cur⟩ := st
    cases cur with
    | none => simp [runStep] at h; rw [h.2]
    | some r =>
      obtain ⟨f', l'⟩ := r
      simp only [runStep] at h
      split at h
      · simp at h; rw [h.2]
      · simp at h; rw [h.2]
/-- Bytes are below 256, and go up. -/
theorem bytesOf_lt (s : BitVec 256) (x : Nat) (h : x ∈ bytesOf s) : x < 256 := by
  rw [bytesOf_filter] at h; have := (List.mem_filter.1 h).1; simpa using this
theorem bytesOf_up (s : BitVec 256) : (bytesOf s).Pairwise (· < ·) := by
  rw [bytesOf_filter]; exact List.Pairwise.filter _ List.pairwise_lt_range
theorem bytes_next (s : BitVec 256) (q : List Nat) (l x : Nat) (h : q ++ [l] ++ [x] <+: bytesOf s) : l < x ∧ x < 256 := by
  have hp := (bytesOf_up s).sublist h.sublist
  have hx : x ∈ bytesOf s := h.subset (by simp)
  refine ⟨?_, bytesOf_lt s x hx⟩
  rw [List.pairwise_append] at hp
  exact hp.2.2 l (by simp) x (by simp)
theorem bytes_prefix_lt (s : BitVec 256) (pre : List Nat) (x : Nat) (h : pre ++ [x] <+: bytesOf s) : x < 256 := bytesOf_lt s x (h.subset (by simp))

end Go.Proofs.YtkjmjppmpcnejaaGreatDoor
