/- Texts of this claim put together: LxE1. -/
import Derived.Test.YtjlgepahgmkamaaGreatDoorJoinLxH
import Derived.Test.YtjlgepahgmkamaaGreatDoorJoinRunI
/- Texts that can't go on: where the reader of programs ends. -/
namespace Go.Proofs.YtjlgepahgmkamaaGreatDoor
set_option maxRecDepth 100000
set_option linter.unusedSimpArgs false
set_option linter.unusedVariables false
open Go.RowKit Go.Shelf St

section
variable {s : ByteArray}
theorem drop_next {a c : Nat} {l : List Nat} (h : (bytesN s).drop a = c :: l) : (bytesN s).drop (a + 1) = l := by
  rw [← List.drop_drop, h]; rfl
theorem size_of {a : Nat} {l : List Nat} (h : (bytesN s).drop a = l) (ha : a ≤ s.size) : s.size = a + l.length := by
  have := congrArg List.length h
  rw [List.length_drop, bN_len] at this
  omega
theorem lt_of {a c : Nat} {l : List Nat} (h : (bytesN s).drop a = c :: l) : a < s.size := by
  have := congrArg List.length h
  rw [List.length_drop, bN_len] at this
  simp at this
  omega
theorem bN_extract (i j : Nat) : bytesN (s.extract i j) = ((bytesN s).drop i).take (j - i) := by
  unfold bytesN
  rw [ByteArray.data_extract, Array.toList_extract, ← List.map_drop, ← List.map_take]
def preL : Nat → List Nat
  | 0 => []
  | k + 1 => 120 :: 32 :: 47 :: 97 :: 47 :: 32 :: preL k
theorem scanL_pl {c : Nat} {r : List Nat} (h : c ≠ 92) (hp : plainB c = true) : scanL (c :: r) = (c, 1) := by rw [scanL, if_neg h, if_pos hp]
/-- The tests: their texts, errors and places; test 6 is a long word. -/
def lxTests : List (List Nat × Nat × Nat) := [([34, 97, 98, 99], 2, 4), ([47, 97], 2, 2), ([47, 97, 40, 47], 2, 3), ([65], 2, 0), ([34, 97, 92, 113, 34], 2, 2), ([34, 10, 34], 2, 1), (List.replicate 31 122, 3, 0), ([57], 2, 0), ([47, 91, 98, 45, 97, 93, 47], 2, 5), ([97, 33], 2, 1), ([34, 97, 92, 34], 2, 4)]
end
end Go.Proofs.YtjlgepahgmkamaaGreatDoor
