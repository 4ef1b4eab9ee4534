/- Texts of this claim put together: RdH, Open. -/
import Derived.Test.YthhfpjehamhcbaaGreatDoorJoinMathRd4
import Derived.Test.YthhfpjehamhcbaaGreatDoorRows
import Derived.Test.YthhfpjehamhcbaaGreatDoorJoinMathRuns
import Derived.Test.YthhfpjehamhcbaaGreatDoorJoinRow
import Derived.ProofKit
import Derived.LaidMore
import Derived.OpenShut
import Derived.Stop.Joined
import Derived.Lib.LaidTab
/- The reader's steps, one by one; its run at the document's example. -/
namespace Go.Proofs.YthhfpjehamhcbaaGreatDoor
set_option maxRecDepth 100000
set_option linter.unusedSimpArgs false
set_option linter.unusedVariables false
open Go.RowKit Go.Shelf St

section
variable {n f : Nat} {st s1 s2 : St} {a : RE} {l : List RE} {z : RE × St}
theorem P_or (h1 : P n f .minus st = some (a, s1)) (h2 : P n f (.orL [a]) s1 = some z) : P n (f + 1) .or st = some z := by rw [P, h1]; exact h2
theorem P_minus (h1 : P n f .and st = some (a, s1)) (h2 : P n f (.minusL a) s1 = some z) : P n (f + 1) .minus st = some z := by rw [P, h1]; exact h2
theorem P_and (h1 : P n f .cat st = some (a, s1)) (h2 : P n f (.andL [a]) s1 = some z) : P n (f + 1) .and st = some z := by rw [P, h1]; exact h2
theorem P_cat (h1 : P n f .post st = some (a, s1)) (h2 : P n f (.catL [a]) s1 = some z) : P n (f + 1) .cat st = some z := by rw [P, h1]; exact h2
theorem P_post (h1 : P n f .atom st = some (a, s1)) (h2 : P n f (.postL a) s1 = some z) : P n (f + 1) .post st = some z := by rw [P, h1]; exact h2
theorem P_orL (hb : st.signB 124 = true) (h1 : P n f .minus (st.sign 124) = some (a, s1)) (h2 : P n f (.orL (l ++ [a])) s1 = some z) : P n (f + 1) (.orL l) st = some z := by rw [P, if_pos hb, h1]; exact h2
theorem P_orLE (hb : st.signB 124 = false) : P n (f + 1) (.orL l) st = some (rAny l, st.sign 124) := by rw [P, if_neg (by simp [hb])]
theorem P_andL (hb : st.signB 38 = true) (h1 : P n f .cat (st.sign 38) = some (a, s1)) (h2 : P n f (.andL (l ++ [a])) s1 = some z) : P n (f + 1) (.andL l) st = some z := by rw [P, if_pos hb, h1]; exact h2
theorem P_andLE (hb : st.signB 38 = false) : P n (f + 1) (.andL l) st = some (rBoth l, st.sign 38) := by rw [P, if_neg (by simp [hb])]
theorem P_minusL {r : RE} (hb : st.signB 45 = true) (h1 : P n f .and (st.sign 45) = some (a, s1)) (h2 : P n f (.minusL (rBut r a)) s1 = some z) : P n (f + 1) (.minusL r) st = some z := by rw [P, if_pos hb, h1]; exact h2
theorem P_minusLE {r : RE} (hb : st.signB 45 = false) : P n (f + 1) (.minusL r) st = some (r, st.sign 45) := by rw [P, if_neg (by simp [hb])]
theorem P_catL {b : Nat} {t : List Nat} (hs : st.skip.rest = b :: t) (hb : [124, 45, 38, 41].contains b = false) (h1 : P n f .post st.skip = some (a, s1)) (h2 : P n f (.catL (l ++ [a])) s1 = some z) : P n (f + 1) (.catL l) st = some z := by
  rw [P, hs]
  simp only [hb]
  rw [if_neg (by simp), h1]; exact h2
theorem P_star {r : RE} (hb : st.signB 42 = true) (hz : ¬ 1000 < (rMany r).size) (hc : (st.sign 42).counted n = s1) (h2 : P n f (.postL (rMany r)) s1 = some z) : P n (f + 1) (.postL r) st = some z := by
  rw [P, if_pos hb]
  unfold sized
  rw [if_neg hz]
  show P n f (.postL (rMany r)) ((st.sign 42).counted n) = _
  rw [hc]; exact h2
theorem P_paren (hb : st.signB 40 = true) (h1 : P n f .group (st.sign 40) = some (a, s1)) (hc : s1.counted n = s2) : P n (f + 1) .atom st = some (a, s2) := by
  rw [P, if_pos hb, h1, ← hc]; rfl
theorem P_group (hb : (st.deeper n).signB 41 = false) (h1 : P n f .or ((st.deeper n).sign 41) = some (a, s1)) (hc : (if s1.signB 41 then s1.sign 41 else (s1.sign 41).fail 2 ((s1.sign 41).pos n)).upper = s2) : P n (f + 1) .group st = some (a, s2) := by
  rw [P, if_neg (by simp [hb]), h1, ← hc]; rfl
end

/-- The document's example: (a|b)*c-abc. -/
def exL : List Nat := [40, 97, 124, 98, 41, 42, 99, 45, 97, 98, 99]
set_option maxHeartbeats 1000000 in
theorem ex_P (hz1 : ¬ 1000 < ((rMany (rAny [(rBoth [(rThen [(rOne (setOf [97]))])]), (rBoth [(rThen [(rOne (setOf [98]))])])]))).size) : P 11 228 .or (St.init exL) = some ((rAny [(rBut (rBoth [(rThen [(rMany (rAny [(rBoth [(rThen [(rOne (setOf [97]))])]), (rBoth [(rThen [(rOne (setOf [98]))])])])), (rOne (setOf [99]))])]) (rBoth [(rThen [(rOne (setOf [97])), (rOne (setOf [98])), (rOne (setOf [99]))])]))]), ⟨[], 0, 8, 0, 0⟩) := by
  have h1 : P 11 216 .atom ⟨[97, 124, 98, 41, 42, 99, 45, 97, 98, 99], 1, 0, 0, 0⟩ = some ((rOne (setOf [97])), ⟨[124, 98, 41, 42, 99, 45, 97, 98, 99], 1, 1, 0, 0⟩) := rfl
  have h2 : P 11 216 (.postL (rOne (setOf [97]))) ⟨[124, 98, 41, 42, 99, 45, 97, 98, 99], 1, 1, 0, 0⟩ = some ((rOne (setOf [97])), ⟨[124, 98, 41, 42, 99, 45, 97, 98, 99], 1, 1, 0, 0⟩) := rfl
  have h3 : P 11 217 .post ⟨[97, 124, 98, 41, 42, 99, 45, 97, 98, 99], 1, 0, 0, 0⟩ = some ((rOne (setOf [97])), ⟨[124, 98, 41, 42, 99, 45, 97, 98, 99], 1, 1, 0, 0⟩) := P_post h1 h2
  have h4 : P 11 217 (.catL [(rOne (setOf [97]))]) ⟨[124, 98, 41, 42, 99, 45, 97, 98, 99], 1, 1, 0, 0⟩ = some ((rThen [(rOne (setOf [97]))]), ⟨[124, 98, 41, 42, 99, 45, 97, 98, 99], 1, 1, 0, 0⟩) := rfl
  have h5 : P 11 218 .cat ⟨[97, 124, 98, 41, 42, 99, 45, 97, 98, 99], 1, 0, 0, 0⟩ = some ((rThen [(rOne (setOf [97]))]), ⟨[124, 98, 41, 42, 99, 45, 97, 98, 99], 1, 1, 0, 0⟩) := P_cat h3 h4
  have h6 : P 11 218 (.andL [(rThen [(rOne (setOf [97]))])]) ⟨[124, 98, 41, 42, 99, 45, 97, 98, 99], 1, 1, 0, 0⟩ = some ((rBoth [(rThen [(rOne (setOf [97]))])]), ⟨[124, 98, 41, 42, 99, 45, 97, 98, 99], 1, 1, 0, 0⟩) := P_andLE rfl
  have h7 : P 11 219 .and ⟨[97, 124, 98, 41, 42, 99, 45, 97, 98, 99], 1, 0, 0, 0⟩ = some ((rBoth [(rThen [(rOne (setOf [97]))])]), ⟨[124, 98, 41, 42, 99, 45, 97, 98, 99], 1, 1, 0, 0⟩) := P_and h5 h6
  have h8 : P 11 219 (.minusL (rBoth [(rThen [(rOne (setOf [97]))])])) ⟨[124, 98, 41, 42, 99, 45, 97, 98, 99], 1, 1, 0, 0⟩ = some ((rBoth [(rThen [(rOne (setOf [97]))])]), ⟨[124, 98, 41, 42, 99, 45, 97, 98, 99], 1, 1, 0, 0⟩) := P_minusLE rfl
  have h9 : P 11 220 .minus ⟨[97, 124, 98, 41, 42, 99, 45, 97, 98, 99], 1, 0, 0, 0⟩ = some ((rBoth [(rThen [(rOne (setOf [97]))])]), ⟨[124, 98, 41, 42, 99, 45, 97, 98, 99], 1, 1, 0, 0⟩) := P_minus h7 h8
  have h10 : P 11 215 .atom ⟨[98, 41, 42, 99, 45, 97, 98, 99], 1, 1, 0, 0⟩ = some ((rOne (setOf [98])), ⟨[41, 42, 99, 45, 97, 98, 99], 1, 2, 0, 0⟩) := rfl
  have h11 : P 11 215 (.postL (rOne (setOf [98]))) ⟨[41, 42, 99, 45, 97, 98, 99], 1, 2, 0, 0⟩ = some ((rOne (setOf [98])), ⟨[41, 42, 99, 45, 97, 98, 99], 1, 2, 0, 0⟩) := rfl
  have h12 : P 11 216 .post ⟨[98, 41, 42, 99, 45, 97, 98, 99], 1, 1, 0, 0⟩ = some ((rOne (setOf [98])), ⟨[41, 42, 99, 45, 97, 98, 99], 1, 2, 0, 0⟩) := P_post h10 h11
  have h13 : P 11 216 (.catL [(rOne (setOf [98]))]) ⟨[41, 42, 99, 45, 97, 98, 99], 1, 2, 0, 0⟩ = some ((rThen [(rOne (setOf [98]))]), ⟨[41, 42, 99, 45, 97, 98, 99], 1, 2, 0, 0⟩) := rfl
  have h14 : P 11 217 .cat ⟨[98, 41, 42, 99, 45, 97, 98, 99], 1, 1, 0, 0⟩ = some ((rThen [(rOne (setOf [98]))]), ⟨[41, 42, 99, 45, 97, 98, 99], 1, 2, 0, 0⟩) := P_cat h12 h13
  have h15 : P 11 217 (.andL [(rThen [(rOne (setOf [98]))])]) ⟨[41, 42, 99, 45, 97, 98, 99], 1, 2, 0, 0⟩ = some ((rBoth [(rThen [(rOne (setOf [98]))])]), ⟨[41, 42, 99, 45, 97, 98, 99], 1, 2, 0, 0⟩) := P_andLE rfl
  have h16 : P 11 218 .and ⟨[98, 41, 42, 99, 45, 97, 98, 99], 1, 1, 0, 0⟩ = some ((rBoth [(rThen [(rOne (setOf [98]))])]), ⟨[41, 42, 99, 45, 97, 98, 99], 1, 2, 0, 0⟩) := P_and h14 h15
  have h17 : P 11 218 (.minusL (rBoth [(rThen [(rOne (setOf [98]))])])) ⟨[41, 42, 99, 45, 97, 98, 99], 1, 2, 0, 0⟩ = some ((rBoth [(rThen [(rOne (setOf [98]))])]), ⟨[41, 42, 99, 45, 97, 98, 99], 1, 2, 0, 0⟩) := P_minusLE rfl
  have h18 : P 11 219 .minus ⟨[98, 41, 42, 99, 45, 97, 98, 99], 1, 1, 0, 0⟩ = some ((rBoth [(rThen [(rOne (setOf [98]))])]), ⟨[41, 42, 99, 45, 97, 98, 99], 1, 2, 0, 0⟩) := P_minus h16 h17
  have h19 : P 11 219 (.orL [(rBoth [(rThen [(rOne (setOf [97]))])]), (rBoth [(rThen [(rOne (setOf [98]))])])]) ⟨[41, 42, 99, 45, 97, 98, 99], 1, 2, 0, 0⟩ = some ((rAny [(rBoth [(rThen [(rOne (setOf [97]))])]), (rBoth [(rThen [(rOne (setOf [98]))])])]), ⟨[41, 42, 99, 45, 97, 98, 99], 1, 2, 0, 0⟩) := P_orLE rfl
  have h20 : P 11 220 (.orL [(rBoth [(rThen [(rOne (setOf [97]))])])]) ⟨[124, 98, 41, 42, 99, 45, 97, 98, 99], 1, 1, 0, 0⟩ = some ((rAny [(rBoth [(rThen [(rOne (setOf [97]))])]), (rBoth [(rThen [(rOne (setOf [98]))])])]), ⟨[41, 42, 99, 45, 97, 98, 99], 1, 2, 0, 0⟩) := P_orL rfl h18 h19
  have h21 : P 11 221 .or ⟨[97, 124, 98, 41, 42, 99, 45, 97, 98, 99], 1, 0, 0, 0⟩ = some ((rAny [(rBoth [(rThen [(rOne (setOf [97]))])]), (rBoth [(rThen [(rOne (setOf [98]))])])]), ⟨[41, 42, 99, 45, 97, 98, 99], 1, 2, 0, 0⟩) := P_or h9 h20
  have h22 : P 11 222 .group ⟨[97, 124, 98, 41, 42, 99, 45, 97, 98, 99], 0, 0, 0, 0⟩ = some ((rAny [(rBoth [(rThen [(rOne (setOf [97]))])]), (rBoth [(rThen [(rOne (setOf [98]))])])]), ⟨[42, 99, 45, 97, 98, 99], 0, 2, 0, 0⟩) := P_group rfl h21 rfl
  have h23 : P 11 223 .atom ⟨[40, 97, 124, 98, 41, 42, 99, 45, 97, 98, 99], 0, 0, 0, 0⟩ = some ((rAny [(rBoth [(rThen [(rOne (setOf [97]))])]), (rBoth [(rThen [(rOne (setOf [98]))])])]), ⟨[42, 99, 45, 97, 98, 99], 0, 3, 0, 0⟩) := P_paren rfl h22 rfl
  have h24 : P 11 222 (.postL (rMany (rAny [(rBoth [(rThen [(rOne (setOf [97]))])]), (rBoth [(rThen [(rOne (setOf [98]))])])]))) ⟨[99, 45, 97, 98, 99], 0, 4, 0, 0⟩ = some ((rMany (rAny [(rBoth [(rThen [(rOne (setOf [97]))])]), (rBoth [(rThen [(rOne (setOf [98]))])])])), ⟨[99, 45, 97, 98, 99], 0, 4, 0, 0⟩) := rfl
  have h25 : P 11 223 (.postL (rAny [(rBoth [(rThen [(rOne (setOf [97]))])]), (rBoth [(rThen [(rOne (setOf [98]))])])])) ⟨[42, 99, 45, 97, 98, 99], 0, 3, 0, 0⟩ = some ((rMany (rAny [(rBoth [(rThen [(rOne (setOf [97]))])]), (rBoth [(rThen [(rOne (setOf [98]))])])])), ⟨[99, 45, 97, 98, 99], 0, 4, 0, 0⟩) := P_star rfl hz1 rfl h24
  have h26 : P 11 224 .post ⟨[40, 97, 124, 98, 41, 42, 99, 45, 97, 98, 99], 0, 0, 0, 0⟩ = some ((rMany (rAny [(rBoth [(rThen [(rOne (setOf [97]))])]), (rBoth [(rThen [(rOne (setOf [98]))])])])), ⟨[99, 45, 97, 98, 99], 0, 4, 0, 0⟩) := P_post h23 h25
  have h27 : P 11 222 .atom ⟨[99, 45, 97, 98, 99], 0, 4, 0, 0⟩ = some ((rOne (setOf [99])), ⟨[45, 97, 98, 99], 0, 5, 0, 0⟩) := rfl
  have h28 : P 11 222 (.postL (rOne (setOf [99]))) ⟨[45, 97, 98, 99], 0, 5, 0, 0⟩ = some ((rOne (setOf [99])), ⟨[45, 97, 98, 99], 0, 5, 0, 0⟩) := rfl
  have h29 : P 11 223 .post ⟨[99, 45, 97, 98, 99], 0, 4, 0, 0⟩ = some ((rOne (setOf [99])), ⟨[45, 97, 98, 99], 0, 5, 0, 0⟩) := P_post h27 h28
  have h30 : P 11 223 (.catL [(rMany (rAny [(rBoth [(rThen [(rOne (setOf [97]))])]), (rBoth [(rThen [(rOne (setOf [98]))])])])), (rOne (setOf [99]))]) ⟨[45, 97, 98, 99], 0, 5, 0, 0⟩ = some ((rThen [(rMany (rAny [(rBoth [(rThen [(rOne (setOf [97]))])]), (rBoth [(rThen [(rOne (setOf [98]))])])])), (rOne (setOf [99]))]), ⟨[45, 97, 98, 99], 0, 5, 0, 0⟩) := rfl
  have h31 : P 11 224 (.catL [(rMany (rAny [(rBoth [(rThen [(rOne (setOf [97]))])]), (rBoth [(rThen [(rOne (setOf [98]))])])]))]) ⟨[99, 45, 97, 98, 99], 0, 4, 0, 0⟩ = some ((rThen [(rMany (rAny [(rBoth [(rThen [(rOne (setOf [97]))])]), (rBoth [(rThen [(rOne (setOf [98]))])])])), (rOne (setOf [99]))]), ⟨[45, 97, 98, 99], 0, 5, 0, 0⟩) := P_catL rfl rfl h29 h30
  have h32 : P 11 225 .cat ⟨[40, 97, 124, 98, 41, 42, 99, 45, 97, 98, 99], 0, 0, 0, 0⟩ = some ((rThen [(rMany (rAny [(rBoth [(rThen [(rOne (setOf [97]))])]), (rBoth [(rThen [(rOne (setOf [98]))])])])), (rOne (setOf [99]))]), ⟨[45, 97, 98, 99], 0, 5, 0, 0⟩) := P_cat h26 h31
  have h33 : P 11 225 (.andL [(rThen [(rMany (rAny [(rBoth [(rThen [(rOne (setOf [97]))])]), (rBoth [(rThen [(rOne (setOf [98]))])])])), (rOne (setOf [99]))])]) ⟨[45, 97, 98, 99], 0, 5, 0, 0⟩ = some ((rBoth [(rThen [(rMany (rAny [(rBoth [(rThen [(rOne (setOf [97]))])]), (rBoth [(rThen [(rOne (setOf [98]))])])])), (rOne (setOf [99]))])]), ⟨[45, 97, 98, 99], 0, 5, 0, 0⟩) := P_andLE rfl
  have h34 : P 11 226 .and ⟨[40, 97, 124, 98, 41, 42, 99, 45, 97, 98, 99], 0, 0, 0, 0⟩ = some ((rBoth [(rThen [(rMany (rAny [(rBoth [(rThen [(rOne (setOf [97]))])]), (rBoth [(rThen [(rOne (setOf [98]))])])])), (rOne (setOf [99]))])]), ⟨[45, 97, 98, 99], 0, 5, 0, 0⟩) := P_and h32 h33
  have h35 : P 11 222 .atom ⟨[97, 98, 99], 0, 5, 0, 0⟩ = some ((rOne (setOf [97])), ⟨[98, 99], 0, 6, 0, 0⟩) := rfl
  have h36 : P 11 222 (.postL (rOne (setOf [97]))) ⟨[98, 99], 0, 6, 0, 0⟩ = some ((rOne (setOf [97])), ⟨[98, 99], 0, 6, 0, 0⟩) := rfl
  have h37 : P 11 223 .post ⟨[97, 98, 99], 0, 5, 0, 0⟩ = some ((rOne (setOf [97])), ⟨[98, 99], 0, 6, 0, 0⟩) := P_post h35 h36
  have h38 : P 11 221 .atom ⟨[98, 99], 0, 6, 0, 0⟩ = some ((rOne (setOf [98])), ⟨[99], 0, 7, 0, 0⟩) := rfl
  have h39 : P 11 221 (.postL (rOne (setOf [98]))) ⟨[99], 0, 7, 0, 0⟩ = some ((rOne (setOf [98])), ⟨[99], 0, 7, 0, 0⟩) := rfl
  have h40 : P 11 222 .post ⟨[98, 99], 0, 6, 0, 0⟩ = some ((rOne (setOf [98])), ⟨[99], 0, 7, 0, 0⟩) := P_post h38 h39
  have h41 : P 11 220 .atom ⟨[99], 0, 7, 0, 0⟩ = some ((rOne (setOf [99])), ⟨[], 0, 8, 0, 0⟩) := rfl
  have h42 : P 11 220 (.postL (rOne (setOf [99]))) ⟨[], 0, 8, 0, 0⟩ = some ((rOne (setOf [99])), ⟨[], 0, 8, 0, 0⟩) := rfl
  have h43 : P 11 221 .post ⟨[99], 0, 7, 0, 0⟩ = some ((rOne (setOf [99])), ⟨[], 0, 8, 0, 0⟩) := P_post h41 h42
  have h44 : P 11 221 (.catL [(rOne (setOf [97])), (rOne (setOf [98])), (rOne (setOf [99]))]) ⟨[], 0, 8, 0, 0⟩ = some ((rThen [(rOne (setOf [97])), (rOne (setOf [98])), (rOne (setOf [99]))]), ⟨[], 0, 8, 0, 0⟩) := rfl
  have h45 : P 11 222 (.catL [(rOne (setOf [97])), (rOne (setOf [98]))]) ⟨[99], 0, 7, 0, 0⟩ = some ((rThen [(rOne (setOf [97])), (rOne (setOf [98])), (rOne (setOf [99]))]), ⟨[], 0, 8, 0, 0⟩) := P_catL rfl rfl h43 h44
  have h46 : P 11 223 (.catL [(rOne (setOf [97]))]) ⟨[98, 99], 0, 6, 0, 0⟩ = some ((rThen [(rOne (setOf [97])), (rOne (setOf [98])), (rOne (setOf [99]))]), ⟨[], 0, 8, 0, 0⟩) := P_catL rfl rfl h40 h45
  have h47 : P 11 224 .cat ⟨[97, 98, 99], 0, 5, 0, 0⟩ = some ((rThen [(rOne (setOf [97])), (rOne (setOf [98])), (rOne (setOf [99]))]), ⟨[], 0, 8, 0, 0⟩) := P_cat h37 h46
  have h48 : P 11 224 (.andL [(rThen [(rOne (setOf [97])), (rOne (setOf [98])), (rOne (setOf [99]))])]) ⟨[], 0, 8, 0, 0⟩ = some ((rBoth [(rThen [(rOne (setOf [97])), (rOne (setOf [98])), (rOne (setOf [99]))])]), ⟨[], 0, 8, 0, 0⟩) := P_andLE rfl
  have h49 : P 11 225 .and ⟨[97, 98, 99], 0, 5, 0, 0⟩ = some ((rBoth [(rThen [(rOne (setOf [97])), (rOne (setOf [98])), (rOne (setOf [99]))])]), ⟨[], 0, 8, 0, 0⟩) := P_and h47 h48
  have h50 : P 11 225 (.minusL (rBut (rBoth [(rThen [(rMany (rAny [(rBoth [(rThen [(rOne (setOf [97]))])]), (rBoth [(rThen [(rOne (setOf [98]))])])])), (rOne (setOf [99]))])]) (rBoth [(rThen [(rOne (setOf [97])), (rOne (setOf [98])), (rOne (setOf [99]))])]))) ⟨[], 0, 8, 0, 0⟩ = some ((rBut (rBoth [(rThen [(rMany (rAny [(rBoth [(rThen [(rOne (setOf [97]))])]), (rBoth [(rThen [(rOne (setOf [98]))])])])), (rOne (setOf [99]))])]) (rBoth [(rThen [(rOne (setOf [97])), (rOne (setOf [98])), (rOne (setOf [99]))])])), ⟨[], 0, 8, 0, 0⟩) := P_minusLE rfl
  have h51 : P 11 226 (.minusL (rBoth [(rThen [(rMany (rAny [(rBoth [(rThen [(rOne (setOf [97]))])]), (rBoth [(rThen [(rOne (setOf [98]))])])])), (rOne (setOf [99]))])])) ⟨[45, 97, 98, 99], 0, 5, 0, 0⟩ = some ((rBut (rBoth [(rThen [(rMany (rAny [(rBoth [(rThen [(rOne (setOf [97]))])]), (rBoth [(rThen [(rOne (setOf [98]))])])])), (rOne (setOf [99]))])]) (rBoth [(rThen [(rOne (setOf [97])), (rOne (setOf [98])), (rOne (setOf [99]))])])), ⟨[], 0, 8, 0, 0⟩) := P_minusL rfl h49 h50
  have h52 : P 11 227 .minus ⟨[40, 97, 124, 98, 41, 42, 99, 45, 97, 98, 99], 0, 0, 0, 0⟩ = some ((rBut (rBoth [(rThen [(rMany (rAny [(rBoth [(rThen [(rOne (setOf [97]))])]), (rBoth [(rThen [(rOne (setOf [98]))])])])), (rOne (setOf [99]))])]) (rBoth [(rThen [(rOne (setOf [97])), (rOne (setOf [98])), (rOne (setOf [99]))])])), ⟨[], 0, 8, 0, 0⟩) := P_minus h34 h51
  have h53 : P 11 227 (.orL [(rBut (rBoth [(rThen [(rMany (rAny [(rBoth [(rThen [(rOne (setOf [97]))])]), (rBoth [(rThen [(rOne (setOf [98]))])])])), (rOne (setOf [99]))])]) (rBoth [(rThen [(rOne (setOf [97])), (rOne (setOf [98])), (rOne (setOf [99]))])]))]) ⟨[], 0, 8, 0, 0⟩ = some ((rAny [(rBut (rBoth [(rThen [(rMany (rAny [(rBoth [(rThen [(rOne (setOf [97]))])]), (rBoth [(rThen [(rOne (setOf [98]))])])])), (rOne (setOf [99]))])]) (rBoth [(rThen [(rOne (setOf [97])), (rOne (setOf [98])), (rOne (setOf [99]))])]))]), ⟨[], 0, 8, 0, 0⟩) := P_orLE rfl
  have h54 : P 11 228 .or ⟨[40, 97, 124, 98, 41, 42, 99, 45, 97, 98, 99], 0, 0, 0, 0⟩ = some ((rAny [(rBut (rBoth [(rThen [(rMany (rAny [(rBoth [(rThen [(rOne (setOf [97]))])]), (rBoth [(rThen [(rOne (setOf [98]))])])])), (rOne (setOf [99]))])]) (rBoth [(rThen [(rOne (setOf [97])), (rOne (setOf [98])), (rOne (setOf [99]))])]))]), ⟨[], 0, 8, 0, 0⟩) := P_or h52 h53
  exact h54
end Go.Proofs.YthhfpjehamhcbaaGreatDoor
/- A set that came in, opened; the table of math/bits, out of the row's condition. -/
namespace Go.Proofs.YthhfpjehamhcbaaGreatDoor
set_option maxRecDepth 100000
open Go.ChangeShapes Go.WideShapes Go.ChangeAt Go.WideMaps Go.WideElems Go.RowKit

/-- A set as data. -/
def SD {H : Type} (s : BitVec 256) : DataW H := .agg [.lit (.int .u64 (wd s 0)), .lit (.int .u64 (wd s 1)), .lit (.int .u64 (wd s 2)), .lit (.int .u64 (wd s 3))]

theorem mk_set (a b c d : Nat) (ha : a < 18446744073709551616) (hb : b < 18446744073709551616) (hc : c < 18446744073709551616) (hd : d < 18446744073709551616) : ∃ s : BitVec 256, wd s 0 = a ∧ wd s 1 = b ∧ wd s 2 = c ∧ wd s 3 = d := by
  refine ⟨BitVec.ofNat 256 (a + 18446744073709551616 * (b + 18446744073709551616 * (c + 18446744073709551616 * d))), ?_, ?_, ?_, ?_⟩ <;>
    (unfold wd; rw [BitVec.extractLsb'_toNat, BitVec.toNat_ofNat, Nat.shiftRight_eq_div_pow]; omega)

theorem own : ownKnob Tryz.prog.godebug = none := by kernel_rfl
theorem cells4 : Tryz.prog.cellsOf 49 = 4 := by kernel_rfl
theorem cells1 : Tryz.prog.cellsOf 47 = 1 := by kernel_rfl
theorem cellsB : Tryz.prog.cellsOf 5 = 1 := by kernel_rfl

theorem okWide_arr {P : Program} {w : World} {r : Reach} {base : Nat} {t e : TypeId} {v : Value} {n : Nat} (ht : P.underlying t = some (.array n e)) (h : Value.okWide P w r base t v) : ∃ cs, v = .agg cs ∧ cs.size = P.cellsOf t := by
  simp only [Value.okWide, ht] at h
  obtain ⟨cs, h1, h2, _⟩ := h
  exact ⟨cs, h1, h2⟩

theorem open_set {H : Type} {enc : TypeId × Value → H} {w : World} {r : Reach} {b0 base : Nat} {sp : Nat → Bool} {held : Bool} {v : Value} {d : DataW H} {p : List MemPlace}
    (hv : Value.okWide Tryz.prog w r b0 49 v) (h : DataW.Trod enc Tryz.prog w base sp held 49 v d p) : ∃ s, v = SV s ∧ d = SD s ∧ p = [] := by
  obtain ⟨cs, rfl, hsz⟩ := okWide_arr Tryz.underlying49 hv
  obtain ⟨fuel, hf⟩ := h
  obtain ⟨xs, m, rfl, hx, hl, hn, hel⟩ := DataW.trod_array Tryz.underlying49 hf
  rw [cells4] at hsz
  have h0 := hel 0 (by omega); have h1 := hel 1 (by omega); have h2 := hel 2 (by omega); have h3 := hel 3 (by omega)
  rw [cells1] at h0 h1 h2 h3
  obtain ⟨l⟩ := cs
  match l, hsz, xs, hn with
  | [c0, c1, c2, c3], _, [x0, x1, x2, x3], _ =>
    simp only [Value.cells, List.getElem?_cons_zero, List.getElem?_cons_succ] at h0 h1 h2 h3
    obtain ⟨a, e0, rfl, w0⟩ := DataW.trod_int Tryz.underlying47 h0
    obtain ⟨b, e1, rfl, w1⟩ := DataW.trod_int Tryz.underlying47 h1
    obtain ⟨c, e2, rfl, w2⟩ := DataW.trod_int Tryz.underlying47 h2
    obtain ⟨d', e3, rfl, w3⟩ := DataW.trod_int Tryz.underlying47 h3
    simp at e0 e1 e2 e3
    subst e0 e1 e2 e3
    have b0 := bounds_u64 w0; have b1 := bounds_u64 w1; have b2 := bounds_u64 w2; have b3 := bounds_u64 w3
    obtain ⟨a, rfl⟩ := Int.eq_ofNat_of_zero_le b0.1
    obtain ⟨b, rfl⟩ := Int.eq_ofNat_of_zero_le b1.1
    obtain ⟨c, rfl⟩ := Int.eq_ofNat_of_zero_le b2.1
    obtain ⟨d', rfl⟩ := Int.eq_ofNat_of_zero_le b3.1
    obtain ⟨s, g0, g1, g2, g3⟩ := mk_set a b c d' (by omega) (by omega) (by omega) (by omega)
    subst g0 g1 g2 g3
    simp at hx
    exact ⟨s, rfl, hx.1, hx.2⟩

theorem wf_wd (s : BitVec 256) (i : Nat) : (Lit.int .u64 (wd s i : Int)).wf = true := by
  have := wd_lt s i
  exact WalkArith.wf_u64 ⟨by omega, by omega⟩

theorem shut_set {H : Type} {enc : TypeId × Value → H} {w : World} {base : Nat} {sp : Nat → Bool} {held : Bool} (s : BitVec 256) : DataW.Trod enc Tryz.prog w base sp held 49 (SV s) (SD s) [] := by
  refine ⟨3, ?_⟩
  simp [DataW.trod, Tryz.underlying49, Tryz.underlying47, cells1, cells4, Value.cells, SD, wf_wd, List.range_succ]

theorem laidOut : laidOutB Tryz.prog = true := by kernel_rfl
theorem open_bytes {H : Type} {enc : TypeId × Value → H} {w : World} {r : Reach} {b0 base : Nat} {sp : Nat → Bool} {held : Bool} {v : Value} {d : DataW H} {p : List MemPlace}
    (hv : Value.okWide Tryz.prog w r b0 57 v) (h : DataW.Trod enc Tryz.prog w base sp held 57 v d p) : ∃ l, BytesRow w v l := by
  obtain ⟨a, len, cap, rfl⟩ := okWide_slice Tryz.underlying57 hv
  obtain ⟨fuel, hf⟩ := h
  rcases open_ints Tryz.underlying57 Tryz.underlying5 cellsB hf with ⟨hcs, _⟩ | ⟨x, l, c, zs, hcs, _, hl, hm, hz, _, hcell, hwz⟩
  · simp [Value.cells] at hcs
    obtain ⟨rfl, rfl, rfl⟩ := hcs
    exact ⟨[], by simp, by simp, none, 0, rfl, fun k hk => by simp at hk⟩
  · simp [Value.cells] at hcs
    obtain ⟨rfl, rfl, rfl⟩ := hcs
    have hlen : len ≤ zs.length := by rw [hz]; split <;> omega
    unfold maxLen at hm
    have hb : ∀ k, k < zs.length → 0 ≤ zs.getD k 0 ∧ zs.getD k 0 ≤ 255 := fun k hk => by
      refine bounds_u8 (hwz _ ?_)
      rw [List.getD_eq_getElem?_getD, List.getElem?_eq_getElem hk]; simp
    refine ⟨(zs.take len).map Int.toNat, ?_, by simp; omega, some x, cap, by simp [Nat.min_eq_left hlen], fun k hk => ?_⟩
    · intro y hy
      obtain ⟨z, hz1, rfl⟩ := List.mem_map.1 hy
      have := bounds_u8 (hwz z (List.mem_of_mem_take hz1))
      omega
    · have hk' : k < len := by simpa [Nat.min_eq_left hlen] using hk
      obtain ⟨b, off, rfl, hc⟩ := ints_at hcell (show 0 < zs.length by omega)
      refine ⟨b, off, rfl, World.block_lt_of_cell? _ _ (hc k (by omega)), ?_⟩
      rw [hc k (by omega)]
      have h0 := hb k (by omega)
      have e : ((zs.take len).map Int.toNat).getD k 0 = (zs.getD k 0).toNat := by
        rw [List.getD_eq_getElem?_getD, List.getD_eq_getElem?_getD, List.getElem?_map, List.getElem?_take_of_lt hk', List.getElem?_eq_getElem (show k < zs.length by omega)]; simp
      rw [e]
      congr 2
      omega

theorem gTab : Tryz.prog.globalNamed "math/bits.deBruijn64tab" = some 0 := by kernel_rfl
theorem tTab : (Tryz.prog.globals[0]?).map (·.type) = some 131 := by kernel_rfl
theorem cells64 : Tryz.prog.cellsOf 131 = 64 := by kernel_rfl
theorem laidTab : (Rows.laid_math_bits_deBruijn64tab : DataW Unit) = Lib.tabData .u8 (Lib.deBruijn64tab.map fun n : Nat => (n : Int)) := by kernel_rfl

theorem tab_of_laid {W : World} (h : laidMetH Tryz.prog [("math/bits.deBruijn64tab", Rows.laid_math_bits_deBruijn64tab)] W) : TabAt W := by
  rw [MakeChecks.laidMetH_plain _ _ _ (by kernel_rfl), laidTab] at h
  have hT := Lib.tabIs_of_head gTab tTab Tryz.underlying131 Tryz.underlying5 cellsB cells64 h
  intro j hj
  have := hT.cell gTab j (by simpa [Lib.deBruijn64tab] using hj)
  rw [this]
  have e : ((Lib.deBruijn64tab.map fun n : Nat => (n : Int)).getD j 0) = ((Lib.deBruijn64tab.getD j 0 : Nat) : Int) := by
    rw [List.getD_eq_getElem?_getD, List.getD_eq_getElem?_getD, List.getElem?_map]
    cases Lib.deBruijn64tab[j]? <;> rfl
  rw [e]

theorem door_met (os : Os) (args : Array Value) : laidMetH Tryz.prog [("math/bits.deBruijn64tab", Rows.laid_math_bits_deBruijn64tab)] ((World.doorLaid Tryz.prog 400 os).forCall (fun _ _ => 0) ⟨#[], args, []⟩).memory :=
  laidMetH_of_parts3 (fuel := 8) (laidMet_of_run' 8 (by kernel_rfl) (by kernel_rfl)) (by kernel_rfl) (by kernel_rfl)
end Go.Proofs.YthhfpjehamhcbaaGreatDoor
