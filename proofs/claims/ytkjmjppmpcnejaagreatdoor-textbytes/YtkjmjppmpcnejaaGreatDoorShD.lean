/- Shapes: Make. -/
import Derived.Test.YtkjmjppmpcnejaaGreatDoorShC
import Derived.Test.YtkjmjppmpcnejaaGreatDoorMathWf
namespace Go.Proofs.YtkjmjppmpcnejaaGreatDoor
set_option maxRecDepth 100000
set_option linter.unusedSimpArgs false
set_option linter.unusedVariables false
open Go.RowKit

def mkAt (k : Nat) (a b : Nat) (t : List Nat) (ks : List RE) : RE :=
  if k = 0 then rNothing else if k = 1 then rEmpty else if k = 2 then rOne (span a (b + 1)) else if k = 3 then rThen ks else if k = 4 then rAny ks else if k = 5 then rMany (ks.getD 0 rNothing) else if k = 6 then rBoth ks
  else if k = 7 then rBut (ks.getD 0 rNothing) (ks.getD 1 rNothing) else rWord t
/-- The expression of a shape. -/
def SHP.re : SHP → RE
  | .mk o l u t ks => mkAt (SHP.mk o l u t []).k (97 + l % 4) (97 + u % 4) (bytesN t) (ks.map fun k => k.re)
theorem SHP.re_mk (o : Int) (l u : Nat) (t : ByteArray) (ks : List SHP) : (SHP.mk o l u t ks).re = mkAt (SHP.mk o l u t ks).k (97 + l % 4) (97 + u % 4) (bytesN t) (ks.map SHP.re) := by rw [SHP.re]; rfl
theorem wf_mkAt (k a b : Nat) (t : List Nat) (ks : List RE) (h : ∀ r ∈ ks, Wf r) : Wf (mkAt k a b t ks) := by
  have hg : ∀ i, Wf (ks.getD i rNothing) := fun i => by
    by_cases hi : i < ks.length
    · rw [show ks.getD i rNothing = ks[i] from by simp [List.getD_eq_getElem?_getD, hi]]; exact h _ (List.getElem_mem hi)
    · rw [show ks.getD i rNothing = rNothing from by simp [List.getD_eq_getElem?_getD, hi]]; exact wf_nothing
  unfold mkAt
  repeat' split
  · exact wf_nothing
  · exact wf_empty
  · exact wf_one _
  · exact wf_then h
  · exact wf_any h
  · exact wf_many (hg 0)
  · exact wf_both h
  · exact wf_but (hg 0) (hg 1)
  · exact wf_word t
theorem cnt_mkAt (k a b : Nat) (t : List Nat) (ks : List RE) (ht : t.length ≤ 20) : (mkAt k a b t ks).cnt ≤ 22 + cntL ks := by
  have hg : ∀ i, (ks.getD i rNothing).cnt ≤ 1 + cntL ks := fun i => by
    by_cases hi : i < ks.length
    · rw [show ks.getD i rNothing = ks[i] from by simp [List.getD_eq_getElem?_getD, hi]]
      have : cntL ks = cntL (ks.take i) + cntL (ks.drop i) := by rw [← cntL_append, List.take_append_drop]
      rw [← List.getElem_cons_drop hi, cntL_cons] at this
      omega
    · rw [show ks.getD i rNothing = rNothing from by simp [List.getD_eq_getElem?_getD, hi], cnt_nothing]; omega
  have h01 : (ks.getD 0 rNothing).cnt + (ks.getD 1 rNothing).cnt ≤ 2 + cntL ks := by
    match ks with
    | [] => simp [cnt_nothing, cntL]
    | [x] => simp [cnt_nothing, cntL]; omega
    | x :: y :: r => simp [cntL]; omega
  have g0 := hg 0
  have q1 := cnt_then ks; have q2 := cnt_any ks; have q3 := cnt_both ks; have q4 := cnt_many (ks.getD 0 rNothing); have q5 := cnt_but (ks.getD 0 rNothing) (ks.getD 1 rNothing); have q6 := cnt_word t
  unfold mkAt
  repeat' split
  · rw [cnt_nothing]; omega
  · rw [cnt_empty]; omega
  · rw [cnt_one]; omega
  all_goals omega
theorem SHP.wf (s : SHP) : Wf s.re := by
  refine SHP.ind (P := fun s => Wf s.re) ?_ s
  intro o l u t ks ih
  rw [SHP.re_mk]
  refine wf_mkAt _ _ _ _ _ fun r hr => ?_
  obtain ⟨k, hk, rfl⟩ := List.mem_map.1 hr
  exact ih k hk
theorem SHP.cnt (s : SHP) : Tx s → s.re.cnt ≤ 22 * s.nodes := by
  refine SHP.ind (P := fun s => Tx s → s.re.cnt ≤ 22 * s.nodes) ?_ s
  intro o l u t ks ih h
  cases h with
  | mk _ _ _ _ _ ht hk =>
    rw [SHP.re_mk, SHP.nodes_mk]
    have h1 := cnt_mkAt (SHP.mk o l u t ks).k (97 + l % 4) (97 + u % 4) (bytesN t) (ks.map SHP.re) (by simpa [bytesN] using ht)
    have h2 : cntL (ks.map SHP.re) ≤ 22 * (ks.map SHP.nodes).sum := by
      clear h1
      induction ks with
      | nil => simp [cntL]
      | cons x ks ihk =>
        have e1 := ih x (by simp) (hk x (by simp))
        have e2 := ihk (fun k hk' => ih k (by simp [hk'])) (fun k hk' => hk k (by simp [hk']))
        rw [List.map_cons, cntL_cons, List.map_cons, List.sum_cons]
        omega
    omega
end Go.Proofs.YtkjmjppmpcnejaaGreatDoor
