/- Texts of this claim put together: MathNext, Marks. -/
import Derived.Test.YthhfpjehamhcbaaGreatDoorJoinMathRuns
import Derived.Test.YthhfpjehamhcbaaGreatDoorJoinMathBits
/- What comes next in a set: bytes and runs, in order. -/
namespace Go.Proofs.YthhfpjehamhcbaaGreatDoor
set_option maxRecDepth 100000

/-- One above the last byte that came. -/
def nxt (pre : List Nat) : Nat := (pre.getLast?.map (· + 1)).getD 0
theorem nxt_snoc (pre : List Nat) (x : Nat) : nxt (pre ++ [x]) = x + 1 := by simp [nxt]
theorem mem_bytes (s : BitVec 256) (j : Nat) : j ∈ bytesOf s ↔ j < 256 ∧ s.getLsbD j = true := by
  rw [bytesOf_filter, List.mem_filter, List.mem_range]
theorem next_byte (s : BitVec 256) (pre : List Nat) (x : Nat) (h : pre ++ [x] <+: bytesOf s) : nxt pre ≤ x ∧ x < 256 ∧ s.getLsbD x = true ∧ ∀ j, nxt pre ≤ j → j < x → s.getLsbD j = false := by
  have hx : x ∈ bytesOf s := h.subset (by simp)
  obtain ⟨hx1, hx2⟩ := (mem_bytes s x).1 hx
  obtain ⟨rest, hr⟩ := h
  have hup := bytesOf_up s
  rw [← hr, List.append_assoc, List.singleton_append, List.pairwise_append] at hup
  obtain ⟨u1, u2, u3⟩ := hup
  have hle : ∀ p ∈ pre, p < nxt pre := by
    intro p hp
    rcases List.eq_nil_or_concat pre with rfl | ⟨q, l, rfl⟩
    · simp at hp
    · rw [List.concat_eq_append] at *
      rw [nxt_snoc]
      rw [List.pairwise_append] at u1
      rcases List.mem_append.1 hp with hp | hp
      · have := u1.2.2 p hp l (by simp); omega
      · simp at hp; omega
  refine ⟨?_, hx1, hx2, ?_⟩
  · rcases List.eq_nil_or_concat pre with rfl | ⟨q, l, rfl⟩
    · simp [nxt]
    · rw [List.concat_eq_append] at *
      rw [nxt_snoc]
      have := u3 l (by simp) x (by simp)
      omega
  · intro j h1 h2
    cases hj : s.getLsbD j with
    | false => rfl
    | true =>
      have hm : j ∈ bytesOf s := (mem_bytes s j).2 ⟨by omega, hj⟩
      rw [← hr, List.append_assoc, List.singleton_append] at hm
      rcases List.mem_append.1 hm with hm | hm
      · have := hle j hm; omega
      · rcases List.mem_cons.1 hm with hm | hm
        · omega
        · have := (List.pairwise_cons.1 u2).1 j hm; omega

/-- The bytes of a run. -/
def runB (r : Nat × Nat) : List Nat := List.range' r.1 (r.2 + 1 - r.1)
/-- Runs that lie apart, each not empty. -/
def RunsOk (rs : List (Nat × Nat)) : Prop := (∀ r ∈ rs, r.1 ≤ r.2) ∧ rs.Pairwise fun r q => r.2 + 1 < q.1
theorem runB_ext (f l : Nat) (h : f ≤ l) : runB (f, l + 1) = runB (f, l) ++ [l + 1] := by
  unfold runB
  rw [show l + 1 + 1 - f = (l + 1 - f) + 1 from by omega, List.range'_concat, Nat.one_mul, show f + (l + 1 - f) = l + 1 from by omega]
theorem runB_one (b : Nat) : runB (b, b) = [b] := by simp [runB]
theorem mem_runB (r : Nat × Nat) (k : Nat) : k ∈ runB r ↔ r.1 ≤ k ∧ k ≤ r.2 := by
  unfold runB; rw [List.mem_range'_1]; omega
theorem length_runB (r : Nat × Nat) : (runB r).length = r.2 + 1 - r.1 := by simp [runB]

theorem runSt_spec (l : List Nat) (h : l.Pairwise (· < ·)) : (runsL l).flatMap runB = l ∧ RunsOk (runsL l) := by
  have key : ∀ n, ∀ l : List Nat, l.length = n → l.Pairwise (· < ·) → (runsL l).flatMap runB = l ∧ RunsOk (runsL l) := by
    intro n
    induction n with
    | zero =>
      intro l hl _
      obtain rfl := List.eq_nil_of_length_eq_zero hl
      exact ⟨rfl, by simp [RunsOk, runsL, runSt]⟩
    | succ n ih =>
      intro l hl hp
      rcases List.eq_nil_or_concat l with rfl | ⟨q, b, rfl⟩
      · simp at hl
      · rw [List.concat_eq_append] at *
        have hq := (List.pairwise_append.1 hp).1
        have hlt := (List.pairwise_append.1 hp).2.2
        obtain ⟨i1, i2, i3⟩ := ih q (by simpa using hl) hq
        have hl := runSt_last q
        have hnone := runSt_none q
        have hempty : q = [] → runSt q = ([], none) := by rintro rfl; rfl
        unfold runsL at *
        rw [runSt_snoc]
        generalize runSt q = st at *
        obtain ⟨em, cur⟩ := st
        cases cur with
        | none =>
          simp only [runStep, Option.toList_none, List.append_nil, Option.toList_some] at *
          have he : em = [] := congrArg Prod.fst (hempty (hnone trivial))
          subst he
          simp at i1
          subst i1
          exact ⟨by simp [runB_one], by simp [RunsOk]⟩
        | some r =>
          obtain ⟨f, la⟩ := r
          obtain ⟨q', rfl⟩ := hl f la rfl
          have hlb : la < b := hlt la (by simp) b (by simp)
          simp only [Option.toList_some] at i1 i2 i3
          have hfl : f ≤ la := i2 (f, la) (by simp)
          simp only [runStep]
          split
          · rename_i e
            subst e
            simp only [Option.toList_some]
            refine ⟨?_, ?_, ?_⟩
            · rw [List.flatMap_append, List.flatMap_singleton, runB_ext f la hfl, ← List.append_assoc]
              rw [List.flatMap_append, List.flatMap_singleton] at i1
              rw [i1]
            · intro r hr
              rcases List.mem_append.1 hr with hr | hr
              · exact i2 r (List.mem_append_left _ hr)
              · simp at hr; subst hr; simp; omega
            · rw [List.pairwise_append] at *
              refine ⟨i3.1, by simp, fun r hr q hq => ?_⟩
              simp at hq; subst hq
              exact i3.2.2 r hr (f, la) (by simp)
          · rename_i e
            simp only [Option.toList_some]
            refine ⟨?_, ?_, ?_⟩
            · rw [List.flatMap_append, List.flatMap_singleton, runB_one, i1]
            · intro r hr
              rcases List.mem_append.1 hr with hr | hr
              · exact i2 r hr
              · simp at hr; subst hr; simp
            · rw [List.pairwise_append]
              refine ⟨i3, by simp, fun r hr q hq => ?_⟩
              simp at hq; subst hq
              rcases List.mem_append.1 hr with hr | hr
              · have := (List.pairwise_append.1 i3).2.2 r hr (f, la) (by simp)
                simp at this ⊢; omega
              · simp at hr; subst hr; simp; omega
  exact key _ l rfl h

/-- One above the last run that came. -/
def nxr (pre : List (Nat × Nat)) : Nat := (pre.getLast?.map (·.2 + 1)).getD 0
theorem nxr_snoc (pre : List (Nat × Nat)) (r : Nat × Nat) : nxr (pre ++ [r]) = r.2 + 1 := by simp [nxr]
/-- How many bytes are in some runs. -/
def tot (rs : List (Nat × Nat)) : Nat := (rs.flatMap runB).length
theorem tot_snoc (pre : List (Nat × Nat)) (r : Nat × Nat) : tot (pre ++ [r]) = tot pre + (r.2 + 1 - r.1) := by
  simp [tot, length_runB]
theorem tot_runs (s : BitVec 256) : tot (runsOf s) = (bytesOf s).length := by
  unfold tot runsOf; rw [(runSt_spec _ (bytesOf_up s)).1]
theorem tot_le {pre rs : List (Nat × Nat)} (h : pre <+: rs) : tot pre ≤ tot rs := by
  obtain ⟨q, rfl⟩ := h; simp [tot]
theorem next_run (s : BitVec 256) (pre : List (Nat × Nat)) (a b : Nat) (h : pre ++ [(a, b)] <+: runsOf s) :
    nxr pre ≤ a ∧ a ≤ b ∧ b < 256 ∧ (∀ k, a ≤ k → k ≤ b → s.getLsbD k = true) ∧ (∀ k, k + 1 = a → s.getLsbD k = false) ∧ (b < 255 → s.getLsbD (b + 1) = false) := by
  obtain ⟨f1, o1, o2⟩ := runSt_spec _ (bytesOf_up s)
  obtain ⟨rest, hr⟩ := h
  have hr' : runsL (bytesOf s) = pre ++ (a, b) :: rest := by
    have : runsL (bytesOf s) = runsOf s := rfl
    rw [this, ← hr]; simp
  rw [hr'] at f1 o1 o2
  have hab : a ≤ b := o1 (a, b) (by simp)
  have mem : ∀ k, k ∈ bytesOf s ↔ (∃ r ∈ pre, r.1 ≤ k ∧ k ≤ r.2) ∨ (a ≤ k ∧ k ≤ b) ∨ (∃ r ∈ rest, r.1 ≤ k ∧ k ≤ r.2) := by
    intro k
    rw [← f1, List.mem_flatMap]
    simp only [List.mem_append, List.mem_cons, mem_runB]
    constructor
    · rintro ⟨r, (h | rfl | h), hk⟩
      · exact .inl ⟨r, h, hk⟩
      · exact .inr (.inl hk)
      · exact .inr (.inr ⟨r, h, hk⟩)
    · rintro (⟨r, h, hk⟩ | hk | ⟨r, h, hk⟩)
      · exact ⟨r, .inl h, hk⟩
      · exact ⟨(a, b), .inr (.inl rfl), hk⟩
      · exact ⟨r, .inr (.inr h), hk⟩
  have hpre : ∀ r ∈ pre, r.2 + 1 < a := fun r hr2 => (List.pairwise_append.1 o2).2.2 r hr2 (a, b) (by simp)
  have hrest : ∀ r ∈ rest, b + 1 < r.1 := fun r hr2 => (List.pairwise_cons.1 (List.pairwise_append.1 o2).2.1).1 r hr2
  have hb256 : b < 256 := ((mem_bytes s b).1 ((mem b).2 (.inr (.inl ⟨hab, Nat.le_refl _⟩)))).1
  have no : ∀ k, k < 256 → ¬ k ∈ bytesOf s → s.getLsbD k = false := fun k hk hn => by
    cases hj : s.getLsbD k with
    | false => rfl
    | true => exact absurd ((mem_bytes s k).2 ⟨hk, hj⟩) hn
  refine ⟨?_, hab, hb256, fun k h1 h2 => ((mem_bytes s k).1 ((mem k).2 (.inr (.inl ⟨h1, h2⟩)))).2, fun k hk => no k (by omega) fun hm => ?_, fun hb => no (b + 1) (by omega) fun hm => ?_⟩
  · rcases List.eq_nil_or_concat pre with rfl | ⟨q, r, rfl⟩
    · simp [nxr]
    · rw [List.concat_eq_append] at *
      rw [nxr_snoc]
      have := hpre r (by simp); omega
  · rcases (mem k).1 hm with ⟨r, h1, h2⟩ | h2 | ⟨r, h1, h2⟩
    · have := hpre r h1; omega
    · omega
    · have := hrest r h1; omega
  · rcases (mem (b + 1)).1 hm with ⟨r, h1, h2⟩ | h2 | ⟨r, h1, h2⟩
    · have := hpre r h1; omega
    · omega
    · have := hrest r h1; omega
end Go.Proofs.YthhfpjehamhcbaaGreatDoor
/- Leaving a function that ranged over functions: several marks. -/
namespace Go.Proofs.YthhfpjehamhcbaaGreatDoor
set_option maxRecDepth 100000
open Go.RowKit

/-- Several blocks for deferred calls, shut one behind the other. -/
def shutAll (W : World) : List Nat → World
  | [] => W
  | D :: Ds => shutAll (W.putObj D (.deferred none)) Ds
theorem leaves_marks {P : Program} {fn : Func} {R : Ending → World → Prop} {tmps : Array Value} {v : Value} : ∀ (Ds : List Nat) (W : World), Ds.Nodup → (∀ D ∈ Ds, W.heap[D]? = some (.deferred (some []))) →
    (results fn tmps).run P (shutAll W Ds) = .ok v (shutAll W Ds) → R (.returned v) (shutAll W Ds) → LeavesInM Fence.wide 0 P fn tmps R (Ds.map fun D => { target := .collected D, args := #[] }) .returning W
  | [], W, _, _, hr, hR => ⟨_, hr, hR⟩
  | D :: Ds, W, hn, hD, hr, hR => by
    refine ⟨by simp, .inl ⟨D, _, rfl, run_takeDeferred (hD D (by simp)), ?_⟩⟩
    refine leaves_marks Ds _ (List.nodup_cons.1 hn).2 (fun D' h' => ?_) hr hR
    have hne : D' ≠ D := fun e => (List.nodup_cons.1 hn).1 (e ▸ h')
    exact (World.putObj_heap_other hne).trans (hD D' (by simp [h']))
theorem Blk.shutAll {b : Nat} {c : Array Value} {t : TypeId} : ∀ (Ds : List Nat) {w : World}, Blk w b c t → (∀ D ∈ Ds, b ≠ D) → Blk (shutAll w Ds) b c t
  | [], _, h, _ => h
  | D :: Ds, _, h, hn => Blk.shutAll Ds (h.putObj D _ (hn D (by simp))) (fun D' h' => hn D' (by simp [h']))
theorem below_shutAll {B : Nat} {a : World} : ∀ (Ds : List Nat) {w : World}, Below B a w → (∀ D ∈ Ds, B ≤ D) → Below B a (shutAll w Ds)
  | [], _, h, _ => h
  | D :: Ds, _, h, hn => below_shutAll Ds (below_put h (hn D (by simp)) _) (fun D' h' => hn D' (by simp [h']))
end Go.Proofs.YthhfpjehamhcbaaGreatDoor
