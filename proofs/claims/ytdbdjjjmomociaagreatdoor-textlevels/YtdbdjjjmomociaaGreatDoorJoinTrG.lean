/- Texts of this claim put together: ShC, ShD, ShE, TrE, TrF, TrG. -/
import Derived.Test.YtdbdjjjmomociaaGreatDoorJoinShB
import Derived.Test.YtdbdjjjmomociaaGreatDoorJoinOpen
import Derived.Test.YtdbdjjjmomociaaGreatDoorJoinReO
import Derived.Deep.LoopGhost
/- Shapes: Few, op, low. -/
namespace Go.Proofs.YtdbdjjjmomociaaGreatDoor
set_option maxRecDepth 100000
set_option linter.unusedSimpArgs false
set_option linter.unusedVariables false
open Go.RowKit

theorem few_any (s : SHP) (cs : List Value) (w : World) (h : ShC w cs s) :
    Calls Tryz.prog 27 #[ShVal cs] w fun e w' => ∃ b : Bool, e = .returned (.bool b) ∧ (b = true → Tx s ∧ s.nodes ≤ 30) ∧ Below w.heap.size w w' := by
  have hb := (Below.refl w.heap.size w).alloc (Nat.le_refl _) (.cells cs.toArray 61)
  have hc := count_any s cs 0 _ (h.keep hb) (by omega)
  obtain ⟨v, rfl, hr, -⟩ := h.open
  obtain ⟨-, a, cap, rfl, -⟩ := hr.at
  have HC := hide hc
  have HB := hide hb
  clear hc hb h hr
  unfold ShVal at *
  go_enter Tryz.func27, Tryz.ntmps27
  go_wp2_with fail
  refine HC.out.mono ?_
  rintro e w1 ⟨c, rfl, -, h3, hb1⟩
  have H3 := hide h3
  have HB1 := hide (HB.out.trans (hb1.mono (by simp)))
  clear h3 hb1 HC
  go_wp2
  go_ret
  refine ⟨_, rfl, fun hd => ?_, HB1.out⟩
  have hd' : (c : Int) ≤ 30 := by simpa using hd
  obtain ⟨h1, h2⟩ := H3.out (by omega)
  exact ⟨h1, by omega⟩

/-- Which one. -/
def SHP.k (s : SHP) : Nat := (s.op % 18446744073709551616).toNat % 9
theorem op_any (s : SHP) (cs : List Value) (w : World) (h : ShC w cs s) :
    Calls Tryz.prog 60 #[ShVal cs] w fun e w' => e = .returned (.int .i64 s.k) ∧ Below w.heap.size w w' := by
  obtain ⟨v, rfl, hr, ho, -⟩ := h.open
  obtain ⟨-, a, cap, rfl, -⟩ := hr.at
  clear h hr
  have e1 : IntKind.u64.wrap s.op = s.op % 18446744073709551616 := by simp [IntKind.wrap, IntKind.signed, IntKind.bits]
  obtain ⟨m, hm⟩ : ∃ m : Nat, s.op % 18446744073709551616 = (m : Int) := ⟨(s.op % 18446744073709551616).toNat, by omega⟩
  have hk : s.k = m % 9 := by unfold SHP.k; rw [hm]; simp
  rw [hm] at e1
  have hm2 : (m : Int) < 18446744073709551616 := by omega
  unfold ShVal
  go_enter Tryz.func60, Tryz.ntmps60
  go_wp2
  go_ret
  refine ⟨?_, (Below.refl _ _).alloc (Nat.le_refl _) _⟩
  show Ending.returned (.int .i64 ((m : Int) % 9)) = _
  rw [hk]; rfl

theorem u8_and3 (n : Nat) (h : n < 256) : bits .and .u8 (n : Int) 3 = ((n % 4 : Nat) : Int) := by
  have key : ∀ m : Nat, m < 256 → bits .and .u8 (m : Int) 3 = ((m % 4 : Nat) : Int) := by decide +kernel
  exact key n h
theorem x_fieldS (ρ : Operand → Value) (d : Option Tmp) (x : Operand) (t : TypeId) (pos : String) (af : Array Edge) (g : Option (Nat × Bool)) (b : Nat) (hx : ρ x = PT b) (w : World) :
    (execOp ρ { dst := d, op := .fieldAddr 61 x 1, type := t, pos := pos, after := af, guard := g }).run Tryz.prog w = .ok (.value (.pointer (some ⟨b, 1, none⟩))) w ∧
    (execOp ρ { dst := d, op := .fieldAddr 61 x 2, type := t, pos := pos, after := af, guard := g }).run Tryz.prog w = .ok (.value (.pointer (some ⟨b, 2, none⟩))) w := by
  constructor <;> simp [go_sem, hx, PT]
theorem x_loadB (ρ : Operand → Value) (d : Option Tmp) (x : Operand) (t : TypeId) (pos : String) (af : Array Edge) (g : Option (Nat × Bool)) (b n : Nat) (v : Int) (hx : ρ x = .pointer (some ⟨b, n, none⟩)) (w : World) (hc : w.cell? ⟨b, n, none⟩ = some (.int .u8 v)) :
    (execOp ρ { dst := d, op := .load 5 x, type := t, pos := pos, after := af, guard := g }).run Tryz.prog w = .ok (.value (.int .u8 v)) w := by
  simp [go_sem, hx, hc]
theorem x_and3 (ρ : Operand → Value) (d : Option Tmp) (x : Operand) (t : TypeId) (pos : String) (af : Array Edge) (g : Option (Nat × Bool)) (n : Nat) (hx : ρ x = .int .u8 n) (hy : ρ (.const (.int .u8 3)) = .int .u8 3) (h : n < 256) (w : World) :
    (execOp ρ { dst := d, op := .binOp .and 5 x (.const (.int .u8 3)) 5, type := t, pos := pos, after := af, guard := g }).run Tryz.prog w = .ok (.value (.int .u8 ((n % 4 : Nat) : Int))) w := by
  have e := u8_and3 n h
  simp [go_sem, hx, hy, e]
theorem x_add97 (ρ : Operand → Value) (d : Option Tmp) (x : Operand) (t : TypeId) (pos : String) (af : Array Edge) (g : Option (Nat × Bool)) (n : Nat) (hx : ρ x = .int .u8 n) (hy : ρ (.const (.int .u8 97)) = .int .u8 97) (h : n < 4) (w : World) :
    (execOp ρ { dst := d, op := .binOp .add 5 (.const (.int .u8 97)) x 5, type := t, pos := pos, after := af, guard := g }).run Tryz.prog w = .ok (.value (.int .u8 ((97 + n : Nat) : Int))) w := by
  have e : IntKind.u8.wrap (97 + (n : Int)) = ((97 + n : Nat) : Int) := by simp [IntKind.wrap, IntKind.signed, IntKind.bits]; omega
  simp [go_sem, hx, hy, e]
set_option maxHeartbeats 1000000 in
theorem low_any (s : SHP) (cs : List Value) (w : World) (h : ShC w cs s) :
    Calls Tryz.prog 61 #[ShVal cs] w fun e w' => e = .returned (.tuple #[.int .u8 ((97 + s.lo % 4 : Nat) : Int), .int .u8 ((97 + s.hi % 4 : Nat) : Int)]) ∧ Below w.heap.size w w' := by
  obtain ⟨v, rfl, hr, ho, hlo, hhi, -⟩ := h.open
  obtain ⟨-, a, cap, rfl, -⟩ := hr.at
  clear h hr
  obtain ⟨C, hCd⟩ : ∃ C : World → Prop, C = fun W => Below w.heap.size w W ∧ W.cell? ⟨w.heap.size, 1, none⟩ = some (.int .u8 s.lo) ∧ W.cell? ⟨w.heap.size, 2, none⟩ = some (.int .u8 s.hi) := ⟨_, rfl⟩
  have hC0 : C (w.alloc (.cells #[.int .i64 s.op, .int .u8 s.lo, .int .u8 s.hi, .string s.text, .slice a s.kids.length cap] 61)) := by
    rw [hCd]
    have hb := Blk.newAt (w := w) rfl #[.int .i64 s.op, .int .u8 s.lo, .int .u8 s.hi, .string s.text, .slice a s.kids.length cap] 61
    exact ⟨(Below.refl _ _).alloc (Nat.le_refl _) _, hb.cell 1, hb.cell 2⟩
  have hCb : ∀ W, C W → Below w.heap.size w W := fun W h => by rw [hCd] at h; exact h.1
  have hC1 : ∀ W, C W → W.cell? ⟨w.heap.size, 1, none⟩ = some (.int .u8 s.lo) := fun W h => by rw [hCd] at h; exact h.2.1
  have hC2 : ∀ W, C W → W.cell? ⟨w.heap.size, 2, none⟩ = some (.int .u8 s.hi) := fun W h => by rw [hCd] at h; exact h.2.2
  have hCd2 : ∀ W, C W → C { W with drawn := W.drawn + 1 } := fun W h => by
    rw [hCd] at h ⊢
    exact ⟨⟨h.1.os, h.1.tape, h.1.output, h.1.size, h.1.block⟩, h.2⟩
  clear hCd
  unfold ShVal
  go_enter Tryz.func61, Tryz.ntmps61
  go_wp2
  rw [show Value.pointer (some ⟨w.heap.size, 0, none⟩) = PT w.heap.size from rfl]
  refine w_lit (C := C) (by kernel_rfl) (by kernel_rfl) (hCd2 _ hC0) ?_
  refine w_value (.pointer (some ⟨w.heap.size, 1, none⟩)) (by kernel_rfl) (fun w hw => (x_fieldS _ _ _ _ _ _ _ _ rfl w).1) ?_
  simp only [Act.put, List.setIfInBounds_toArray, List.set_cons_succ, List.set_cons_zero]
  refine w_value (.int .u8 s.lo) (by kernel_rfl) (fun w hw => x_loadB _ _ _ _ _ _ _ _ _ _ rfl w (hC1 w hw)) ?_
  simp only [Act.put, List.setIfInBounds_toArray, List.set_cons_succ, List.set_cons_zero]
  refine w_value (.int .u8 ((s.lo % 4 : Nat) : Int)) (by kernel_rfl) (fun w hw => x_and3 _ _ _ _ _ _ _ s.lo rfl rfl hlo w) ?_
  simp only [Act.put, List.setIfInBounds_toArray, List.set_cons_succ, List.set_cons_zero]
  refine w_value (.int .u8 ((97 + s.lo % 4 : Nat) : Int)) (by kernel_rfl) (fun w hw => x_add97 _ _ _ _ _ _ _ (s.lo % 4) rfl rfl (by omega) w) ?_
  simp only [Act.put, List.setIfInBounds_toArray, List.set_cons_succ, List.set_cons_zero]
  refine w_value (.pointer (some ⟨w.heap.size, 2, none⟩)) (by kernel_rfl) (fun w hw => (x_fieldS _ _ _ _ _ _ _ _ rfl w).2) ?_
  simp only [Act.put, List.setIfInBounds_toArray, List.set_cons_succ, List.set_cons_zero]
  refine w_value (.int .u8 s.hi) (by kernel_rfl) (fun w hw => x_loadB _ _ _ _ _ _ _ _ _ _ rfl w (hC2 w hw)) ?_
  simp only [Act.put, List.setIfInBounds_toArray, List.set_cons_succ, List.set_cons_zero]
  refine w_value (.int .u8 ((s.hi % 4 : Nat) : Int)) (by kernel_rfl) (fun w hw => x_and3 _ _ _ _ _ _ _ s.hi rfl rfl hhi w) ?_
  simp only [Act.put, List.setIfInBounds_toArray, List.set_cons_succ, List.set_cons_zero]
  refine w_value (.int .u8 ((97 + s.hi % 4 : Nat) : Int)) (by kernel_rfl) (fun w hw => x_add97 _ _ _ _ _ _ _ (s.hi % 4) rfl rfl (by omega) w) ?_
  simp only [Act.put, List.setIfInBounds_toArray, List.set_cons_succ, List.set_cons_zero]
  refine w_value (.int .u8 ((97 + s.lo % 4 : Nat) : Int)) (by kernel_rfl) (fun w hw => x_assign _ _ _ _ _ _ _ _ rfl w) ?_
  simp only [Act.put, List.setIfInBounds_toArray, List.set_cons_succ, List.set_cons_zero]
  refine w_value (.int .u8 ((97 + s.hi % 4 : Nat) : Int)) (by kernel_rfl) (fun w hw => x_assign _ _ _ _ _ _ _ _ rfl w) ?_
  simp only [Act.put, List.setIfInBounds_toArray, List.set_cons_succ, List.set_cons_zero]
  refine w_nil ?_
  intro w1 hw1
  have HB := hide (hCb _ hw1)
  clear hC0 hCb hC1 hC2 hCd2 hw1
  go_wp2
  exact bodyPost_ret (v := .tuple #[.int .u8 ((97 + s.lo % 4 : Nat) : Int), .int .u8 ((97 + s.hi % 4 : Nat) : Int)]) (by simp [results, Tryz.results61, go_sem]) rfl ⟨rfl, HB.out⟩
end Go.Proofs.YtdbdjjjmomociaaGreatDoor
/- Shapes: Make. -/
namespace Go.Proofs.YtdbdjjjmomociaaGreatDoor
set_option maxRecDepth 100000
set_option linter.unusedSimpArgs false
set_option linter.unusedVariables false
open Go.RowKit

def mkAt (k : Nat) (a b : Nat) (t : List Nat) (ks : List RE) : RE :=
  if k = 0 then rNothing else if k = 1 then rEmpty else if k = 2 then rOne (span a (b + 1)) else if k = 3 then rThen ks else if k = 4 then rAny ks else if k = 5 then rMany (ks.getD 0 rNothing) else if k = 6 then rBoth ks
  else if k = 7 then rBut (ks.getD 0 rNothing) (ks.getD 1 rNothing) else rWord t
/-- The expression of a shape. -/
def SHP.re : SHP → RE
  | .mk o l u t ks => mkAt (SHP.mk o l u t []).k (97 + l % 4) (97 + u % 4) (bytesN t) (ks.map fun k => k.re)
theorem SHP.re_mk (o : Int) (l u : Nat) (t : ByteArray) (ks : List SHP) : (SHP.mk o l u t ks).re = mkAt (SHP.mk o l u t ks).k (97 + l % 4) (97 + u % 4) (bytesN t) (ks.map SHP.re) := by rw [SHP.re]; rfl
theorem wf_mkAt (k a b : Nat) (t : List Nat) (ks : List RE) (h : ∀ r ∈ ks, Wf r) : Wf (mkAt k a b t ks) := by
  have hg : ∀ i, Wf (ks.getD i rNothing) := fun i => by
    by_cases hi : i < ks.length
    · rw [show ks.getD i rNothing = ks[i] from by simp [List.getD_eq_getElem?_getD, hi]]; exact h _ (List.getElem_mem hi)
    · rw [show ks.getD i rNothing = rNothing from by simp [List.getD_eq_getElem?_getD, hi]]; exact wf_nothing
  unfold mkAt
  repeat' split
  · exact wf_nothing
  · exact wf_empty
  · exact wf_one _
  · exact wf_then h
  · exact wf_any h
  · exact wf_many (hg 0)
  · exact wf_both h
  · exact wf_but (hg 0) (hg 1)
  · exact wf_word t
theorem cnt_mkAt (k a b : Nat) (t : List Nat) (ks : List RE) (ht : t.length ≤ 20) : (mkAt k a b t ks).cnt ≤ 22 + cntL ks := by
  have hg : ∀ i, (ks.getD i rNothing).cnt ≤ 1 + cntL ks := fun i => by
    by_cases hi : i < ks.length
    · rw [show ks.getD i rNothing = ks[i] from by simp [List.getD_eq_getElem?_getD, hi]]
      have : cntL ks = cntL (ks.take i) + cntL (ks.drop i) := by rw [← cntL_append, List.take_append_drop]
      rw [← List.getElem_cons_drop hi, cntL_cons] at this
      omega
    · rw [show ks.getD i rNothing = rNothing from by simp [List.getD_eq_getElem?_getD, hi], cnt_nothing]; omega
  have h01 : (ks.getD 0 rNothing).cnt + (ks.getD 1 rNothing).cnt ≤ 2 + cntL ks := by
    match ks with
    | [] => simp [cnt_nothing, cntL]
    | [x] => simp [cnt_nothing, cntL]; omega
    | x :: y :: r => simp [cntL]; omega
  have g0 := hg 0
  have q1 := cnt_then ks; have q2 := cnt_any ks; have q3 := cnt_both ks; have q4 := cnt_many (ks.getD 0 rNothing); have q5 := cnt_but (ks.getD 0 rNothing) (ks.getD 1 rNothing); have q6 := cnt_word t
  unfold mkAt
  repeat' split
  · rw [cnt_nothing]; omega
  · rw [cnt_empty]; omega
  · rw [cnt_one]; omega
  all_goals omega
theorem SHP.wf (s : SHP) : Wf s.re := by
  refine SHP.ind (P := fun s => Wf s.re) ?_ s
  intro o l u t ks ih
  rw [SHP.re_mk]
  refine wf_mkAt _ _ _ _ _ fun r hr => ?_
  obtain ⟨k, hk, rfl⟩ := List.mem_map.1 hr
  exact ih k hk
theorem SHP.cnt (s : SHP) : Tx s → s.re.cnt ≤ 22 * s.nodes := by
  refine SHP.ind (P := fun s => Tx s → s.re.cnt ≤ 22 * s.nodes) ?_ s
  intro o l u t ks ih h
  cases h with
  | mk _ _ _ _ _ ht hk =>
    rw [SHP.re_mk, SHP.nodes_mk]
    have h1 := cnt_mkAt (SHP.mk o l u t ks).k (97 + l % 4) (97 + u % 4) (bytesN t) (ks.map SHP.re) (by simpa [bytesN] using ht)
    have h2 : cntL (ks.map SHP.re) ≤ 22 * (ks.map SHP.nodes).sum := by
      clear h1
      induction ks with
      | nil => simp [cntL]
      | cons x ks ihk =>
        have e1 := ih x (by simp) (hk x (by simp))
        have e2 := ihk (fun k hk' => ih k (by simp [hk'])) (fun k hk' => hk k (by simp [hk']))
        rw [List.map_cons, cntL_cons, List.map_cons, List.sum_cons]
        omega
    omega
end Go.Proofs.YtdbdjjjmomociaaGreatDoor
/- A row of pointers that grows while what they point at is made: behind its end it holds nil alone. -/
namespace Go.Proofs.YtdbdjjjmomociaaGreatDoor
set_option maxRecDepth 100000
set_option linter.unusedSimpArgs false
set_option linter.unusedVariables false
open Go.RowKit

/-- What reads no nil cell of block g stays, where all else stays. -/
theorem ReAt.past {W W' : World} {g b : Nat} {r : RE} {c c' : Array Value} (h : ReAt W b r) (hs : W.heap.size ≤ W'.heap.size) (hk : ∀ k, k < W.heap.size → k ≠ g → W'.heap[k]? = W.heap[k]?)
    (hg : Blk W g c 23) (hg' : Blk W' g c' 23) (hc : ∀ (j : Nat) (u : Value), c[j]? = some u → u ≠ .pointer none → c'[j]? = some u) : ReAt W' b r := by
  induction h with
  | mk b o s ks v bs blk row kid ih =>
    have hne : b ≠ g := by
      rintro rfl
      have e := blk.of_cells.symm.trans hg.of_cells
      injection e with e; injection e with _ e2
      exact absurd e2 (by decide)
    refine .mk b o s ks v bs ((hk b blk.lt hne).trans blk) ?_ ih
    obtain ⟨h1, a, cap, rfl, h2⟩ := row
    refine ⟨h1, a, cap, rfl, fun k hk' => ?_⟩
    obtain ⟨b', off, e, hlt, hcell⟩ := h2 k hk'
    refine ⟨b', off, e, Nat.lt_of_lt_of_le hlt hs, ?_⟩
    by_cases e' : b' = g
    · subst e'
      rw [hg.cell] at hcell
      rw [hg'.cell]
      exact hc _ _ hcell (by simp [PT])
    · rw [← hcell]
      exact World.cell?_of_block (w := W) (hk b' hlt e')

structure OwnZ (W : World) (base : Nat) (v : Value) (ps : List (Nat × RE)) : Prop where
  own : ∃ g cap cur, v = .slice (some ⟨g, 0, none⟩) ps.length cap ∧ base ≤ g ∧ Blk W g cur 23 ∧ ps.length ≤ cap ∧ cap ≤ maxLen ∧ cur.toList = ptrs ps ++ List.replicate (cap - ps.length) (.pointer none)
theorem ptrs_length (ps : List (Nat × RE)) : (ptrs ps).length = ps.length := by simp [ptrs]
theorem OwnZ.start {W : World} {base g : Nat} (hg : Blk W g #[] 23) (hb : base ≤ g) : OwnZ W base (.slice (some ⟨g, 0, none⟩) 0 0) [] :=
  ⟨g, 0, #[], rfl, hb, hg, by simp, by unfold maxLen; omega, rfl⟩
theorem OwnZ.keep {W W' : World} {base : Nat} {v : Value} {ps : List (Nat × RE)} (h : OwnZ W base v ps) (hb : Below W.heap.size W W') : OwnZ W' base v ps := by
  obtain ⟨g, cap, cur, e, h1, h2, h3⟩ := h.own
  exact ⟨g, cap, cur, e, h1, h2.below hb h2.lt, h3⟩
theorem OwnZ.row {W : World} {base : Nat} {v : Value} {ps : List (Nat × RE)} (h : OwnZ W base v ps) (hl : ps.length ≤ 4611686018427387904) : RowAt W v ps := by
  obtain ⟨g, cap, cur, rfl, h1, h2, h3, h4, h5⟩ := h.own
  refine ⟨⟨hl, .mk h3⟩, _, cap, rfl, fun j p hp => ⟨g, 0, rfl, h2.lt, ?_⟩⟩
  have hj : j < ps.length := (List.getElem?_eq_some_iff.1 hp).1
  rw [h2.cell, Nat.zero_add, ← Array.getElem?_toList, h5, List.getElem?_append_left (by rw [ptrs_length]; exact hj), ptrs, List.getElem?_map, hp]; rfl
/-- append of one pointer. -/
theorem run_appendZ {W : World} {base : Nat} {v : Value} {ps : List (Nat × RE)} (h : OwnZ W base v ps) (ty : TypeId) (sb b : Nat) (r : RE) (hs : Blk W sb #[PT b] 23) (hl : ps.length ≤ 1000000) (hbase : base ≤ W.heap.size) :
    ∃ v' W', (Builtin.append_ #[47, 47] ty #[v, .slice (some ⟨sb, 0, none⟩) 1 1]).run Tryz.prog W = .ok v' W' ∧ OwnZ W' base v' (ps ++ [(b, r)]) ∧ Below base W W' ∧ ∀ b' r', ReAt W b' r' → ReAt W' b' r' := by
  obtain ⟨i, hi, hz0, hz1, hz2⟩ := info_parts infoP
  obtain ⟨g, cap, cur, rfl, hbg, hg, hn, hcap, hcur⟩ := h.own
  have hnews := World.news_of_block hs
  have hpp : ptrs (ps ++ [(b, r)]) = ptrs ps ++ [PT b] := by simp [ptrs]
  have hpl := ptrs_length ps
  by_cases hroom : ps.length + 1 ≤ cap
  · have hcs : cur.size = cap := by rw [← Array.length_toList, hcur]; simp [hpl]; omega
    have hfit : ps.length * i.size + [PT b].length ≤ cur.size := by rw [hcs, hz1]; simp; omega
    have hr := run_append_room (P := Tryz.prog) W 47 ty 23 i Tryz.underlying47 hi g ps.length cap cur hg ⟨sb, 0, none⟩ 1 1 [PT b] (by rw [hz1]; rfl) hnews (by intro u hu; simp at hu; subst hu; rfl) hroom hfit
    rw [hz1, Nat.mul_one] at hr
    obtain ⟨c', hc'⟩ : ∃ c' : Array Value, c' = (cur.toList.take ps.length ++ [PT b] ++ cur.toList.drop (ps.length + [PT b].length)).toArray := ⟨_, rfl⟩
    rw [← hc'] at hr
    have hblk' : Blk (W.setRow g c') g c' 23 := setRow_heap W g cur _ 23 _ hg
    have hother : ∀ k, k ≠ g → (W.setRow g c').heap[k]? = W.heap[k]? := fun k hk => setRow_other W g k _ hk
    have hsz : (W.setRow g c').heap.size = W.heap.size := by simp
    have htake : cur.toList.take ps.length = ptrs ps := by rw [hcur, ← hpl]; exact List.take_left
    have hdrop : cur.toList.drop (ps.length + 1) = List.replicate (cap - (ps.length + 1)) (.pointer none) := by
      rw [hcur, List.drop_append, List.drop_eq_nil_of_le (by rw [hpl]; omega), hpl, List.nil_append, List.drop_replicate]
      congr 1
      omega
    refine ⟨_, _, hr, ⟨g, cap, c', by simp, hbg, hblk', by simpa using hroom, hcap, ?_⟩, ⟨rfl, rfl, rfl, by rw [hsz]; exact Nat.le_refl _, fun k hk => hother k (by omega)⟩, fun b' r' hr' => hr'.past (g := g) (by rw [hsz]; exact Nat.le_refl _) (fun k _ hk => hother k hk) hg hblk' ?_⟩
    · rw [hc', hpp]
      simp only [List.length_append, List.length_cons, List.length_nil]
      rw [htake, hdrop]
    · intro j u hj hu
      have hj' : cur.toList[j]? = some u := by rw [Array.getElem?_toList]; exact hj
      have hjl : j < ps.length := by
        rw [hcur] at hj'
        rcases Nat.lt_or_ge j ps.length with h | h
        · exact h
        · exfalso
          rw [List.getElem?_append_right (by rw [hpl]; exact h), List.getElem?_replicate] at hj'
          split at hj'
          · injection hj' with e; exact hu e.symm
          · cases hj'
      rw [hc', ← Array.getElem?_toList, List.append_assoc, List.getElem?_append_left (by rw [htake, hpl]; exact hjl), List.getElem?_take, if_pos hjl]
      exact hj'
  · have hce : cap = ps.length := by omega
    have holds : ∀ j u, (ptrs ps)[j]? = some u → W.cell? ((⟨g, 0, none⟩ : Addr).add j) = some u := fun j u hu => by
      rw [Go.WideShapes.add_plain, Nat.zero_add, hg.cell, ← Array.getElem?_toList, hcur, List.getElem?_append_left (List.getElem?_eq_some_iff.1 hu).1]
      exact hu
    have hr := run_append_grow (P := Tryz.prog) W 47 ty 23 i (.pointer none) Tryz.underlying47 hi hz0 ⟨g, 0, none⟩ ps.length cap (ptrs ps) (by rw [hz1, hpl]; omega) holds ⟨sb, 0, none⟩ 1 1 [PT b] (by rw [hz1]; rfl) hnews (by omega) (by omega) (by rw [hz2]; exact growslice_fits (by omega) (by omega))
    have hge := grownCap_ge W (ps.length + 1) cap 23
    have hcm : grownCap W (ps.length + 1) cap 23 ≤ maxLen := grownCap_le_maxLen W (ps.length + 1) cap _ (by unfold maxLen; omega)
    obtain ⟨W', hW'⟩ : ∃ W', W' = W.drew.alloc (.cells ((ptrs ps).toArray ++ [PT b].toArray ++ Builtin.zeroCells (Value.pointer none).cells (grownCap W (ps.length + 1) cap 23 - (ps.length + 1))) 23) := ⟨_, rfl⟩
    rw [← hW'] at hr
    have hbel : Below W.heap.size W W' := by rw [hW']; exact ⟨rfl, rfl, rfl, by simp, fun k hk => heap_alloc_old W.drew _ hk⟩
    have hblk : Blk W' W.heap.size ((ptrs ps).toArray ++ [PT b].toArray ++ Builtin.zeroCells (Value.pointer none).cells (grownCap W (ps.length + 1) cap 23 - (ps.length + 1))) 23 := by rw [hW']; exact heap_alloc_new W.drew _
    refine ⟨_, _, hr, ⟨W.heap.size, _, _, by simp, hbase, hblk, by simpa using hge, hcm, ?_⟩, hbel.mono hbase, fun b' r' hr' => hr'.keep hbel⟩
    rw [hpp]
    simp only [Array.toList_append, List.append_assoc, List.length_append, List.length_cons, List.length_nil]
    congr 2
    simp [Builtin.zeroCells, Value.cells]
    apply List.ext_getElem
    · simp
    · intro j h1 h2
      simp [Nat.mod_one]

theorem nodes_kid {o : Int} {l u : Nat} {t : ByteArray} {ks : List SHP} {k : SHP} (hk : k ∈ ks) : k.nodes + 1 ≤ (SHP.mk o l u t ks).nodes := by
  rw [SHP.nodes_mk]
  have : k.nodes ≤ (ks.map SHP.nodes).sum := by
    induction ks with
    | nil => simp at hk
    | cons x ks ih =>
      rw [List.map_cons, List.sum_cons]
      rcases List.mem_cons.1 hk with rfl | hk
      · omega
      · have := ih hk; omega
  omega
theorem kids_len (ks : List SHP) : ks.length ≤ (ks.map SHP.nodes).sum := by
  induction ks with
  | nil => simp
  | cons x ks ih =>
    rw [List.map_cons, List.sum_cons]
    have : 1 ≤ x.nodes := by cases x; rw [SHP.nodes_mk]; omega
    simp; omega
/-- Expressions of a few short shapes: bounds that the calls want. -/
theorem res_bounds (ks : List SHP) (ht : ∀ k ∈ ks, Tx k) (hn : (ks.map SHP.nodes).sum ≤ 1000) : ks.length ≤ 1000 ∧ (catL (ks.map SHP.re)).length ≤ 22000 ∧ (flatL 4 (ks.map SHP.re)).length ≤ 22000 ∧ (flatL 6 (ks.map SHP.re)).length ≤ 22000 := by
  have h0 := kids_len ks
  have h1 : cntL (ks.map SHP.re) ≤ 22 * (ks.map SHP.nodes).sum := by
    clear h0 hn
    induction ks with
    | nil => simp [cntL]
    | cons x ks ih =>
      have e1 := x.cnt (ht x (by simp))
      have e2 := ih (fun k hk => ht k (by simp [hk]))
      rw [List.map_cons, cntL_cons, List.map_cons, List.sum_cons]
      omega
  have a1 := cntL_len (catL (ks.map SHP.re)); have a2 := cntL_catL (ks.map SHP.re)
  have b1 := cntL_len (flatL 4 (ks.map SHP.re)); have b2 := cntL_flatL 4 (ks.map SHP.re)
  have c1 := cntL_len (flatL 6 (ks.map SHP.re)); have c2 := cntL_flatL 6 (ks.map SHP.re)
  omega

/-- What Make keeps. -/
structure MkW (w : World) (B : Nat) (c : Array Value) (out : Value) (ps : List (Nat × RE)) (W : World) : Prop where
  own : OwnZ W (B + 1) out ps
  elem : ∀ p ∈ ps, ReAt W p.1 p.2
  box : Blk W B c 61
  below : Below B w W
theorem MkW.step {w W W' : World} {B : Nat} {c : Array Value} {out : Value} {ps : List (Nat × RE)} (h : MkW w B c out ps W) (hb : Below W.heap.size W W') : MkW w B c out ps W' :=
  ⟨h.own.keep hb, fun p hp => (h.elem p hp).keep hb, h.box.below hb h.box.lt, h.below.trans (hb.mono (by have := h.box.lt; omega))⟩
theorem MkW.append {w W : World} {B : Nat} {c : Array Value} {out : Value} {ps : List (Nat × RE)} (h : MkW w B c out ps W) (ty : TypeId) (sb b : Nat) (r : RE) (hs : Blk W sb #[PT b] 23) (hr : ReAt W b r) (hl : ps.length ≤ 1000000) :
    ∃ v' W', (Builtin.append_ #[47, 47] ty #[out, .slice (some ⟨sb, 0, none⟩) 1 1]).run Tryz.prog W = .ok v' W' ∧ MkW w B c v' (ps ++ [(b, r)]) W' := by
  obtain ⟨v', W', h1, h2, h3, h4⟩ := run_appendZ h.own ty sb b r hs hl (by have := h.box.lt; omega)
  refine ⟨v', W', h1, h2, fun p hp => ?_, h.box.below h3 (by omega), h.below.trans (h3.mono (by omega))⟩
  rcases List.mem_append.1 hp with hp | hp
  · exact h4 _ _ (h.elem p hp)
  · simp at hp; subst hp; exact h4 _ _ hr
theorem OwnZ.slice {W : World} {base : Nat} {v : Value} {ps : List (Nat × RE)} (h : OwnZ W base v ps) : ∃ g cap, v = .slice (some ⟨g, 0, none⟩) ps.length cap := by
  obtain ⟨g, cap, cur, rfl, -⟩ := h.own
  exact ⟨g, cap, rfl⟩

theorem wf_getD {l : List RE} (h : ∀ r ∈ l, Wf r) (i : Nat) : Wf (l.getD i rNothing) := by
  by_cases hi : i < l.length
  · rw [show l.getD i rNothing = l[i] from by simp [List.getD_eq_getElem?_getD, hi]]; exact h _ (List.getElem_mem hi)
  · rw [show l.getD i rNothing = rNothing from by simp [List.getD_eq_getElem?_getD, hi]]; exact wf_nothing

set_option maxHeartbeats 4000000 in
theorem make_any (s : SHP) : ∀ (cs : List Value) (w : World), ShC w cs s → Tx s → s.nodes ≤ 30 → TabAt w →
    Calls Tryz.prog 28 #[ShVal cs] w fun e w' => ∃ b, e = .returned (PT b) ∧ ReAt w' b s.re ∧ Below w.heap.size w w' := by
  refine SHP.ind (P := fun s => ∀ (cs : List Value) (w : World), ShC w cs s → Tx s → s.nodes ≤ 30 → TabAt w →
    Calls Tryz.prog 28 #[ShVal cs] w fun e w' => ∃ b, e = .returned (PT b) ∧ ReAt w' b s.re ∧ Below w.heap.size w w') ?_ s
  intro o l u t ks ih cs w h htx hnd hT
  have hkt : ∀ k ∈ ks, Tx k := by cases htx; assumption
  have ht20 : t.size ≤ 20 := by cases htx; assumption
  have hkn : ∀ k ∈ ks, k.nodes ≤ 30 := fun k hk => by have := nodes_kid (o := o) (l := l) (u := u) (t := t) hk; omega
  have hsum : (ks.map SHP.nodes).sum ≤ 1000 := by rw [SHP.nodes_mk] at hnd; omega
  obtain ⟨hb0, hb3, hb4, hb6⟩ := res_bounds ks hkt hsum
  have hC := h
  obtain ⟨v, rfl, hrow, ho, hlo, hhi, -⟩ := h.open
  simp only [SHP.op, SHP.lo, SHP.hi, SHP.text, SHP.kids] at hrow ho hlo hhi hC ⊢
  obtain ⟨-, a, cap, rfl, -⟩ := hrow.at
  obtain ⟨res, hres⟩ : ∃ res, res = (SHP.mk o l u t ks).re := ⟨_, rfl⟩
  rw [← hres]
  rw [SHP.re_mk] at hres
  have HRES := hide hres
  have HR := hide hrow
  have HC := hide hC
  have HT := hide hT
  clear h hrow hC hT hres htx hnd hsum
  obtain ⟨B, hB⟩ : ∃ B, B = w.heap.size := ⟨_, rfl⟩
  have HB := hide hB
  unfold ShVal
  go_enter Tryz.func28, Tryz.ntmps28
  go_wp2
  have hM0 : MkW w B #[.int .i64 o, .int .u8 l, .int .u8 u, .string t, .slice a ks.length cap] (.slice (some ⟨B + 1, 0, none⟩) 0 0) [] ((w.alloc (.cells #[.int .i64 o, .int .u8 l, .int .u8 u, .string t, .slice a ks.length cap] 61)).alloc (.cells #[] 23)) :=
    ⟨OwnZ.start (Blk.newAt (by simp [hB]) _ _) (Nat.le_refl _), fun p hp => by simp at hp, (Blk.newAt hB _ _).alloc _, ((Below.refl B w).alloc (Nat.le_of_eq hB) _).alloc (by simp; omega) _⟩
  rw [← hB]
  clear hB
  go_loopw [3, 14] (fun out c wr => ∃ (k : Nat) (ps : List (Nat × RE)), k ≤ ks.length ∧ c = .int .i64 k ∧ Hid (ps.length = k) ∧ Hid (ps.map Prod.snd = (ks.take k).map SHP.re) ∧ Hid (MkW w B #[.int .i64 o, .int .u8 l, .int .u8 u, .string t, .slice a ks.length cap] out ps wr)) (fun _ c _ => ks.length - (intOf c).toNat)
  case atStart => exact ⟨0, [], by omega, rfl, rfl, rfl, hM0⟩
  case round =>
    clear hM0
    obtain ⟨k, ps, hk, rfl, HL, HS, HM⟩ := hrel
    obtain ⟨-, a', cap', e1, g1⟩ := (HR.out.keep (show Below w.heap.size w wr from HB.out ▸ HM.out.below)).at
    obtain ⟨rfl, rfl⟩ : a = a' ∧ cap = cap' := by cases e1; exact ⟨rfl, rfl⟩
    clear e1
    have hTW : TabAt wr := HT.out.agree (Agree.of_all (K := fun _ => True) (HB.out ▸ HM.out.below)) trivial
    by_cases hlt : k < ks.length
    · have hkd : decide (k < ks.length) = true := by simp [hlt]
      obtain ⟨b, off, kv, rfl, -, ⟨c0, c1, c2, c3, c4⟩, hC⟩ := g1 k hlt
      have hb1 := (Below.refl wr.heap.size wr).alloc (Nat.le_refl _) (.cells #[.int .i64 ks[k].op, .int .u8 ks[k].lo, .int .u8 ks[k].hi, .string ks[k].text, kv] 61)
      have hmem := List.getElem_mem hlt
      have hrec := ih _ hmem _ _ (hC.keep hb1) (hkt _ hmem) (hkn _ hmem) (hTW.agree (Agree.of_all (K := fun _ => True) hb1) trivial)
      have HTK := hide (show ks.take (k + 1) = ks.take k ++ [ks[k]] from List.take_succ_eq_append_getElem hlt)
      obtain ⟨-, kf, kcap, hkv, -⟩ : True ∧ ∃ a c, kv = .slice a (ks[k]).kids.length c ∧ True := by
        obtain ⟨v', e', hr', -⟩ := hC.open
        obtain ⟨-, a', c', e'', -⟩ := hr'.at
        have : kv = v' := by simpa using e'
        exact ⟨trivial, a', c', this.trans e'', trivial⟩
      have HREC := hide hrec
      have HM1 := hide (HM.out.step hb1)
      have hps1000 : ps.length ≤ 1000000 := by rw [HL.out]; omega
      subst hkv
      generalize hks : ks[k] = sk at *
      clear hrec hC g1 hb1 hmem
      unfold ShVal at HREC
      go_wp2_with fail
      refine HREC.out.mono ?_
      rintro e w2 ⟨kb, rfl, hkr, hb2⟩
      have HM2 := hide (HM1.out.step hb2)
      have hb3 := (Below.refl w2.heap.size w2).alloc (Nat.le_refl _) (.cells #[PT kb] 23)
      obtain ⟨v3, W3, hr3, hM3⟩ := (HM2.out.step hb3).append 47 w2.heap.size kb sk.re (Blk.newAt rfl _ _) (hkr.keep hb3) hps1000
      have HM3 := hide hM3
      obtain ⟨g3, cp3, rfl⟩ := hM3.own.slice
      obtain ⟨g2, cp2, hu⟩ := HM.out.own.slice
      subst hu
      unfold PT at hr3 ⊢
      clear hkr hb2 hb3 hM3 HREC HM1 c0 c1 c2 c3 c4
      go_wp2_with (refine wpList_append_run rfl _ _ _ rfl _ _ _ rfl rfl hr3 ?_)
      refine ⟨⟨k + 1, ps ++ [(kb, sk.re)], by omega, by go_num, ?_, ?_, ?_⟩, by simp [intOf]; omega⟩
      · show (ps ++ [_]).length = k + 1
        rw [List.length_append, HL.out]; rfl
      · show (ps ++ [_]).map Prod.snd = _
        rw [HTK.out, List.map_append, List.map_append, HS.out]; rfl
      · have h3 := HM3.out
        rw [show (ps ++ [(kb, sk.re)]).length = ps.length + 1 from by simp] at h3
        exact h3
    · obtain rfl : k = ks.length := by omega
      rw [List.take_length] at HS
      clear g1
      have hlp := HL.out
      have hrow := (HM.out.own.row (by omega)).res HM.out.elem
      rw [HS.out] at hrow
      have HROW := hide hrow
      have hwf : ∀ r ∈ ks.map SHP.re, Wf r := fun r hr => by
        obtain ⟨x, -, rfl⟩ := List.mem_map.1 hr
        exact x.wf
      have hlm : (ks.map SHP.re).length ≤ 1000 := by simpa using hb0
      have hsB : B ≤ wr.heap.size := by have := HM.out.box.lt; omega
      obtain ⟨g2, cp2, hu⟩ := HM.out.own.slice
      rw [hlp] at hu
      subst hu
      have hkv : (SHP.mk o l u t ks).k < 9 := by unfold SHP.k; omega
      generalize hkk : (SHP.mk o l u t ks).k = kk at *
      clear hrow hTW hlp HL HS ih hkt hkn
      by_cases hz0 : 0 < ks.length
      · have hd0 : decide ((0 : Int) < ks.length) = true := decide_eq_true (by omega)
        by_cases hz1 : 1 < ks.length
        · have hd1 : decide ((1 : Int) < ks.length) = true := decide_eq_true (by omega)
          have hd1' : decide (1 < ks.length) = true := by simp [hz1]
          go_wp2_with fail
          refine (nothing_any _).mono ?_
          rintro e w2 ⟨nb, rfl, hnb, hb2⟩
          have HM2 := hide (HM.out.step hb2)
          have HN2 := hide hnb
          have HROW2 := hide (HROW.out.below hb2)
          clear hnb hb2
          obtain ⟨-, aq, cq, eq, gq⟩ := HROW2.out.at
          obtain ⟨qb, qo, p0, qe, -, d0, r0⟩ := gq 0 (by rw [List.length_map]; omega)
          have hqq : qb = g2 ∧ qo = 0 := by injection eq with e1 e2 e3; rw [← e1] at qe; injection qe with qe; injection qe with q1 q2; exact ⟨q1.symm, q2.symm⟩
          obtain ⟨rfl, rfl⟩ := hqq
          have H10 := hide r0
          unfold PT at d0
          rw [Nat.add_zero] at d0
          have hl0 : 0 < ks.length := by omega
          clear eq gq qe r0
          unfold PT
          go_wp2_with fail
          refine (nothing_any _).mono ?_
          rintro e w4 ⟨nb2, rfl, hnb2, hb4⟩
          have HM4 := hide (HM2.out.step hb4)
          have HROW4 := hide (HROW2.out.below hb4)
          have hone : (ks.map SHP.re).getD 0 rNothing = (ks.map SHP.re)[0]'(by rw [List.length_map]; omega) := by rw [List.getD_eq_getElem?_getD, List.getElem?_eq_getElem (by rw [List.length_map]; omega)]; rfl
          have H14 : Hid (ReAt w4 p0 ((ks.map SHP.re).getD 0 rNothing)) := by show ReAt _ _ _; rw [hone]; exact H10.out.keep hb4
          have htwo : (ks.map SHP.re).getD 1 rNothing = (ks.map SHP.re)[1]'(by rw [List.length_map]; omega) := by rw [List.getD_eq_getElem?_getD, List.getElem?_eq_getElem (by rw [List.length_map]; omega)]; rfl
          obtain ⟨-, aq, cq, eq, gq⟩ := HROW4.out.at
          obtain ⟨qb2, qo2, p1, qe, -, d1, r1⟩ := gq 1 (by rw [List.length_map]; omega)
          have hqq : qb2 = qb ∧ qo2 = 0 := by injection eq with e1 e2 e3; rw [← e1] at qe; injection qe with qe; injection qe with q1 q2; exact ⟨q1.symm, q2.symm⟩
          obtain ⟨rfl, rfl⟩ := hqq
          unfold PT at d1
          rw [Nat.zero_add] at d1
          have H24 : Hid (ReAt w4 p1 ((ks.map SHP.re).getD 1 rNothing)) := by show ReAt _ _ _; rw [htwo]; exact r1
          have hl1 : 1 < ks.length := by omega
          clear eq gq qe r1
          have hwone : WfK ((ks.map SHP.re).getD 0 rNothing) := (wf_getD hwf 0).k
          have hwtwo : WfK ((ks.map SHP.re).getD 1 rNothing) := (wf_getD hwf 1).k
          clear hone htwo hnb2 hb4 HM2 HROW2 HN2 d0 H10
          unfold PT
          have hb4s : Below w.heap.size w w4 := HB.out ▸ HM4.out.below
          have xB := HM4.out.box
          have x0 := xB.cell 0; have x1 := xB.cell 1; have x2 := xB.cell 2; have x3 := xB.cell 3; have x4 := xB.cell 4
          simp only [List.getElem?_toArray, List.getElem?_cons_zero, List.getElem?_cons_succ] at x0 x1 x2 x3 x4
          clear xB
          have hopc := op_any _ _ w4 (HC.out.keep hb4s)
          rw [hkk] at hopc
          have HOP := hide hopc
          clear hopc hb4s
          unfold ShVal at HOP
          go_wp2_with fail
          refine HOP.out.mono ?_
          rintro e w5 ⟨rfl, hb5⟩
          have HM5 := hide (HM4.out.step hb5)
          have H15 := hide (H14.out.keep hb5)
          have H25 := hide (H24.out.keep hb5)
          have HROW5 := hide (HROW4.out.below hb5)
          have hsB5 : B ≤ w5.heap.size := by have := HM5.out.box.lt; omega
          have hb5s : Below w.heap.size w w5 := HB.out ▸ HM5.out.below
          have HT5 := hide (HT.out.agree (Agree.of_all (K := fun _ => True) hb5s) trivial)
          have HC5 := hide (HC.out.keep hb5s)
          clear hb5 HM4 H14 H24 HROW4 HOP x0 x1 x2 x3 x4 hb5s
          have hkc : kk = 0 ∨ kk = 1 ∨ kk = 2 ∨ kk = 3 ∨ kk = 4 ∨ kk = 5 ∨ kk = 6 ∨ kk = 7 ∨ kk = 8 := by omega
          clear hkv
          rcases hkc with rfl | rfl | rfl | rfl | rfl | rfl | rfl | rfl | rfl
          · have HRES2 : Hid (res = rNothing) := HRES.out
            clear HRES
            go_wp2_with fail
            refine (nothing_any _).mono ?_
            rintro e w6 ⟨rb, rfl, hr, hb⟩
            go_wp2
            go_ret
            refine ⟨rb, rfl, by rw [HRES2.out]; exact hr, ?_⟩
            rw [← HB.out]
            exact HM5.out.below.trans (hb.mono hsB5)
          · have HRES2 : Hid (res = rEmpty) := HRES.out
            clear HRES
            go_wp2_with fail
            refine (empty_re _).mono ?_
            rintro e w6 ⟨rb, rfl, hr, hb⟩
            go_wp2
            go_ret
            refine ⟨rb, rfl, by rw [HRES2.out]; exact hr, ?_⟩
            rw [← HB.out]
            exact HM5.out.below.trans (hb.mono hsB5)
          · have HRES2 : Hid (res = rOne (span (97 + l % 4) (97 + u % 4 + 1))) := HRES.out
            clear HRES
            have xB := HM5.out.box
            have x0 := xB.cell 0; have x1 := xB.cell 1; have x2 := xB.cell 2; have x3 := xB.cell 3; have x4 := xB.cell 4
            simp only [List.getElem?_toArray, List.getElem?_cons_zero, List.getElem?_cons_succ] at x0 x1 x2 x3 x4
            clear xB
            have hlow := low_any _ _ w5 HC5.out
            have HLOW := hide hlow
            clear hlow
            simp only [ShVal, SHP.lo, SHP.hi] at HLOW
            go_wp2_with fail
            refine HLOW.out.mono ?_
            rintro e w6 ⟨rfl, hb6⟩
            have HB6 := hide (HM5.out.below.trans (hb6.mono hsB5))
            have hsB6 : B ≤ w6.heap.size := by have := hb6.size; omega
            clear hb6 x0 x1 x2 x3 x4 HLOW
            go_wp2_with fail
            refine (from_any (97 + l % 4) (97 + u % 4) (by omega) (by omega) _).mono ?_
            rintro e w7 ⟨rfl, hb7⟩
            have HB7 := hide (HB6.out.trans (hb7.mono hsB6))
            have hsB7 : B ≤ w7.heap.size := by have := hb7.size; omega
            clear hb7
            go_wp2_with fail
            refine (one_any _ _).mono ?_
            rintro e w8 ⟨rb, rfl, hr, hb⟩
            go_wp2
            go_ret
            refine ⟨rb, rfl, by rw [HRES2.out]; exact hr, ?_⟩
            rw [← HB.out]
            exact HB7.out.trans (hb.mono hsB7)
          · have HRES2 : Hid (res = rThen (ks.map SHP.re)) := HRES.out
            clear HRES
            go_wp2_with fail
            refine (then_any _ _ _ HROW5.out hwf (by omega) (by omega)).mono ?_
            rintro e w6 ⟨rb, rfl, hr, hb⟩
            go_wp2
            go_ret
            refine ⟨rb, rfl, by rw [HRES2.out]; exact hr, ?_⟩
            rw [← HB.out]
            exact HM5.out.below.trans (hb.mono hsB5)
          · have HRES2 : Hid (res = rAny (ks.map SHP.re)) := HRES.out
            clear HRES
            go_wp2_with fail
            refine (any_re _ _ _ HROW5.out hwf (by omega) (by omega) HT5.out).mono ?_
            rintro e w6 ⟨rb, rfl, hr, hb⟩
            go_wp2
            go_ret
            refine ⟨rb, rfl, by rw [HRES2.out]; exact hr, ?_⟩
            rw [← HB.out]
            exact HM5.out.below.trans (hb.mono hsB5)
          · have HRES2 : Hid (res = rMany ((ks.map SHP.re).getD 0 rNothing)) := HRES.out
            clear HRES
            go_wp2_with fail
            refine (many_any _ _ _ H15.out).mono ?_
            rintro e w6 ⟨rb, rfl, hr, hb⟩
            go_wp2
            go_ret
            refine ⟨rb, rfl, by rw [HRES2.out]; exact hr, ?_⟩
            rw [← HB.out]
            exact HM5.out.below.trans (hb.mono hsB5)
          · have HRES2 : Hid (res = rBoth (ks.map SHP.re)) := HRES.out
            clear HRES
            go_wp2_with fail
            refine (both_re _ _ _ HROW5.out hwf (by omega) (by omega) HT5.out).mono ?_
            rintro e w6 ⟨rb, rfl, hr, hb⟩
            go_wp2
            go_ret
            refine ⟨rb, rfl, by rw [HRES2.out]; exact hr, ?_⟩
            rw [← HB.out]
            exact HM5.out.below.trans (hb.mono hsB5)
          · have HRES2 : Hid (res = rBut ((ks.map SHP.re).getD 0 rNothing) ((ks.map SHP.re).getD 1 rNothing)) := HRES.out
            clear HRES
            go_wp2_with fail
            refine (but_any _ _ _ _ _ H15.out H25.out hwone hwtwo HT5.out).mono ?_
            rintro e w6 ⟨rb, rfl, hr, hb⟩
            go_wp2
            go_ret
            refine ⟨rb, rfl, by rw [HRES2.out]; exact hr, ?_⟩
            rw [← HB.out]
            exact HM5.out.below.trans (hb.mono hsB5)
          · have HRES2 : Hid (res = rWord (bytesN t)) := HRES.out
            clear HRES
            have xB := HM5.out.box
            have x0 := xB.cell 0; have x1 := xB.cell 1; have x2 := xB.cell 2; have x3 := xB.cell 3; have x4 := xB.cell 4
            simp only [List.getElem?_toArray, List.getElem?_cons_zero, List.getElem?_cons_succ] at x0 x1 x2 x3 x4
            clear xB
            go_wp2_with fail
            refine (word_any t _ (by omega)).mono ?_
            rintro e w6 ⟨rb, rfl, hr, hb⟩
            go_wp2
            go_ret
            refine ⟨rb, rfl, by rw [HRES2.out]; exact hr, ?_⟩
            rw [← HB.out]
            exact HM5.out.below.trans (hb.mono hsB5)
        · have hd1 : decide ((1 : Int) < ks.length) = false := decide_eq_false (by omega)
          have hd1' : decide (1 < ks.length) = false := decide_eq_false (by omega)
          go_wp2_with fail
          refine (nothing_any _).mono ?_
          rintro e w2 ⟨nb, rfl, hnb, hb2⟩
          have HM2 := hide (HM.out.step hb2)
          have HN2 := hide hnb
          have HROW2 := hide (HROW.out.below hb2)
          clear hnb hb2
          obtain ⟨-, aq, cq, eq, gq⟩ := HROW2.out.at
          obtain ⟨qb, qo, p0, qe, -, d0, r0⟩ := gq 0 (by rw [List.length_map]; omega)
          have hqq : qb = g2 ∧ qo = 0 := by injection eq with e1 e2 e3; rw [← e1] at qe; injection qe with qe; injection qe with q1 q2; exact ⟨q1.symm, q2.symm⟩
          obtain ⟨rfl, rfl⟩ := hqq
          have H10 := hide r0
          unfold PT at d0
          rw [Nat.add_zero] at d0
          have hl0 : 0 < ks.length := by omega
          clear eq gq qe r0
          unfold PT
          go_wp2_with fail
          refine (nothing_any _).mono ?_
          rintro e w4 ⟨nb2, rfl, hnb2, hb4⟩
          have HM4 := hide (HM2.out.step hb4)
          have HROW4 := hide (HROW2.out.below hb4)
          have hone : (ks.map SHP.re).getD 0 rNothing = (ks.map SHP.re)[0]'(by rw [List.length_map]; omega) := by rw [List.getD_eq_getElem?_getD, List.getElem?_eq_getElem (by rw [List.length_map]; omega)]; rfl
          have H14 : Hid (ReAt w4 p0 ((ks.map SHP.re).getD 0 rNothing)) := by show ReAt _ _ _; rw [hone]; exact H10.out.keep hb4
          have htwo : (ks.map SHP.re).getD 1 rNothing = rNothing := by rw [List.getD_eq_getElem?_getD, List.getElem?_eq_none (by rw [List.length_map]; omega)]; rfl
          have H24 : Hid (ReAt w4 nb2 ((ks.map SHP.re).getD 1 rNothing)) := by show ReAt _ _ _; rw [htwo]; exact hnb2
          have hwone : WfK ((ks.map SHP.re).getD 0 rNothing) := (wf_getD hwf 0).k
          have hwtwo : WfK ((ks.map SHP.re).getD 1 rNothing) := (wf_getD hwf 1).k
          clear hone htwo hnb2 hb4 HM2 HROW2 HN2 d0 H10
          unfold PT
          have hb4s : Below w.heap.size w w4 := HB.out ▸ HM4.out.below
          have xB := HM4.out.box
          have x0 := xB.cell 0; have x1 := xB.cell 1; have x2 := xB.cell 2; have x3 := xB.cell 3; have x4 := xB.cell 4
          simp only [List.getElem?_toArray, List.getElem?_cons_zero, List.getElem?_cons_succ] at x0 x1 x2 x3 x4
          clear xB
          have hopc := op_any _ _ w4 (HC.out.keep hb4s)
          rw [hkk] at hopc
          have HOP := hide hopc
          clear hopc hb4s
          unfold ShVal at HOP
          go_wp2_with fail
          refine HOP.out.mono ?_
          rintro e w5 ⟨rfl, hb5⟩
          have HM5 := hide (HM4.out.step hb5)
          have H15 := hide (H14.out.keep hb5)
          have H25 := hide (H24.out.keep hb5)
          have HROW5 := hide (HROW4.out.below hb5)
          have hsB5 : B ≤ w5.heap.size := by have := HM5.out.box.lt; omega
          have hb5s : Below w.heap.size w w5 := HB.out ▸ HM5.out.below
          have HT5 := hide (HT.out.agree (Agree.of_all (K := fun _ => True) hb5s) trivial)
          have HC5 := hide (HC.out.keep hb5s)
          clear hb5 HM4 H14 H24 HROW4 HOP x0 x1 x2 x3 x4 hb5s
          have hkc : kk = 0 ∨ kk = 1 ∨ kk = 2 ∨ kk = 3 ∨ kk = 4 ∨ kk = 5 ∨ kk = 6 ∨ kk = 7 ∨ kk = 8 := by omega
          clear hkv
          rcases hkc with rfl | rfl | rfl | rfl | rfl | rfl | rfl | rfl | rfl
          · have HRES2 : Hid (res = rNothing) := HRES.out
            clear HRES
            go_wp2_with fail
            refine (nothing_any _).mono ?_
            rintro e w6 ⟨rb, rfl, hr, hb⟩
            go_wp2
            go_ret
            refine ⟨rb, rfl, by rw [HRES2.out]; exact hr, ?_⟩
            rw [← HB.out]
            exact HM5.out.below.trans (hb.mono hsB5)
          · have HRES2 : Hid (res = rEmpty) := HRES.out
            clear HRES
            go_wp2_with fail
            refine (empty_re _).mono ?_
            rintro e w6 ⟨rb, rfl, hr, hb⟩
            go_wp2
            go_ret
            refine ⟨rb, rfl, by rw [HRES2.out]; exact hr, ?_⟩
            rw [← HB.out]
            exact HM5.out.below.trans (hb.mono hsB5)
          · have HRES2 : Hid (res = rOne (span (97 + l % 4) (97 + u % 4 + 1))) := HRES.out
            clear HRES
            have xB := HM5.out.box
            have x0 := xB.cell 0; have x1 := xB.cell 1; have x2 := xB.cell 2; have x3 := xB.cell 3; have x4 := xB.cell 4
            simp only [List.getElem?_toArray, List.getElem?_cons_zero, List.getElem?_cons_succ] at x0 x1 x2 x3 x4
            clear xB
            have hlow := low_any _ _ w5 HC5.out
            have HLOW := hide hlow
            clear hlow
            simp only [ShVal, SHP.lo, SHP.hi] at HLOW
            go_wp2_with fail
            refine HLOW.out.mono ?_
            rintro e w6 ⟨rfl, hb6⟩
            have HB6 := hide (HM5.out.below.trans (hb6.mono hsB5))
            have hsB6 : B ≤ w6.heap.size := by have := hb6.size; omega
            clear hb6 x0 x1 x2 x3 x4 HLOW
            go_wp2_with fail
            refine (from_any (97 + l % 4) (97 + u % 4) (by omega) (by omega) _).mono ?_
            rintro e w7 ⟨rfl, hb7⟩
            have HB7 := hide (HB6.out.trans (hb7.mono hsB6))
            have hsB7 : B ≤ w7.heap.size := by have := hb7.size; omega
            clear hb7
            go_wp2_with fail
            refine (one_any _ _).mono ?_
            rintro e w8 ⟨rb, rfl, hr, hb⟩
            go_wp2
            go_ret
            refine ⟨rb, rfl, by rw [HRES2.out]; exact hr, ?_⟩
            rw [← HB.out]
            exact HB7.out.trans (hb.mono hsB7)
          · have HRES2 : Hid (res = rThen (ks.map SHP.re)) := HRES.out
            clear HRES
            go_wp2_with fail
            refine (then_any _ _ _ HROW5.out hwf (by omega) (by omega)).mono ?_
            rintro e w6 ⟨rb, rfl, hr, hb⟩
            go_wp2
            go_ret
            refine ⟨rb, rfl, by rw [HRES2.out]; exact hr, ?_⟩
            rw [← HB.out]
            exact HM5.out.below.trans (hb.mono hsB5)
          · have HRES2 : Hid (res = rAny (ks.map SHP.re)) := HRES.out
            clear HRES
            go_wp2_with fail
            refine (any_re _ _ _ HROW5.out hwf (by omega) (by omega) HT5.out).mono ?_
            rintro e w6 ⟨rb, rfl, hr, hb⟩
            go_wp2
            go_ret
            refine ⟨rb, rfl, by rw [HRES2.out]; exact hr, ?_⟩
            rw [← HB.out]
            exact HM5.out.below.trans (hb.mono hsB5)
          · have HRES2 : Hid (res = rMany ((ks.map SHP.re).getD 0 rNothing)) := HRES.out
            clear HRES
            go_wp2_with fail
            refine (many_any _ _ _ H15.out).mono ?_
            rintro e w6 ⟨rb, rfl, hr, hb⟩
            go_wp2
            go_ret
            refine ⟨rb, rfl, by rw [HRES2.out]; exact hr, ?_⟩
            rw [← HB.out]
            exact HM5.out.below.trans (hb.mono hsB5)
          · have HRES2 : Hid (res = rBoth (ks.map SHP.re)) := HRES.out
            clear HRES
            go_wp2_with fail
            refine (both_re _ _ _ HROW5.out hwf (by omega) (by omega) HT5.out).mono ?_
            rintro e w6 ⟨rb, rfl, hr, hb⟩
            go_wp2
            go_ret
            refine ⟨rb, rfl, by rw [HRES2.out]; exact hr, ?_⟩
            rw [← HB.out]
            exact HM5.out.below.trans (hb.mono hsB5)
          · have HRES2 : Hid (res = rBut ((ks.map SHP.re).getD 0 rNothing) ((ks.map SHP.re).getD 1 rNothing)) := HRES.out
            clear HRES
            go_wp2_with fail
            refine (but_any _ _ _ _ _ H15.out H25.out hwone hwtwo HT5.out).mono ?_
            rintro e w6 ⟨rb, rfl, hr, hb⟩
            go_wp2
            go_ret
            refine ⟨rb, rfl, by rw [HRES2.out]; exact hr, ?_⟩
            rw [← HB.out]
            exact HM5.out.below.trans (hb.mono hsB5)
          · have HRES2 : Hid (res = rWord (bytesN t)) := HRES.out
            clear HRES
            have xB := HM5.out.box
            have x0 := xB.cell 0; have x1 := xB.cell 1; have x2 := xB.cell 2; have x3 := xB.cell 3; have x4 := xB.cell 4
            simp only [List.getElem?_toArray, List.getElem?_cons_zero, List.getElem?_cons_succ] at x0 x1 x2 x3 x4
            clear xB
            go_wp2_with fail
            refine (word_any t _ (by omega)).mono ?_
            rintro e w6 ⟨rb, rfl, hr, hb⟩
            go_wp2
            go_ret
            refine ⟨rb, rfl, by rw [HRES2.out]; exact hr, ?_⟩
            rw [← HB.out]
            exact HM5.out.below.trans (hb.mono hsB5)
      · have hd0 : decide ((0 : Int) < ks.length) = false := decide_eq_false (by omega)
        have hd1 : decide ((1 : Int) < ks.length) = false := decide_eq_false (by omega)
        have hd0' : decide (0 < ks.length) = false := decide_eq_false (by omega)
        have hd1' : decide (1 < ks.length) = false := decide_eq_false (by omega)
        go_wp2_with fail
        refine (nothing_any _).mono ?_
        rintro e w2 ⟨nb, rfl, hnb, hb2⟩
        have HM2 := hide (HM.out.step hb2)
        have HN2 := hide hnb
        have HROW2 := hide (HROW.out.below hb2)
        clear hnb hb2
        unfold PT
        go_wp2_with fail
        refine (nothing_any _).mono ?_
        rintro e w4 ⟨nb2, rfl, hnb2, hb4⟩
        have HM4 := hide (HM2.out.step hb4)
        have HROW4 := hide (HROW2.out.below hb4)
        have hone : (ks.map SHP.re).getD 0 rNothing = rNothing := by rw [List.getD_eq_getElem?_getD, List.getElem?_eq_none (by rw [List.length_map]; omega)]; rfl
        have H14 : Hid (ReAt w4 nb ((ks.map SHP.re).getD 0 rNothing)) := by show ReAt _ _ _; rw [hone]; exact HN2.out.keep hb4
        have htwo : (ks.map SHP.re).getD 1 rNothing = rNothing := by rw [List.getD_eq_getElem?_getD, List.getElem?_eq_none (by rw [List.length_map]; omega)]; rfl
        have H24 : Hid (ReAt w4 nb2 ((ks.map SHP.re).getD 1 rNothing)) := by show ReAt _ _ _; rw [htwo]; exact hnb2
        have hwone : WfK ((ks.map SHP.re).getD 0 rNothing) := (wf_getD hwf 0).k
        have hwtwo : WfK ((ks.map SHP.re).getD 1 rNothing) := (wf_getD hwf 1).k
        clear hone htwo hnb2 hb4 HM2 HROW2 HN2
        unfold PT
        have hb4s : Below w.heap.size w w4 := HB.out ▸ HM4.out.below
        have xB := HM4.out.box
        have x0 := xB.cell 0; have x1 := xB.cell 1; have x2 := xB.cell 2; have x3 := xB.cell 3; have x4 := xB.cell 4
        simp only [List.getElem?_toArray, List.getElem?_cons_zero, List.getElem?_cons_succ] at x0 x1 x2 x3 x4
        clear xB
        have hopc := op_any _ _ w4 (HC.out.keep hb4s)
        rw [hkk] at hopc
        have HOP := hide hopc
        clear hopc hb4s
        unfold ShVal at HOP
        go_wp2_with fail
        refine HOP.out.mono ?_
        rintro e w5 ⟨rfl, hb5⟩
        have HM5 := hide (HM4.out.step hb5)
        have H15 := hide (H14.out.keep hb5)
        have H25 := hide (H24.out.keep hb5)
        have HROW5 := hide (HROW4.out.below hb5)
        have hsB5 : B ≤ w5.heap.size := by have := HM5.out.box.lt; omega
        have hb5s : Below w.heap.size w w5 := HB.out ▸ HM5.out.below
        have HT5 := hide (HT.out.agree (Agree.of_all (K := fun _ => True) hb5s) trivial)
        have HC5 := hide (HC.out.keep hb5s)
        clear hb5 HM4 H14 H24 HROW4 HOP x0 x1 x2 x3 x4 hb5s
        have hkc : kk = 0 ∨ kk = 1 ∨ kk = 2 ∨ kk = 3 ∨ kk = 4 ∨ kk = 5 ∨ kk = 6 ∨ kk = 7 ∨ kk = 8 := by omega
        clear hkv
        rcases hkc with rfl | rfl | rfl | rfl | rfl | rfl | rfl | rfl | rfl
        · have HRES2 : Hid (res = rNothing) := HRES.out
          clear HRES
          go_wp2_with fail
          refine (nothing_any _).mono ?_
          rintro e w6 ⟨rb, rfl, hr, hb⟩
          go_wp2
          go_ret
          refine ⟨rb, rfl, by rw [HRES2.out]; exact hr, ?_⟩
          rw [← HB.out]
          exact HM5.out.below.trans (hb.mono hsB5)
        · have HRES2 : Hid (res = rEmpty) := HRES.out
          clear HRES
          go_wp2_with fail
          refine (empty_re _).mono ?_
          rintro e w6 ⟨rb, rfl, hr, hb⟩
          go_wp2
          go_ret
          refine ⟨rb, rfl, by rw [HRES2.out]; exact hr, ?_⟩
          rw [← HB.out]
          exact HM5.out.below.trans (hb.mono hsB5)
        · have HRES2 : Hid (res = rOne (span (97 + l % 4) (97 + u % 4 + 1))) := HRES.out
          clear HRES
          have xB := HM5.out.box
          have x0 := xB.cell 0; have x1 := xB.cell 1; have x2 := xB.cell 2; have x3 := xB.cell 3; have x4 := xB.cell 4
          simp only [List.getElem?_toArray, List.getElem?_cons_zero, List.getElem?_cons_succ] at x0 x1 x2 x3 x4
          clear xB
          have hlow := low_any _ _ w5 HC5.out
          have HLOW := hide hlow
          clear hlow
          simp only [ShVal, SHP.lo, SHP.hi] at HLOW
          go_wp2_with fail
          refine HLOW.out.mono ?_
          rintro e w6 ⟨rfl, hb6⟩
          have HB6 := hide (HM5.out.below.trans (hb6.mono hsB5))
          have hsB6 : B ≤ w6.heap.size := by have := hb6.size; omega
          clear hb6 x0 x1 x2 x3 x4 HLOW
          go_wp2_with fail
          refine (from_any (97 + l % 4) (97 + u % 4) (by omega) (by omega) _).mono ?_
          rintro e w7 ⟨rfl, hb7⟩
          have HB7 := hide (HB6.out.trans (hb7.mono hsB6))
          have hsB7 : B ≤ w7.heap.size := by have := hb7.size; omega
          clear hb7
          go_wp2_with fail
          refine (one_any _ _).mono ?_
          rintro e w8 ⟨rb, rfl, hr, hb⟩
          go_wp2
          go_ret
          refine ⟨rb, rfl, by rw [HRES2.out]; exact hr, ?_⟩
          rw [← HB.out]
          exact HB7.out.trans (hb.mono hsB7)
        · have HRES2 : Hid (res = rThen (ks.map SHP.re)) := HRES.out
          clear HRES
          go_wp2_with fail
          refine (then_any _ _ _ HROW5.out hwf (by omega) (by omega)).mono ?_
          rintro e w6 ⟨rb, rfl, hr, hb⟩
          go_wp2
          go_ret
          refine ⟨rb, rfl, by rw [HRES2.out]; exact hr, ?_⟩
          rw [← HB.out]
          exact HM5.out.below.trans (hb.mono hsB5)
        · have HRES2 : Hid (res = rAny (ks.map SHP.re)) := HRES.out
          clear HRES
          go_wp2_with fail
          refine (any_re _ _ _ HROW5.out hwf (by omega) (by omega) HT5.out).mono ?_
          rintro e w6 ⟨rb, rfl, hr, hb⟩
          go_wp2
          go_ret
          refine ⟨rb, rfl, by rw [HRES2.out]; exact hr, ?_⟩
          rw [← HB.out]
          exact HM5.out.below.trans (hb.mono hsB5)
        · have HRES2 : Hid (res = rMany ((ks.map SHP.re).getD 0 rNothing)) := HRES.out
          clear HRES
          go_wp2_with fail
          refine (many_any _ _ _ H15.out).mono ?_
          rintro e w6 ⟨rb, rfl, hr, hb⟩
          go_wp2
          go_ret
          refine ⟨rb, rfl, by rw [HRES2.out]; exact hr, ?_⟩
          rw [← HB.out]
          exact HM5.out.below.trans (hb.mono hsB5)
        · have HRES2 : Hid (res = rBoth (ks.map SHP.re)) := HRES.out
          clear HRES
          go_wp2_with fail
          refine (both_re _ _ _ HROW5.out hwf (by omega) (by omega) HT5.out).mono ?_
          rintro e w6 ⟨rb, rfl, hr, hb⟩
          go_wp2
          go_ret
          refine ⟨rb, rfl, by rw [HRES2.out]; exact hr, ?_⟩
          rw [← HB.out]
          exact HM5.out.below.trans (hb.mono hsB5)
        · have HRES2 : Hid (res = rBut ((ks.map SHP.re).getD 0 rNothing) ((ks.map SHP.re).getD 1 rNothing)) := HRES.out
          clear HRES
          go_wp2_with fail
          refine (but_any _ _ _ _ _ H15.out H25.out hwone hwtwo HT5.out).mono ?_
          rintro e w6 ⟨rb, rfl, hr, hb⟩
          go_wp2
          go_ret
          refine ⟨rb, rfl, by rw [HRES2.out]; exact hr, ?_⟩
          rw [← HB.out]
          exact HM5.out.below.trans (hb.mono hsB5)
        · have HRES2 : Hid (res = rWord (bytesN t)) := HRES.out
          clear HRES
          have xB := HM5.out.box
          have x0 := xB.cell 0; have x1 := xB.cell 1; have x2 := xB.cell 2; have x3 := xB.cell 3; have x4 := xB.cell 4
          simp only [List.getElem?_toArray, List.getElem?_cons_zero, List.getElem?_cons_succ] at x0 x1 x2 x3 x4
          clear xB
          go_wp2_with fail
          refine (word_any t _ (by omega)).mono ?_
          rintro e w6 ⟨rb, rfl, hr, hb⟩
          go_wp2
          go_ret
          refine ⟨rb, rfl, by rw [HRES2.out]; exact hr, ?_⟩
          rw [← HB.out]
          exact HM5.out.below.trans (hb.mono hsB5)
end Go.Proofs.YtdbdjjjmomociaaGreatDoor
/- The reader's lists: or, and. -/
namespace Go.Proofs.YtdbdjjjmomociaaGreatDoor
set_option maxRecDepth 100000
set_option linter.unusedSimpArgs false
set_option linter.unusedVariables false
open Go.RowKit

/-- What a reading call does: it yields what the function yields, and leaves the reader so. -/
def RdC (fn : FuncId) (m : St.Md) (F : Nat) : Prop := ∀ f, f < F → ∀ (p : Nat) (s : ByteArray) (st : St) (r : RE) (st' : St) (w : World), RdAt w p s st → Ok st → Pre st.cnt st m → TabAt w → St.P s.size f m st = some (r, st') →
  Calls Tryz.prog fn #[PT p] w fun e w' => ∃ b, e = .returned (PT b) ∧ ReAt w' b r ∧ RdAt w' p s st' ∧ Aside p w w'

/-- A list of what was read, and the reader. -/
structure LsW (w : World) (p : Nat) (s : ByteArray) (st : St) (v : Value) (ps : List (Nat × RE)) (W : World) : Prop where
  rd : RdAt W p s st
  own : OwnZ W w.heap.size v ps
  elem : ∀ x ∈ ps, ReAt W x.1 x.2
  aside : Aside p w W
  old : p < w.heap.size
theorem LsW.step {w W W' : World} {p : Nat} {s : ByteArray} {st : St} {v : Value} {ps : List (Nat × RE)} (h : LsW w p s st v ps W) (hb : Below W.heap.size W W') : LsW w p s st v ps W' :=
  ⟨h.rd.keep hb, h.own.keep hb, fun x hx => (h.elem x hx).keep hb, h.aside.trans (Aside.of_below hb), h.old⟩
theorem LsW.read {w W W' : World} {p : Nat} {s : ByteArray} {st st' : St} {v : Value} {ps : List (Nat × RE)} (h : LsW w p s st v ps W) (hr : RdAt W' p s st') (ha : Aside p W W') : LsW w p s st' v ps W' := by
  refine ⟨hr, ?_, fun x hx => (h.elem x hx).aside h.rd ha, h.aside.trans ha, h.old⟩
  obtain ⟨g, cap, cur, e, h1, h2, h3⟩ := h.own.own
  exact ⟨g, cap, cur, e, h1, (ha.block g h2.lt (by have := h.old; omega)).trans h2, h3⟩
theorem LsW.append {w W : World} {p : Nat} {s : ByteArray} {st : St} {v : Value} {ps : List (Nat × RE)} (h : LsW w p s st v ps W) (ty : TypeId) (sb b : Nat) (r : RE) (hs : Blk W sb #[PT b] 23) (hr : ReAt W b r) (hl : ps.length ≤ 1000000) :
    ∃ v' W', (Builtin.append_ #[47, 47] ty #[v, .slice (some ⟨sb, 0, none⟩) 1 1]).run Tryz.prog W = .ok v' W' ∧ LsW w p s st v' (ps ++ [(b, r)]) W' := by
  obtain ⟨v', W', h1, h2, h3, h4⟩ := run_appendZ h.own ty sb b r hs hl h.aside.size
  refine ⟨v', W', h1, ⟨h.rd.blk.below h3 h.old, h.rd.suf, h.rd.len, h.rd.big⟩, h2, fun x hx => ?_, ⟨h3.os.trans h.aside.os, h3.tape.trans h.aside.tape, h3.output.trans h.aside.output, Nat.le_trans h.aside.size h3.size, fun k hk hp => (h3.block k hk).trans (h.aside.block k hk hp)⟩, h.old⟩
  rcases List.mem_append.1 hx with hx | hx
  · exact h4 _ _ (h.elem x hx)
  · simp at hx; subst hx; exact h4 _ _ hr
theorem OwnZ.one {W : World} {base g b : Nat} {r : RE} (hg : Blk W g #[PT b] 23) (hb : base ≤ g) : OwnZ W base (.slice (some ⟨g, 0, none⟩) 1 1) [(b, r)] :=
  ⟨g, 1, _, rfl, hb, hg, by simp, by unfold maxLen; omega, rfl⟩
/-- The first one. -/
theorem LsW.one {w W : World} {p b : Nat} {s : ByteArray} {st : St} {r : RE} (hR : RdAt W p s st) (hA : Aside p w W) (hr : ReAt W b r) (hp : p < w.heap.size) :
    LsW w p s st (.slice (some ⟨W.heap.size, 0, none⟩) 1 1) [(b, r)] (W.alloc (.cells #[PT b] 23)) := by
  have hb := (Below.refl W.heap.size W).alloc (Nat.le_refl _) (.cells #[PT b] 23)
  exact ⟨hR.keep hb, OwnZ.one (Blk.newAt rfl _ _) hA.size, fun x hx => by simp at hx; subst hx; exact hr.keep hb, hA.trans (Aside.of_below hb), hp⟩
theorem LsW.row {w W : World} {p : Nat} {s : ByteArray} {st : St} {v : Value} {ps : List (Nat × RE)} (h : LsW w p s st v ps W) (hl : ps.length ≤ 4611686018427387904) : ResRow W v (ps.map Prod.snd) := (h.own.row hl).res h.elem
theorem ls_bounds {l : List RE} (h : cntL l ≤ 1000000000) : l.length ≤ 1099511627776 ∧ (catL l).length ≤ 1099511627776 ∧ (flatL 4 l).length ≤ 1099511627776 ∧ (flatL 6 l).length ≤ 1099511627776 := by
  have a0 := cntL_len l
  have a1 := cntL_len (catL l); have a2 := cntL_catL l
  have b1 := cntL_len (flatL 4 l); have b2 := cntL_flatL 4 l
  have c1 := cntL_len (flatL 6 l); have c2 := cntL_flatL 6 l
  omega
theorem Bd.cnt {x c0 : Nat} {st : St} (h : Bd x 0 c0 st) (ho : Ok st) : x ≤ 600000000 := by
  obtain ⟨h1, h2, h3⟩ := h
  have := ho.cnt
  by_cases e : st.err = 0
  · have := h1 e; omega
  · have := h2 e; omega

set_option maxHeartbeats 2000000 in
theorem or_step (F : Nat) (hm : RdC 71 .minus F) : RdC 35 .or (F + 1) := by
  intro f hf p s st r st' w hR ho hp hT hP
  cases f with
  | zero => simp [St.P] at hP
  | succ g =>
    simp only [St.P] at hP
    obtain ⟨⟨q, s1⟩, h1, h2⟩ := Option.bind_eq_some_iff.1 hP
    have hc := hm g (by omega) p s st q s1 w hR ho hp hT h1
    have hi := P_inv s.size g .minus st.cnt st q s1 h1 ho hp
    have HI := hide hi
    have HC := hide hc
    have H2 := hide h2
    have HT := hide hT
    have HR := hide hR
    have HM := hide hm
    have HPL := hide hR.blk.lt
    have hgF : g < F + 1 := by omega
    clear hP h1 h2 hc hi hT hR hm ho hf hp
    unfold PT at HC ⊢
    go_enter Tryz.func35, Tryz.ntmps35
    go_wp2_with fail
    refine HC.out.mono ?_
    rintro e w1 ⟨b, rfl, hrb, hR1, hA1⟩
    have hls := LsW.one hR1 hA1 hrb HPL.out
    have HLS := hide hls
    clear hrb hR1 hA1 hls HC
    unfold PT at HLS
    go_wp2
    go_loopg [3] g (fun k v wr => Hid (∃ ps st1, LsW w p s st1 v ps wr ∧ Ok st1 ∧ Pre st.cnt st1 (.orL (ps.map Prod.snd)) ∧ St.P s.size k (.orL (ps.map Prod.snd)) st1 = some (r, st') ∧ k ≤ g))
    case atStart => exact ⟨[(b, q)], s1, HLS.out, HI.out.ok, ⟨by simp, fun x hx => by simp at hx; subst hx; exact HI.out.wf, HI.out.bd.one, by have := HI.out.bd.lt (by simp only [offM]; omega); simp; omega⟩, H2.out, Nat.le_refl _⟩
    case round =>
      clear HLS HI H2
      obtain ⟨ps, st1, hls, hok, hpr, hP, hkg⟩ := hrel
      cases gk with
      | zero => simp [St.P] at hP
      | succ k =>
        simp only [St.P] at hP
        obtain ⟨g3, cap3, hv3⟩ := hls.own.slice
        subst hv3
        obtain ⟨z, hz⟩ : ∃ z, z = st1.signB 124 := ⟨_, rfl⟩
        have hsg := sign_any p 124 s st1 wr hls.rd
        rw [← hz] at hsg hP
        have HSG := hide hsg
        have HLS := hide hls
        have HOK := hide hok
        have HPR := hide hpr
        have HZ := hide hz
        have hpl : ps.length ≤ 1000000 := by
          have h1 := hpr.2.2.2
          have h2 := hok.cnt
          simp at h1; omega
        clear hsg hls hok hpr hz
        unfold PT at HSG
        go_wp2_with fail
        refine HSG.out.mono ?_
        rintro e w2 ⟨rfl, hR2, hA2⟩
        have HL2 := hide (HLS.out.read hR2 hA2)
        clear hR2 hA2 HSG HLS
        have HT2 := hide (HT.out.aside HR.out HL2.out.aside)
        cases z with
        | true =>
          rw [if_pos rfl] at hP
          obtain ⟨⟨q, s2⟩, h1, h2⟩ := Option.bind_eq_some_iff.1 hP
          have hs0 := HOK.out.sign0 HZ.out.symm
          have hcc := (HOK.out.ok hs0).1
          have hq := sign_eq 124 st1
          have hpre : Pre (st1.sign 124).cnt (st1.sign 124) .minus := ⟨rfl, by omega⟩
          have hc := HM.out k (by omega) p s _ q s2 w2 HL2.out.rd (HOK.out.sign 124) hpre HT2.out h1
          have hi := P_inv s.size k .minus _ _ q s2 h1 (HOK.out.sign 124) hpre
          have hb1 : Bd (q.cnt + 7) 0 st1.cnt s2 := by rw [← hq.2.1]; exact hi.bd
          have HPR2 : Hid (Pre st.cnt s2 (.orL (ps.map Prod.snd ++ [q]))) := by
            obtain ⟨p1, p2, p3, p4⟩ := HPR.out
            refine ⟨by simp, fun x hx => ?_, Bd.snoc (x := 0) (y := 0) p3 hs0 hb1, ?_⟩
            · rcases List.mem_append.1 hx with hx | hx
              · exact p2 x hx
              · rw [List.mem_singleton] at hx; subst hx; exact hi.wf
            · have := hb1.lt (by omega)
              rw [List.length_append, List.length_singleton]; omega
          have HI := hide hi
          have HC := hide hc
          have H2 := hide h2
          clear hP h1 h2 hc hi hs0 hcc hq hpre hb1 HOK HPR HZ
          unfold PT at HC
          go_wp2_with fail
          refine HC.out.mono ?_
          rintro e w3 ⟨b, rfl, hrb, hR3, hA3⟩
          have hl3 := HL2.out.read hR3 hA3
          have hb3 := (Below.refl w3.heap.size w3).alloc (Nat.le_refl _) (.cells #[PT b] 23)
          obtain ⟨v3, W3, hr3, hl4⟩ := (hl3.step hb3).append 47 w3.heap.size b q (Blk.newAt rfl _ _) (hrb.keep hb3) hpl
          have HL4 := hide hl4
          clear hrb hR3 hA3 hl3 hb3 hl4 HC HL2 HT2
          unfold PT at hr3
          go_wp2_with (refine wpList_append_run rfl _ _ _ rfl _ _ _ rfl rfl hr3 ?_)
          go_roundg k
          case measure => omega
          case rel => exact ⟨ps ++ [(b, q)], s2, HL4.out, HI.out.ok, by rw [List.map_append]; exact HPR2.out, by rw [List.map_append]; exact H2.out, by omega⟩
        | false =>
          rw [if_neg (by simp)] at hP
          injection hP with hP
          injection hP with e1 e2
          obtain ⟨p1, p2, p3, p4⟩ := HPR.out
          have hcb := p3.cnt HOK.out
          obtain ⟨b1, b2, b3, b4⟩ := ls_bounds (l := ps.map Prod.snd) (by omega)
          have hca := any_re (ps.map Prod.snd) _ w2 (HL2.out.row (by omega)) p2 b1 b3 HT2.out
          rw [e1] at hca
          have HCA := hide hca
          have HE2 := hide e2
          clear hca e1 e2 p1 p2 p3 p4 hcb b1 b2 b3 b4 HOK HPR HT2
          go_wp2_with fail
          refine HCA.out.mono ?_
          rintro e w3 ⟨b, rfl, hrb, hb3⟩
          have HRB := hide hrb
          have HL3 := hide (HL2.out.step hb3)
          clear hrb hb3 HCA HL2
          unfold PT
          go_wp2
          go_ret
          refine ⟨b, rfl, HRB.out, ?_, HL3.out.aside⟩
          rw [← HE2.out]; exact HL3.out.rd

set_option maxHeartbeats 2000000 in
theorem and_step (F : Nat) (hm : RdC 123 .cat F) : RdC 97 .and (F + 1) := by
  intro f hf p s st r st' w hR ho hp hT hP
  cases f with
  | zero => simp [St.P] at hP
  | succ g =>
    simp only [St.P] at hP
    obtain ⟨⟨q, s1⟩, h1, h2⟩ := Option.bind_eq_some_iff.1 hP
    have hc := hm g (by omega) p s st q s1 w hR ho hp hT h1
    have hi := P_inv s.size g .cat st.cnt st q s1 h1 ho hp
    have HI := hide hi
    have HC := hide hc
    have H2 := hide h2
    have HT := hide hT
    have HR := hide hR
    have HM := hide hm
    have HPL := hide hR.blk.lt
    have hgF : g < F + 1 := by omega
    clear hP h1 h2 hc hi hT hR hm ho hf hp
    unfold PT at HC ⊢
    go_enter Tryz.func97, Tryz.ntmps97
    go_wp2_with fail
    refine HC.out.mono ?_
    rintro e w1 ⟨b, rfl, hrb, hR1, hA1⟩
    have hls := LsW.one hR1 hA1 hrb HPL.out
    have HLS := hide hls
    clear hrb hR1 hA1 hls HC
    unfold PT at HLS
    go_wp2
    go_loopg [3] g (fun k v wr => Hid (∃ ps st1, LsW w p s st1 v ps wr ∧ Ok st1 ∧ Pre st.cnt st1 (.andL (ps.map Prod.snd)) ∧ St.P s.size k (.andL (ps.map Prod.snd)) st1 = some (r, st') ∧ k ≤ g))
    case atStart => exact ⟨[(b, q)], s1, HLS.out, HI.out.ok, ⟨by simp, fun x hx => by simp at hx; subst hx; exact HI.out.wf, HI.out.bd.one, by have := HI.out.bd.lt (by simp only [offM]; omega); simp; omega⟩, H2.out, Nat.le_refl _⟩
    case round =>
      clear HLS HI H2
      obtain ⟨ps, st1, hls, hok, hpr, hP, hkg⟩ := hrel
      cases gk with
      | zero => simp [St.P] at hP
      | succ k =>
        simp only [St.P] at hP
        obtain ⟨g3, cap3, hv3⟩ := hls.own.slice
        subst hv3
        obtain ⟨z, hz⟩ : ∃ z, z = st1.signB 38 := ⟨_, rfl⟩
        have hsg := sign_any p 38 s st1 wr hls.rd
        rw [← hz] at hsg hP
        have HSG := hide hsg
        have HLS := hide hls
        have HOK := hide hok
        have HPR := hide hpr
        have HZ := hide hz
        have hpl : ps.length ≤ 1000000 := by
          have h1 := hpr.2.2.2
          have h2 := hok.cnt
          simp at h1; omega
        clear hsg hls hok hpr hz
        unfold PT at HSG
        go_wp2_with fail
        refine HSG.out.mono ?_
        rintro e w2 ⟨rfl, hR2, hA2⟩
        have HL2 := hide (HLS.out.read hR2 hA2)
        clear hR2 hA2 HSG HLS
        have HT2 := hide (HT.out.aside HR.out HL2.out.aside)
        cases z with
        | true =>
          rw [if_pos rfl] at hP
          obtain ⟨⟨q, s2⟩, h1, h2⟩ := Option.bind_eq_some_iff.1 hP
          have hs0 := HOK.out.sign0 HZ.out.symm
          have hcc := (HOK.out.ok hs0).1
          have hq := sign_eq 38 st1
          have hpre : Pre (st1.sign 38).cnt (st1.sign 38) .cat := ⟨rfl, by omega⟩
          have hc := HM.out k (by omega) p s _ q s2 w2 HL2.out.rd (HOK.out.sign 38) hpre HT2.out h1
          have hi := P_inv s.size k .cat _ _ q s2 h1 (HOK.out.sign 38) hpre
          have hb1 : Bd (q.cnt + 9) 0 st1.cnt s2 := by rw [← hq.2.1]; exact hi.bd
          have HPR2 : Hid (Pre st.cnt s2 (.andL (ps.map Prod.snd ++ [q]))) := by
            obtain ⟨p1, p2, p3, p4⟩ := HPR.out
            refine ⟨by simp, fun x hx => ?_, Bd.snoc (x := 0) (y := 0) p3 hs0 hb1, ?_⟩
            · rcases List.mem_append.1 hx with hx | hx
              · exact p2 x hx
              · rw [List.mem_singleton] at hx; subst hx; exact hi.wf
            · have := hb1.lt (by omega)
              rw [List.length_append, List.length_singleton]; omega
          have HI := hide hi
          have HC := hide hc
          have H2 := hide h2
          clear hP h1 h2 hc hi hs0 hcc hq hpre hb1 HOK HPR HZ
          unfold PT at HC
          go_wp2_with fail
          refine HC.out.mono ?_
          rintro e w3 ⟨b, rfl, hrb, hR3, hA3⟩
          have hl3 := HL2.out.read hR3 hA3
          have hb3 := (Below.refl w3.heap.size w3).alloc (Nat.le_refl _) (.cells #[PT b] 23)
          obtain ⟨v3, W3, hr3, hl4⟩ := (hl3.step hb3).append 47 w3.heap.size b q (Blk.newAt rfl _ _) (hrb.keep hb3) hpl
          have HL4 := hide hl4
          clear hrb hR3 hA3 hl3 hb3 hl4 HC HL2 HT2
          unfold PT at hr3
          go_wp2_with (refine wpList_append_run rfl _ _ _ rfl _ _ _ rfl rfl hr3 ?_)
          go_roundg k
          case measure => omega
          case rel => exact ⟨ps ++ [(b, q)], s2, HL4.out, HI.out.ok, by rw [List.map_append]; exact HPR2.out, by rw [List.map_append]; exact H2.out, by omega⟩
        | false =>
          rw [if_neg (by simp)] at hP
          injection hP with hP
          injection hP with e1 e2
          obtain ⟨p1, p2, p3, p4⟩ := HPR.out
          have hcb := p3.cnt HOK.out
          obtain ⟨b1, b2, b3, b4⟩ := ls_bounds (l := ps.map Prod.snd) (by omega)
          have hca := both_re (ps.map Prod.snd) _ w2 (HL2.out.row (by omega)) p2 b1 b4 HT2.out
          rw [e1] at hca
          have HCA := hide hca
          have HE2 := hide e2
          clear hca e1 e2 p1 p2 p3 p4 hcb b1 b2 b3 b4 HOK HPR HT2
          go_wp2_with fail
          refine HCA.out.mono ?_
          rintro e w3 ⟨b, rfl, hrb, hb3⟩
          have HRB := hide hrb
          have HL3 := hide (HL2.out.step hb3)
          clear hrb hb3 HCA HL2
          unfold PT
          go_wp2
          go_ret
          refine ⟨b, rfl, HRB.out, ?_, HL3.out.aside⟩
          rw [← HE2.out]; exact HL3.out.rd
end Go.Proofs.YtdbdjjjmomociaaGreatDoor
/- The reader: minus, post, atom, group. -/
namespace Go.Proofs.YtdbdjjjmomociaaGreatDoor
set_option maxRecDepth 100000
set_option linter.unusedSimpArgs false
set_option linter.unusedVariables false
open Go.RowKit

/-- What was read, and the reader. -/
structure OnW (w : World) (p : Nat) (s : ByteArray) (st : St) (b : Nat) (x : RE) (W : World) : Prop where
  rd : RdAt W p s st
  re : ReAt W b x
  aside : Aside p w W
theorem OnW.step {w W W' : World} {p : Nat} {s : ByteArray} {st : St} {b : Nat} {x : RE} (h : OnW w p s st b x W) (hb : Below W.heap.size W W') : OnW w p s st b x W' := ⟨h.rd.keep hb, h.re.keep hb, h.aside.trans (Aside.of_below hb)⟩
theorem OnW.read {w W W' : World} {p : Nat} {s : ByteArray} {st st' : St} {b : Nat} {x : RE} (h : OnW w p s st b x W) (hr : RdAt W' p s st') (ha : Aside p W W') : OnW w p s st' b x W' := ⟨hr, h.re.aside h.rd ha, h.aside.trans ha⟩
theorem OnW.new {w W : World} {p : Nat} {s : ByteArray} {st : St} {b b' : Nat} {x y : RE} (h : OnW w p s st b x W) (hr : ReAt W b' y) : OnW w p s st b' y W := ⟨h.rd, hr, h.aside⟩

set_option maxHeartbeats 2000000 in
theorem minus_step (F : Nat) (hm : RdC 97 .and F) : RdC 71 .minus (F + 1) := by
  intro f hf p s st r st' w hR ho hp hT hP
  cases f with
  | zero => simp [St.P] at hP
  | succ g =>
    simp only [St.P] at hP
    obtain ⟨⟨q, s1⟩, h1, h2⟩ := Option.bind_eq_some_iff.1 hP
    have hc := hm g (by omega) p s st q s1 w hR ho hp hT h1
    have hi := P_inv s.size g .and st.cnt st q s1 h1 ho hp
    have HI := hide hi
    have HC := hide hc
    have H2 := hide h2
    have HT := hide hT
    have HR := hide hR
    have HM := hide hm
    have hgF : g < F + 1 := by omega
    clear hP h1 h2 hc hi hT hR hm ho hf hp
    unfold PT at HC ⊢
    go_enter Tryz.func71, Tryz.ntmps71
    go_wp2_with fail
    refine HC.out.mono ?_
    rintro e w1 ⟨b, rfl, hrb, hR1, hA1⟩
    have HON : Hid (OnW w p s s1 b q w1) := ⟨hR1, hrb, hA1⟩
    clear hrb hR1 hA1 HC
    go_wp2
    go_loopg [3] g (fun k v wr => ∃ b x st1, v = .pointer (some ⟨b, 0, none⟩) ∧ Hid (OnW w p s st1 b x wr ∧ Ok st1 ∧ Pre st.cnt st1 (.minusL x) ∧ St.P s.size k (.minusL x) st1 = some (r, st') ∧ k ≤ g))
    case atStart => exact ⟨b, q, s1, rfl, HON.out, HI.out.ok, ⟨HI.out.wf, HI.out.bd⟩, H2.out, Nat.le_refl _⟩
    case round =>
      clear HON HI H2
      obtain ⟨b1, x, st1, rfl, hon, hok, hpr, hP, hkg⟩ := hrel
      cases gk with
      | zero => simp [St.P] at hP
      | succ k =>
        simp only [St.P] at hP
        obtain ⟨z, hz⟩ : ∃ z, z = st1.signB 45 := ⟨_, rfl⟩
        have hsg := sign_any p 45 s st1 wr hon.rd
        rw [← hz] at hsg hP
        have HSG := hide hsg
        have HON := hide hon
        have HOK := hide hok
        have HPR := hide hpr
        have HZ := hide hz
        clear hsg hon hok hpr hz
        unfold PT at HSG
        go_wp2_with fail
        refine HSG.out.mono ?_
        rintro e w2 ⟨rfl, hR2, hA2⟩
        have HL2 := hide (HON.out.read hR2 hA2)
        clear hR2 hA2 HSG HON
        have HT2 := hide (HT.out.aside HR.out HL2.out.aside)
        cases z with
        | true =>
          rw [if_pos rfl] at hP
          obtain ⟨⟨q, s2⟩, h1, h2⟩ := Option.bind_eq_some_iff.1 hP
          have hs0 := HOK.out.sign0 HZ.out.symm
          have hcc := (HOK.out.ok hs0).1
          have hq := sign_eq 45 st1
          have hpre : Pre (st1.sign 45).cnt (st1.sign 45) .and := ⟨rfl, by omega⟩
          have hc := HM.out k (by omega) p s _ q s2 w2 HL2.out.rd (HOK.out.sign 45) hpre HT2.out h1
          have hi := P_inv s.size k .and _ _ q s2 h1 (HOK.out.sign 45) hpre
          have HPR2 : Hid (Pre st.cnt s2 (.minusL (rBut x q))) := by
            obtain ⟨p1, hb⟩ := HPR.out
            obtain ⟨k1, k2, k3⟩ := hi.bd
            rw [hq.2.1] at k1 k2 k3
            simp only [offM, slackM] at k1 k2
            have kb := hb.1 hs0
            have kc := hb.2.2
            have hk := cnt_but x q
            exact ⟨wf_but p1 hi.wf, fun e => by have := k1 e; omega, fun e => by have := k2 e; omega, by omega⟩
          have HI := hide hi
          have HC := hide hc
          have H2 := hide h2
          have HWX := hide HPR.out.1
          clear hP h1 h2 hc hi hs0 hcc hq hpre HOK HPR HZ
          unfold PT at HC
          go_wp2_with fail
          refine HC.out.mono ?_
          rintro e w3 ⟨b2, rfl, hrb, hR3, hA3⟩
          have hl3 := HL2.out.read hR3 hA3
          have hbt := but_any b1 b2 x q w3 hl3.re hrb HWX.out.k HI.out.wf.k (HT.out.aside HR.out hl3.aside)
          have HBT := hide hbt
          have HL3 := hide hl3
          clear hrb hR3 hA3 hl3 hbt HC HL2 HT2 HWX
          unfold PT at HBT
          go_wp2_with fail
          refine HBT.out.mono ?_
          rintro e w4 ⟨b3, rfl, hrb, hb4⟩
          have HL4 := hide ((HL3.out.step hb4).new hrb)
          clear hrb hb4 HBT HL3
          go_wp2
          go_roundg k
          case measure => omega
          case rel => exact ⟨b3, rBut x q, s2, rfl, HL4.out, HI.out.ok, HPR2.out, H2.out, by omega⟩
        | false =>
          rw [if_neg (by simp)] at hP
          injection hP with hP
          injection hP with e1 e2
          have HE1 := hide e1
          have HE2 := hide e2
          clear e1 e2 HOK HPR HT2
          go_wp2
          go_ret
          refine ⟨b1, rfl, ?_, ?_, HL2.out.aside⟩
          · rw [← HE1.out]; exact HL2.out.re
          · rw [← HE2.out]; exact HL2.out.rd

/-- group: at least the ( was read. -/
def RdG (F : Nat) : Prop := ∀ f, f < F → ∀ (p : Nat) (s : ByteArray) (st : St) (r : RE) (st' : St) (w : World), RdAt w p s st → Ok st → Pre st.cnt st .group → TabAt w → st.rest.length < s.size → St.P s.size f .group st = some (r, st') →
  Calls Tryz.prog 153 #[PT p] w fun e w' => ∃ b, e = .returned (PT b) ∧ ReAt w' b r ∧ RdAt w' p s st' ∧ Aside p w w'
theorem RdAt.up {w : World} {p : Nat} {s : ByteArray} {st : St} (h : RdAt w p s st) (n : Nat) (hn : n = st.deep - 1) : RdAt (w.setCell ⟨p, 2, none⟩ (.int .i64 n)) p s st.upper := by
  subst hn; exact ⟨h.blk.rd2 _, h.suf, h.len, h.big⟩
theorem OnW.up {w W : World} {p : Nat} {s : ByteArray} {st : St} {b : Nat} {x : RE} (h : OnW w p s st b x W) (n : Nat) (hn : n = st.deep - 1) : OnW w p s st.upper b x (W.setCell ⟨p, 2, none⟩ (.int .i64 n)) :=
  h.read (h.rd.up n hn) (Aside.set _ _ _)

set_option maxHeartbeats 1000000 in
theorem group_step (F : Nat) (hm : RdC 35 .or F) : RdG (F + 1) := by
  intro f hf p s st r st' w hR ho hp hT hlt hP
  cases f with
  | zero => simp [St.P] at hP
  | succ g =>
    simp only [St.P] at hP
    obtain ⟨-, hcn, h0⟩ := hp
    have hdp := (ho.ok h0).2
    have hcc := (ho.ok h0).1
    obtain ⟨c0, c1, c2, c3, c4, c5, cf⟩ := hR.cells
    have f2 := cf 2
    have hl0 := hR.big
    obtain ⟨at1, hat⟩ : ∃ a, a + 1 = s.size - st.rest.length := ⟨s.size - st.rest.length - 1, by omega⟩
    have hab : at1 ≤ 65536 := by omega
    rw [← hat] at c1
    have hn : RdAt (w.setCell ⟨p, 2, none⟩ (.int .i64 ((st.deep + 1 : Nat) : Int))) p s ⟨st.rest, st.deep + 1, st.cnt, st.err, st.wh⟩ := ⟨hR.blk.rd2 _, hR.suf, hR.len, hR.big⟩
    obtain ⟨D, hD⟩ : ∃ D, D = st.deep := ⟨_, rfl⟩
    rw [← hD] at hn c2 hdp
    obtain ⟨w1, hw1⟩ : ∃ w1, w1 = w.setCell ⟨p, 2, none⟩ (.int .i64 ((D + 1 : Nat) : Int)) := ⟨_, rfl⟩
    have ew : (w.setCell ⟨p, 2, none⟩ (.int .i64 ((D : Int) + 1))) = w1 := hw1.symm
    have HA1 := hide (show Aside p w w1 by rw [hw1]; exact Aside.set _ _ _)
    rw [← hw1] at hn
    have d1 := hn.cells.2.1
    have d2 := hn.cells.2.2.1
    simp only [] at d1 d2
    rw [← hat] at d1
    obtain ⟨s0, hs0⟩ : ∃ s0, s0 = st.deeper s.size := ⟨_, rfl⟩
    rw [← hs0] at hP
    have HS0 := hide hs0
    have HAT := hide hat
    have HN := hide hn
    have HDD := hide hD
    have HR := hide hR
    have HT := hide hT
    have HM := hide hm
    have HO0 : Hid (Ok s0 ∧ s0.cnt = st.cnt ∧ s0.deep = D + 1) := by
      show _ ∧ _
      rw [hs0, hD]
      unfold St.deeper
      split
      · exact ⟨⟨by show st.deep + 1 ≤ 61; omega, fun e => absurd e (fail_err 4 _ _ (by omega)), fun _ => rfl, by show st.cnt ≤ _; omega⟩, rfl, rfl⟩
      · exact ⟨⟨by show st.deep + 1 ≤ 61; omega, fun e => ⟨by show st.cnt + st.rest.length ≤ _; omega, by show st.deep + 1 ≤ 60; omega⟩, fun e => absurd h0 e, by show st.cnt ≤ _; omega⟩, rfl, rfl⟩
    clear hs0 hat hn hw1 cf hR hT hm ho h0 hlt hD c4
    unfold PT
    go_enter Tryz.func153, Tryz.ntmps153
    by_cases hd60 : 60 < D + 1
    · have hdd : decide ((60 : Int) < (D : Int) + 1) = true := by simp; omega
      have hfl := fail_any p 4 at1 s ⟨st.rest, D + 1, st.cnt, st.err, st.wh⟩ w1 HN.out
      have HE : Hid (s0 = St.fail 4 at1 ⟨st.rest, D + 1, st.cnt, st.err, st.wh⟩) := by
        show _ = _
        rw [HS0.out]
        unfold St.deeper
        rw [← HDD.out, if_pos hd60]
        congr 1
        unfold St.pos
        have := HAT.out
        omega
      rw [← HE.out] at hfl
      have HF := hide hfl
      clear hfl hd60
      unfold PT at HF
      go_wp2_with fail
      refine HF.out.mono ?_
      rintro e w2 ⟨rfl, hR2, hA2⟩
      have HR2 := hide hR2
      have HA2 := hide (HA1.out.trans hA2)
      clear hR2 hA2 HF HE d1 d2 ew c0 c1 c2 c3 c5
      have HEM := hide (empty_re w2)
      go_wp2_with fail
      refine HEM.out.mono ?_
      rintro e w3 ⟨b0, rfl, hrb, hb3⟩
      have HON : Hid (OnW w p s s0 b0 rEmpty w3) := ⟨HR2.out.keep hb3, hrb, HA2.out.trans (Aside.of_below hb3)⟩
      clear hrb hb3 HEM HR2 HA2
      obtain ⟨z, hz⟩ : ∃ z, z = s0.signB 41 := ⟨_, rfl⟩
      have hsg := sign_any p 41 s s0 w3 HON.out.rd
      rw [← hz] at hsg hP
      have HSG := hide hsg
      have hq := sign_eq 41 s0
      have HDE : Hid ((s0.sign 41).deep = D + 1) := hq.1.trans HO0.out.2.2
      have HCN : Hid ((s0.sign 41).cnt ≤ 65536) := by show _ ≤ _; rw [hq.2.1, HO0.out.2.1]; exact hcn
      clear hz hsg hq
      unfold PT at HSG ⊢
      go_wp2_with fail
      refine HSG.out.mono ?_
      rintro e w4 ⟨rfl, hR4, hA4⟩
      have HO4 := hide (HON.out.read hR4 hA4)
      clear hR4 hA4 HSG HON
      cases z with
      | true =>
        rw [if_pos rfl] at hP
        injection hP with hP
        injection hP with e1 e2
        have HE1 := hide e1
        have HE2 := hide e2
        have g2 := HO4.out.rd.cells.2.2.1
        rw [HDE.out] at g2
        have gf := HO4.out.rd.cells.2.2.2.2.2.2 2
        have HUP := hide (HO4.out.up D (by have := HDE.out; omega))
        clear e1 e2 HO4
        go_wp2
        go_ret
        refine ⟨b0, rfl, ?_, ?_, HUP.out.aside⟩
        · rw [← HE1.out]; exact HUP.out.re
        · rw [← HE2.out]; exact HUP.out.rd
      | false =>
        rw [if_neg (by simp)] at hP
        obtain ⟨⟨q, s1⟩, h1, h2⟩ := Option.map_eq_some_iff.1 hP
        simp only [Prod.mk.injEq] at h2
        have hT4 := HT.out.aside HR.out HO4.out.aside
        have hok4 := HO0.out.1.sign 41
        have hc := HM.out g (by omega) p s _ q s1 w4 HO4.out.rd hok4 ⟨rfl, HCN.out⟩ hT4 h1
        have hi := P_inv s.size g .or _ _ q s1 h1 hok4 ⟨rfl, HCN.out⟩
        have HC := hide hc
        have HI := hide hi
        have HD1 : Hid (s1.deep = D + 1) := hi.to.deep.trans HDE.out
        have HE1 := hide h2.1
        have HE2 := hide h2.2
        clear hP h1 h2 hT4 hok4 hc hi
        unfold PT at HC
        go_wp2_with fail
        refine HC.out.mono ?_
        rintro e w5 ⟨b1, rfl, hrb, hR5, hA5⟩
        have HO5 : Hid (OnW w p s s1 b1 q w5) := ⟨hR5, hrb, HO4.out.aside.trans hA5⟩
        clear hrb hR5 hA5 HC HO4
        obtain ⟨z2, hz2⟩ : ∃ z2, z2 = s1.signB 41 := ⟨_, rfl⟩
        have hsg := sign_any p 41 s s1 w5 HO5.out.rd
        rw [← hz2] at hsg HE2
        have HSG := hide hsg
        have HD2 : Hid ((s1.sign 41).deep = D + 1) := (sign_eq 41 s1).1.trans HD1.out
        clear hz2 hsg
        unfold PT at HSG
        go_wp2_with fail
        refine HSG.out.mono ?_
        rintro e w6 ⟨rfl, hR6, hA6⟩
        have HO6 := hide (HO5.out.read hR6 hA6)
        clear hR6 hA6 HSG HO5
        cases z2 with
        | true =>
          rw [if_pos rfl] at HE2
          have g2 := HO6.out.rd.cells.2.2.1
          rw [HD2.out] at g2
          have gf := HO6.out.rd.cells.2.2.2.2.2.2 2
          have HUP := hide (HO6.out.up D (by have := HD2.out; omega))
          clear HO6
          go_wp2
          go_ret
          refine ⟨b1, rfl, ?_, ?_, HUP.out.aside⟩
          · rw [← HE1.out]; exact HUP.out.re
          · rw [← HE2.out]; exact HUP.out.rd
        | false =>
          rw [if_neg (by simp)] at HE2
          obtain ⟨at2, hat2⟩ : ∃ a, a = (s1.sign 41).pos s.size := ⟨_, rfl⟩
          have g1 := HO6.out.rd.cells.2.1
          have ea : s.size - (s1.sign 41).rest.length = at2 := hat2.symm
          rw [ea] at g1
          rw [← hat2] at HE2
          have HF := hide (fail_any p 2 at2 s _ w6 HO6.out.rd)
          clear hat2 ea
          unfold PT at HF
          go_wp2_with fail
          refine HF.out.mono ?_
          rintro e w7 ⟨rfl, hR7, hA7⟩
          have HO7 := hide (HO6.out.read hR7 hA7)
          have g2 := hR7.cells.2.2.1
          have gf := hR7.cells.2.2.2.2.2.2 2
          have hd7 : (St.fail 2 at2 (s1.sign 41)).deep = D + 1 := HD2.out
          rw [hd7] at g2
          have HUP := hide (HO7.out.up D (by omega))
          clear hR7 hA7 HF HO6 g1 HO7 hd7
          go_wp2
          go_ret
          refine ⟨b1, rfl, ?_, ?_, HUP.out.aside⟩
          · rw [← HE1.out]; exact HUP.out.re
          · rw [← HE2.out]; exact HUP.out.rd
    · have hdd : decide ((60 : Int) < (D : Int) + 1) = false := by simp; omega
      have HE : Hid (s0 = ⟨st.rest, D + 1, st.cnt, st.err, st.wh⟩) := by
        show _ = _
        rw [HS0.out]
        unfold St.deeper
        rw [← HDD.out, if_neg hd60]
      have HR2 : Hid (RdAt w1 p s s0) := by rw [HE.out]; exact HN.out
      have HA2 := HA1
      clear hd60 HE
      obtain ⟨w2, hw2⟩ : ∃ w2, w2 = w1 := ⟨_, rfl⟩
      rw [← hw2] at HR2 HA2 ew d2 HN
      clear c0 c1 c3 c5
      have HEM := hide (empty_re w2)
      subst hw2
      go_wp2_with fail
      refine HEM.out.mono ?_
      rintro e w3 ⟨b0, rfl, hrb, hb3⟩
      have HON : Hid (OnW w p s s0 b0 rEmpty w3) := ⟨HR2.out.keep hb3, hrb, HA2.out.trans (Aside.of_below hb3)⟩
      clear hrb hb3 HEM HR2 HA2
      obtain ⟨z, hz⟩ : ∃ z, z = s0.signB 41 := ⟨_, rfl⟩
      have hsg := sign_any p 41 s s0 w3 HON.out.rd
      rw [← hz] at hsg hP
      have HSG := hide hsg
      have hq := sign_eq 41 s0
      have HDE : Hid ((s0.sign 41).deep = D + 1) := hq.1.trans HO0.out.2.2
      have HCN : Hid ((s0.sign 41).cnt ≤ 65536) := by show _ ≤ _; rw [hq.2.1, HO0.out.2.1]; exact hcn
      clear hz hsg hq
      unfold PT at HSG ⊢
      go_wp2_with fail
      refine HSG.out.mono ?_
      rintro e w4 ⟨rfl, hR4, hA4⟩
      have HO4 := hide (HON.out.read hR4 hA4)
      clear hR4 hA4 HSG HON
      cases z with
      | true =>
        rw [if_pos rfl] at hP
        injection hP with hP
        injection hP with e1 e2
        have HE1 := hide e1
        have HE2 := hide e2
        have g2 := HO4.out.rd.cells.2.2.1
        rw [HDE.out] at g2
        have gf := HO4.out.rd.cells.2.2.2.2.2.2 2
        have HUP := hide (HO4.out.up D (by have := HDE.out; omega))
        clear e1 e2 HO4
        go_wp2
        go_ret
        refine ⟨b0, rfl, ?_, ?_, HUP.out.aside⟩
        · rw [← HE1.out]; exact HUP.out.re
        · rw [← HE2.out]; exact HUP.out.rd
      | false =>
        rw [if_neg (by simp)] at hP
        obtain ⟨⟨q, s1⟩, h1, h2⟩ := Option.map_eq_some_iff.1 hP
        simp only [Prod.mk.injEq] at h2
        have hT4 := HT.out.aside HR.out HO4.out.aside
        have hok4 := HO0.out.1.sign 41
        have hc := HM.out g (by omega) p s _ q s1 w4 HO4.out.rd hok4 ⟨rfl, HCN.out⟩ hT4 h1
        have hi := P_inv s.size g .or _ _ q s1 h1 hok4 ⟨rfl, HCN.out⟩
        have HC := hide hc
        have HI := hide hi
        have HD1 : Hid (s1.deep = D + 1) := hi.to.deep.trans HDE.out
        have HE1 := hide h2.1
        have HE2 := hide h2.2
        clear hP h1 h2 hT4 hok4 hc hi
        unfold PT at HC
        go_wp2_with fail
        refine HC.out.mono ?_
        rintro e w5 ⟨b1, rfl, hrb, hR5, hA5⟩
        have HO5 : Hid (OnW w p s s1 b1 q w5) := ⟨hR5, hrb, HO4.out.aside.trans hA5⟩
        clear hrb hR5 hA5 HC HO4
        obtain ⟨z2, hz2⟩ : ∃ z2, z2 = s1.signB 41 := ⟨_, rfl⟩
        have hsg := sign_any p 41 s s1 w5 HO5.out.rd
        rw [← hz2] at hsg HE2
        have HSG := hide hsg
        have HD2 : Hid ((s1.sign 41).deep = D + 1) := (sign_eq 41 s1).1.trans HD1.out
        clear hz2 hsg
        unfold PT at HSG
        go_wp2_with fail
        refine HSG.out.mono ?_
        rintro e w6 ⟨rfl, hR6, hA6⟩
        have HO6 := hide (HO5.out.read hR6 hA6)
        clear hR6 hA6 HSG HO5
        cases z2 with
        | true =>
          rw [if_pos rfl] at HE2
          have g2 := HO6.out.rd.cells.2.2.1
          rw [HD2.out] at g2
          have gf := HO6.out.rd.cells.2.2.2.2.2.2 2
          have HUP := hide (HO6.out.up D (by have := HD2.out; omega))
          clear HO6
          go_wp2
          go_ret
          refine ⟨b1, rfl, ?_, ?_, HUP.out.aside⟩
          · rw [← HE1.out]; exact HUP.out.re
          · rw [← HE2.out]; exact HUP.out.rd
        | false =>
          rw [if_neg (by simp)] at HE2
          obtain ⟨at2, hat2⟩ : ∃ a, a = (s1.sign 41).pos s.size := ⟨_, rfl⟩
          have g1 := HO6.out.rd.cells.2.1
          have ea : s.size - (s1.sign 41).rest.length = at2 := hat2.symm
          rw [ea] at g1
          rw [← hat2] at HE2
          have HF := hide (fail_any p 2 at2 s _ w6 HO6.out.rd)
          clear hat2 ea
          unfold PT at HF
          go_wp2_with fail
          refine HF.out.mono ?_
          rintro e w7 ⟨rfl, hR7, hA7⟩
          have HO7 := hide (HO6.out.read hR7 hA7)
          have g2 := hR7.cells.2.2.1
          have gf := hR7.cells.2.2.2.2.2.2 2
          have hd7 : (St.fail 2 at2 (s1.sign 41)).deep = D + 1 := HD2.out
          rw [hd7] at g2
          have HUP := hide (HO7.out.up D (by omega))
          clear hR7 hA7 HF HO6 g1 HO7 hd7
          go_wp2
          go_ret
          refine ⟨b1, rfl, ?_, ?_, HUP.out.aside⟩
          · rw [← HE1.out]; exact HUP.out.re
          · rw [← HE2.out]; exact HUP.out.rd
end Go.Proofs.YtdbdjjjmomociaaGreatDoor
/- The reader: atom, post. -/
namespace Go.Proofs.YtdbdjjjmomociaaGreatDoor
set_option maxRecDepth 100000
set_option linter.unusedSimpArgs false
set_option linter.unusedVariables false
open Go.RowKit

/-- The reader, in a later world. -/
structure AtW (w : World) (p : Nat) (s : ByteArray) (st : St) (W : World) : Prop where
  rd : RdAt W p s st
  aside : Aside p w W
theorem AtW.step {w W W' : World} {p : Nat} {s : ByteArray} {st : St} (h : AtW w p s st W) (hb : Below W.heap.size W W') : AtW w p s st W' := ⟨h.rd.keep hb, h.aside.trans (Aside.of_below hb)⟩

theorem St_clas (n f : Nat) (st : St) (q : BitVec 256) (st' : St) (h : St.clas n f st = some (q, st')) (ho : Ok st) : st'.cnt = st.cnt := (clas_eq n f st q st' h ho.bad).2.1
theorem ofRowV {w : World} {c : Nat} {g : Nat} (hg : Blk w g #[.int .u8 c] 5) : ∀ k, k < [c].length → ∃ b off, (some ⟨g, 0, none⟩ : Option Addr) = some ⟨b, off, none⟩ ∧ b < w.heap.size ∧ w.cell? ⟨b, off + k, none⟩ = some (.int .u8 ([c].getD k 0)) := fun k hk => by
  obtain rfl : k = 0 := by simpa using hk
  exact ⟨g, 0, rfl, hg.lt, hg.cell 0⟩
set_option maxHeartbeats 2000000 in
theorem atom_step (F : Nat) (hm : RdG F) : RdC 150 .atom (F + 1) := by
  intro f hf p s st r st' w hR ho hp hT hP
  cases f with
  | zero => simp [St.P] at hP
  | succ g =>
    simp only [St.P] at hP
    have HW0 : Hid (AtW w p s st w) := ⟨hR, Aside.refl _ _⟩
    have HT := hide hT
    have HR := hide hR
    have HM := hide hm
    have HO := hide ho
    have hcn : st.cnt ≤ 65536 := hp.2
    clear hR hT hm ho hp
    unfold PT
    go_enter Tryz.func150, Tryz.ntmps150
    obtain ⟨z1, hz1⟩ : ∃ z1, z1 = (st).signB 40 := ⟨_, rfl⟩
    have hsg := sign_any p 40 s (st) w HW0.out.rd
    rw [← hz1] at hsg hP
    have HSG := hide hsg
    have Hz1 := hide hz1
    clear hsg hz1
    unfold PT at HSG
    go_wp2_with fail
    refine HSG.out.mono ?_
    rintro e w1 ⟨rfl, hR, hA⟩
    have HW1 : Hid (AtW w p s ((st).sign 40) w1) := ⟨hR, HW0.out.aside.trans hA⟩
    clear hR hA HSG
    cases z1 with
    | true =>
      rw [if_pos rfl] at hP
      obtain ⟨⟨q, s1⟩, h1, h2⟩ := Option.map_eq_some_iff.1 hP
      simp only [Prod.mk.injEq] at h2
      have h0 := HO.out.sign0 Hz1.out.symm
      have hq := sign_eq 40 st
      have hlen := sign_true Hz1.out.symm
      have hok := HO.out.sign 40
      have hpre : Pre (st.sign 40).cnt (st.sign 40) .group := ⟨rfl, by omega, hq.2.2.1.trans h0⟩
      have hlt : (st.sign 40).rest.length < s.size := by have := HR.out.len; omega
      have hc := HM.out g (by omega) p s _ q s1 w1 HW1.out.rd hok hpre (HT.out.aside HR.out HW1.out.aside) hlt h1
      have hi := P_inv s.size g .group _ _ q s1 h1 hok hpre
      have HCC : Hid (s1.cnt ≤ 1000000) := by show _ ≤ _; have := hi.ok.cnt; omega
      have HC := hide hc
      have HE1 := hide h2.1
      have HE2 := hide h2.2
      clear hP h1 h2 h0 hq hlen hok hpre hlt hc hi
      unfold PT at HC
      go_wp2_with fail
      refine HC.out.mono ?_
      rintro e w2 ⟨b, rfl, hrb, hR2, hA2⟩
      have HW : Hid (OnW w p s s1 b q w2) := ⟨hR2, hrb, HW1.out.aside.trans hA2⟩
      clear hrb hR2 hA2 HC
      have HCT := hide (counted_any p s (s1) w2 HW.out.rd HCC.out)
      unfold PT at HCT
      go_wp2_with fail
      refine HCT.out.mono ?_
      rintro e wz ⟨rfl, hR, hA⟩
      have HZ := hide (HW.out.read hR hA)
      clear hR hA HCT HW
      go_wp2
      go_ret
      refine ⟨b, rfl, ?_, ?_, HZ.out.aside⟩
      · rw [← HE1.out]; exact HZ.out.re
      · rw [← HE2.out]; exact HZ.out.rd
    | false =>
      rw [if_neg (by simp)] at hP
      obtain ⟨z2, hz2⟩ : ∃ z2, z2 = (st.sign 40).signB 91 := ⟨_, rfl⟩
      have hsg := sign_any p 91 s (st.sign 40) w1 HW1.out.rd
      rw [← hz2] at hsg hP
      have HSG := hide hsg
      have Hz2 := hide hz2
      clear hsg hz2
      unfold PT at HSG
      go_wp2_with fail
      refine HSG.out.mono ?_
      rintro e w2 ⟨rfl, hR, hA⟩
      have HW2 : Hid (AtW w p s ((st.sign 40).sign 91) w2) := ⟨hR, HW1.out.aside.trans hA⟩
      clear hR hA HSG
      cases z2 with
      | true =>
        rw [if_pos rfl] at hP
        obtain ⟨⟨q, s1⟩, h1, h2⟩ := Option.map_eq_some_iff.1 hP
        simp only [Prod.mk.injEq] at h2
        have hok := (HO.out.sign 40).sign 91
        have hce := St_clas s.size g _ q s1 h1 hok
        have HC := hide (class_any g p s _ s1 q w2 HW2.out.rd h1)
        have HCC : Hid (s1.cnt ≤ 1000000) := by show _ ≤ _; have := hok.cnt; omega
        have HE1 := hide h2.1
        have HE2 := hide h2.2
        clear hP h1 h2 hok hce
        unfold PT SV at HC
        go_wp2_with fail
        refine HC.out.mono ?_
        rintro e w3 ⟨rfl, hR3, hA3⟩
        have HW3 : Hid (AtW w p s s1 w3) := ⟨hR3, HW2.out.aside.trans hA3⟩
        clear hR3 hA3 HC
        have HON := hide (one_any q w3)
        unfold SV at HON
        go_wp2_with fail
        refine HON.out.mono ?_
        rintro e w4 ⟨b, rfl, hrb, hb4⟩
        have HW : Hid (OnW w p s s1 b (rOne q) w4) := ⟨HW3.out.rd.keep hb4, hrb, HW3.out.aside.trans (Aside.of_below hb4)⟩
        clear hrb hb4 HON
        unfold PT
        have HCT := hide (counted_any p s (s1) w4 HW.out.rd HCC.out)
        unfold PT at HCT
        go_wp2_with fail
        refine HCT.out.mono ?_
        rintro e wz ⟨rfl, hR, hA⟩
        have HZ := hide (HW.out.read hR hA)
        clear hR hA HCT HW
        go_wp2
        go_ret
        refine ⟨b, rfl, ?_, ?_, HZ.out.aside⟩
        · rw [← HE1.out]; exact HZ.out.re
        · rw [← HE2.out]; exact HZ.out.rd
      | false =>
        rw [if_neg (by simp)] at hP
        obtain ⟨z3, hz3⟩ : ∃ z3, z3 = ((st.sign 40).sign 91).signB 46 := ⟨_, rfl⟩
        have hsg := sign_any p 46 s ((st.sign 40).sign 91) w2 HW2.out.rd
        rw [← hz3] at hsg hP
        have HSG := hide hsg
        have Hz3 := hide hz3
        clear hsg hz3
        unfold PT at HSG
        go_wp2_with fail
        refine HSG.out.mono ?_
        rintro e w3 ⟨rfl, hR, hA⟩
        have HW3 : Hid (AtW w p s (((st.sign 40).sign 91).sign 46) w3) := ⟨hR, HW2.out.aside.trans hA⟩
        clear hR hA HSG
        have hok := ((HO.out.sign 40).sign 91).sign 46
        cases z3 with
        | true =>
          rw [if_pos rfl] at hP
          injection hP with hP
          injection hP with e1 e2
          have HCC : Hid ((((st.sign 40).sign 91).sign 46).cnt ≤ 1000000) := by show _ ≤ _; have := hok.cnt; omega
          have HE1 := hide e1
          have HE2 := hide e2
          clear e1 e2 hok
          have HAL := hide (all_any w3)
          unfold SV at HAL
          go_wp2_with fail
          refine HAL.out.mono ?_
          rintro e w4 ⟨rfl, hb4⟩
          have HW4 := hide (HW3.out.step hb4)
          clear hb4 HAL
          have HON := hide (one_any allB w4)
          unfold SV at HON
          go_wp2_with fail
          refine HON.out.mono ?_
          rintro e w5 ⟨b, rfl, hrb, hb5⟩
          have HW : Hid (OnW w p s (((st.sign 40).sign 91).sign 46) b (rOne allB) w5) := ⟨HW4.out.rd.keep hb5, hrb, HW4.out.aside.trans (Aside.of_below hb5)⟩
          clear hrb hb5 HON
          unfold PT
          have HCT := hide (counted_any p s (((st.sign 40).sign 91).sign 46) w5 HW.out.rd HCC.out)
          unfold PT at HCT
          go_wp2_with fail
          refine HCT.out.mono ?_
          rintro e wz ⟨rfl, hR, hA⟩
          have HZ := hide (HW.out.read hR hA)
          clear hR hA HCT HW
          go_wp2
          go_ret
          refine ⟨b, rfl, ?_, ?_, HZ.out.aside⟩
          · rw [← HE1.out]; exact HZ.out.re
          · rw [← HE2.out]; exact HZ.out.rd
        | false =>
          rw [if_neg (by simp)] at hP
          injection hP with hP
          injection hP with e1 e2
          have hbe := byte_eq s.size (((st.sign 40).sign 91).sign 46)
          have HCC : Hid (((((st.sign 40).sign 91).sign 46).byte s.size).cnt ≤ 1000000) := by show _ ≤ _; have := hok.cnt; rw [hbe.2.1]; omega
          have HE1 := hide e1
          have HE2 := hide e2
          clear e1 e2 hok hbe
          have hby := byte_any p s _ w3 HW3.out.rd
          have hv256 := HW3.out.rd.byte256
          obtain ⟨v, hv⟩ : ∃ v, v = (((st.sign 40).sign 91).sign 46).byteV := ⟨_, rfl⟩
          rw [← hv] at hby hv256 HE1
          have HBY := hide hby
          clear hby hv
          unfold PT at HBY
          go_wp2_with fail
          refine HBY.out.mono ?_
          rintro e w4 ⟨rfl, hR4, hA4⟩
          have HW4 : Hid (AtW w p s ((((st.sign 40).sign 91).sign 46).byte s.size) w4) := ⟨hR4, HW3.out.aside.trans hA4⟩
          clear hR4 hA4 HBY
          have hb5 := (Below.refl w4.heap.size w4).alloc (Nat.le_refl _) (.cells #[.int .u8 v] 5)
          have HW5 := hide (HW4.out.step hb5)
          have HOF := hide (of_any [v] (fun x hx => by rw [List.mem_singleton] at hx; subst hx; exact hv256) (w4.alloc (.cells #[.int .u8 v] 5)) (some ⟨w4.heap.size, 0, none⟩) 1 (ofRowV (Blk.newAt rfl _ _)) (by simp))
          clear hb5
          simp only [List.length_singleton] at HOF
          unfold SV at HOF
          go_wp2_with fail
          refine HOF.out.mono ?_
          rintro e w6 ⟨rfl, hb6⟩
          have HW6 := hide (HW5.out.step hb6)
          clear hb6 HOF
          have HON := hide (one_any (setOf [v]) w6)
          unfold SV at HON
          go_wp2_with fail
          refine HON.out.mono ?_
          rintro e w7 ⟨b, rfl, hrb, hb7⟩
          have HW : Hid (OnW w p s ((((st.sign 40).sign 91).sign 46).byte s.size) b (rOne (setOf [v])) w7) := ⟨HW6.out.rd.keep hb7, hrb, HW6.out.aside.trans (Aside.of_below hb7)⟩
          clear hrb hb7 HON
          unfold PT
          have HCT := hide (counted_any p s ((((st.sign 40).sign 91).sign 46).byte s.size) w7 HW.out.rd HCC.out)
          unfold PT at HCT
          go_wp2_with fail
          refine HCT.out.mono ?_
          rintro e wz ⟨rfl, hR, hA⟩
          have HZ := hide (HW.out.read hR hA)
          clear hR hA HCT HW
          go_wp2
          go_ret
          refine ⟨b, rfl, ?_, ?_, HZ.out.aside⟩
          · rw [← HE1.out]; exact HZ.out.re
          · rw [← HE2.out]; exact HZ.out.rd
end Go.Proofs.YtdbdjjjmomociaaGreatDoor
