/- Texts of this claim put together: ReA, ReB, ReC, ReD, MathKey. -/
import Derived.Test.YthemadegffhmfaaDoorJoinGen
import Derived.LaidEqlPtr
import Derived.ArgAppend
import Derived.OwnWalkIn
import Derived.Lib.BytesEntry
/- Expressions: trees, and how they lie in memory. -/
namespace Go.Proofs.YthemadegffhmfaaDoor
set_option maxRecDepth 100000
set_option linter.unusedSimpArgs false
set_option linter.unusedVariables false
open Go.RowKit

/-- An expression: its op, its set, its kids. -/
inductive RE : Type where
  | mk (op : Nat) (set : BitVec 256) (kids : List RE) : RE
def RE.op : RE → Nat | .mk o _ _ => o
def RE.set : RE → BitVec 256 | .mk _ s _ => s
def RE.kids : RE → List RE | .mk _ _ ks => ks
theorem RE.eta (r : RE) : r = .mk r.op r.set r.kids := by cases r; rfl

theorem RE.ind {P : RE → Prop} (h : ∀ o s ks, (∀ k ∈ ks, P k) → P (.mk o s ks)) (r : RE) : P r := by
  cases r with
  | mk o s ks => exact h o s ks fun k hk => RE.ind h k
termination_by SizeOf.sizeOf r
decreasing_by
  have := List.sizeOf_lt_of_mem hk
  simp; omega

/-- One and the sizes of the kids, up to the greatest int. -/
def sat (n k : Nat) : Nat := min (n + k) 9223372036854775807
def RE.size : RE → Nat
  | .mk _ _ ks => (ks.map fun k => k.size).foldl sat 1
theorem RE.size_mk (o : Nat) (s : BitVec 256) (ks : List RE) : (RE.mk o s ks).size = (ks.map RE.size).foldl sat 1 := by rw [RE.size]
def sizeL (ks : List RE) : Nat := (ks.map RE.size).foldl sat 1
theorem sat_le (n k : Nat) : sat n k ≤ 9223372036854775807 := by unfold sat; omega
theorem foldl_sat_le : ∀ (l : List Nat) (n : Nat), n ≤ 9223372036854775807 → l.foldl sat n ≤ 9223372036854775807
  | [], n, h => h
  | x :: r, n, _ => foldl_sat_le r (sat n x) (sat_le n x)
theorem sizeL_le (ks : List RE) : sizeL ks ≤ 9223372036854775807 := foldl_sat_le _ 1 (by omega)
theorem RE.size_le (r : RE) : r.size ≤ 9223372036854775807 := by cases r; rw [RE.size_mk]; exact sizeL_le _
theorem sizeL_succ (ks : List RE) (k : Nat) (h : k < ks.length) : sizeL (ks.take (k + 1)) = sat (sizeL (ks.take k)) (ks[k]).size := by
  unfold sizeL
  rw [List.take_succ_eq_append_getElem h, List.map_append, List.foldl_append]; rfl

/-- Is the text of no bytes one of its texts? -/
def RE.null : RE → Bool
  | .mk o _ ks =>
    let ns := ks.map fun k => k.null
    if o = 1 ∨ o = 5 then true else if o = 3 ∨ o = 6 then ns.all id else if o = 4 then ns.any id else if o = 7 then ns.getD 0 false && !(ns.getD 1 false) else false
theorem RE.null_mk (o : Nat) (s : BitVec 256) (ks : List RE) : (RE.mk o s ks).null =
    if o = 1 ∨ o = 5 then true else if o = 3 ∨ o = 6 then (ks.map RE.null).all id else if o = 4 then (ks.map RE.null).any id else if o = 7 then (ks.map RE.null).getD 0 false && !((ks.map RE.null).getD 1 false) else false := by rw [RE.null]

/-- A pointer to a block's first cell. -/
def PT (b : Nat) : Value := .pointer (some ⟨b, 0, none⟩)
/-- A slice is as long as its capacity at most. -/
def capOk (v : Value) : Prop := ∀ a m c, v = .slice a m c → m ≤ c
theorem capOk.mk {a : Option Addr} {m c : Nat} (h : m ≤ c) : capOk (.slice a m c) := fun _ _ _ e => by injection e with _ e2 e3; omega
/-- A slice of n pointers. -/
def PtrRow (w : World) (v : Value) (bs : Nat → Nat) (n : Nat) : Prop :=
  (n ≤ 4611686018427387904 ∧ capOk v) ∧ ∃ a cap, v = .slice a n cap ∧ ∀ k, k < n → ∃ b off, a = some ⟨b, off, none⟩ ∧ b < w.heap.size ∧ w.cell? ⟨b, off + k, none⟩ = some (PT (bs k))
theorem PtrRow.below {w w' : World} {v : Value} {bs : Nat → Nat} {n : Nat} (h : PtrRow w v bs n) (hb : Below w.heap.size w w') : PtrRow w' v bs n := by
  obtain ⟨h1, a, cap, rfl, h2⟩ := h
  refine ⟨h1, a, cap, rfl, fun k hk => ?_⟩
  obtain ⟨b, off, e, hlt, hc⟩ := h2 k hk
  refine ⟨b, off, e, Nat.lt_of_lt_of_le hlt hb.size, ?_⟩
  rw [← hc]
  exact World.cell?_of_block (w := w) (hb.block b hlt)

/-- The cells of an expression. -/
def reC (b o : Nat) (s : BitVec 256) (v : Value) (nul : Bool) (sz : Nat) : Array Value :=
  #[.int .i64 o, .int .u64 (wd s 0), .int .u64 (wd s 1), .int .u64 (wd s 2), .int .u64 (wd s 3), v, PT b, .bool nul, .int .i64 sz]

/-- Block b holds an expression that package re made. -/
inductive ReAt (w : World) : Nat → RE → Prop where
  | mk (b o : Nat) (s : BitVec 256) (ks : List RE) (v : Value) (bs : Nat → Nat) (blk : Blk w b (reC b o s v (RE.mk o s ks).null (RE.mk o s ks).size) 41)
      (row : PtrRow w v bs ks.length) (kid : ∀ i k, ks[i]? = some k → ReAt w (bs i) k) : ReAt w b (.mk o s ks)
theorem ReAt.keep {w w' : World} {b : Nat} {r : RE} (h : ReAt w b r) (hb : Below w.heap.size w w') : ReAt w' b r := by
  induction h with
  | mk b o s ks v bs blk row kid ih => exact .mk b o s ks v bs (blk.below hb blk.lt) (row.below hb) ih
theorem ReAt.open {w : World} {b : Nat} {r : RE} (h : ReAt w b r) : ∃ v bs, Blk w b (reC b r.op r.set v r.null r.size) 41 ∧ PtrRow w v bs r.kids.length ∧ ∀ i k, r.kids[i]? = some k → ReAt w (bs i) k := by
  cases h with
  | mk b o s ks v bs blk row kid => exact ⟨v, bs, blk, row, kid⟩
theorem ReAt.lt {w : World} {b : Nat} {r : RE} (h : ReAt w b r) : b < w.heap.size := by
  obtain ⟨_, _, blk, _⟩ := h.open
  exact blk.lt
/-- A block holds one expression at most. -/
theorem ReAt.one {w : World} {b : Nat} {r r' : RE} (h : ReAt w b r) (h' : ReAt w b r') : r = r' := by
  induction h generalizing r' with
  | mk b o s ks v bs blk row kid ih =>
    cases h' with
    | mk _ o' s' ks' v' bs' blk' row' kid' =>
      have e : reC b o s v (RE.mk o s ks).null (RE.mk o s ks).size = reC b o' s' v' (RE.mk o' s' ks').null (RE.mk o' s' ks').size := by
        have h1 := blk.of_cells.symm.trans blk'.of_cells
        injection h1 with h1; injection h1
      simp only [reC, Array.mk.injEq, List.cons.injEq, Value.int.injEq, true_and] at e
      obtain ⟨e0, e1, e2, e3, e4, rfl, -⟩ := e
      have hs : s = s' := wd_ext (by omega) (by omega) (by omega) (by omega)
      have ho : o = o' := by omega
      obtain ⟨_, a, cap, hv, hc⟩ := row
      obtain ⟨_, a', cap', hv', hc'⟩ := row'
      rw [hv] at hv'
      injection hv' with ha hn hcap
      subst ha hs ho
      have hks : ks = ks' := by
        apply List.ext_getElem hn
        intro i h1 h2
        obtain ⟨b1, o1, e1, _, c1⟩ := hc i h1
        obtain ⟨b2, o2, e2, _, c2⟩ := hc' i h2
        rw [e1] at e2
        injection e2 with e2; injection e2 with e3 e4; subst e3 e4
        have e5 : PT (bs i) = PT (bs' i) := Option.some.inj (c1.symm.trans c2)
        have e6 : bs i = bs' i := by simpa [PT] using e5
        exact ih i _ (List.getElem?_eq_getElem h1) (e6 ▸ kid' i _ (List.getElem?_eq_getElem h2))
      rw [hks]

/-- A slice of expressions that package re made. -/
def ResRow (w : World) (v : Value) (l : List RE) : Prop := ∃ bs, PtrRow w v bs l.length ∧ ∀ i k, l[i]? = some k → ReAt w (bs i) k
theorem ResRow.below {w w' : World} {v : Value} {l : List RE} (h : ResRow w v l) (hb : Below w.heap.size w w') : ResRow w' v l := by
  obtain ⟨bs, h1, h2⟩ := h
  exact ⟨bs, h1.below hb, fun i k hk => (h2 i k hk).keep hb⟩
theorem ReAt.row {w : World} {b : Nat} {r : RE} (h : ReAt w b r) : ∃ v, Blk w b (reC b r.op r.set v r.null r.size) 41 ∧ ResRow w v r.kids := by
  obtain ⟨v, bs, h1, h2, h3⟩ := h.open
  exact ⟨v, h1, bs, h2, h3⟩
theorem ReAt.ofRow {w : World} {b o : Nat} {s : BitVec 256} {ks : List RE} {v : Value} (hb : Blk w b (reC b o s v (RE.mk o s ks).null (RE.mk o s ks).size) 41) (h : ResRow w v ks) : ReAt w b (.mk o s ks) := by
  obtain ⟨bs, h1, h2⟩ := h
  exact .mk b o s ks v bs hb h1 h2
/-- What lies at one place of a slice. -/
theorem ResRow.at {w : World} {v : Value} {l : List RE} (h : ResRow w v l) : l.length ≤ 4611686018427387904 ∧ ∃ a cap, v = .slice a l.length cap ∧ ∀ k (hk : k < l.length), ∃ b off bk, a = some ⟨b, off, none⟩ ∧ b < w.heap.size ∧ w.cell? ⟨b, off + k, none⟩ = some (PT bk) ∧ ReAt w bk l[k] := by
  obtain ⟨bs, ⟨h0, a, cap, rfl, h1⟩, h2⟩ := h
  refine ⟨h0.1, a, cap, rfl, fun k hk => ?_⟩
  obtain ⟨b, off, e, hlt, hc⟩ := h1 k hk
  exact ⟨b, off, bs k, e, hlt, hc, h2 k _ (List.getElem?_eq_getElem hk)⟩
theorem ResRow.cap {w : World} {v : Value} {l : List RE} (h : ResRow w v l) : capOk v := by
  obtain ⟨bs, ⟨h0, -⟩, -⟩ := h
  exact h0.2
end Go.Proofs.YthemadegffhmfaaDoor
/- Contracts of package re: Size, Null, made, and the calls that make one expression. -/
namespace Go.Proofs.YthemadegffhmfaaDoor
set_option maxRecDepth 100000
set_option linter.unusedSimpArgs false
set_option linter.unusedVariables false
open Go.RowKit

theorem ptr_same (a : Addr) (w : World) : (binOp .eql 27 (.pointer (some a)) (.pointer (some a))).run Tryd.prog w = .ok (.bool true) w := by
  obtain ⟨j, hj⟩ : ∃ j, Tryd.prog.info? 41 = some j := Option.isSome_iff_exists.1 (by kernel_rfl)
  exact run_eql_ptr_same w a Tryd.underlying27 hj
theorem ptr_other {a b : Nat} {ca cb : Array Value} {ta tb : TypeId} (w : World) (hne : a ≠ b) (ha : Blk w a ca ta) (hb : Blk w b cb tb) : (binOp .eql 27 (.pointer (some ⟨a, 0, none⟩)) (.pointer (some ⟨b, 0, none⟩))).run Tryd.prog w = .ok (.bool false) w := by
  have h : (Tryd.prog.info? 41).map (·.size) = some 9 := by kernel_rfl
  cases hi : Tryd.prog.info? 41 with
  | none => rw [hi] at h; cases h
  | some i =>
    rw [hi] at h; simp at h
    exact run_eql_ptr_other w Tryd.underlying27 hi (by omega) (by simp [hne]) ha hb

theorem size_any (b : Nat) (r : RE) (w : World) (h : ReAt w b r) :
    Calls Tryd.prog 71 #[PT b] w fun e w' => e = .returned (.int .i64 r.size) ∧ w' = w := by
  obtain ⟨v, hb, -⟩ := h.row
  have c6 := hb.cell 6; have c8 := hb.cell 8
  simp only [reC, List.getElem?_toArray, List.getElem?_cons_zero, List.getElem?_cons_succ, PT] at c6 c8
  have hself := ptr_same ⟨b, 0, none⟩
  unfold PT
  go_enter Tryd.func71, Tryd.ntmps71
  go_wp2
  go_ret
  exact ⟨rfl, rfl⟩

theorem settled_any (b : Nat) (r : RE) (w : World) (h : ReAt w b r) :
    Calls Tryd.prog 41 #[PT b] w fun e w' => e = .returned (PT b) ∧ w' = w := by
  obtain ⟨v, hb, -⟩ := h.row
  have c6 := hb.cell 6
  simp only [reC, List.getElem?_toArray, List.getElem?_cons_zero, List.getElem?_cons_succ, PT] at c6
  have hself := ptr_same ⟨b, 0, none⟩
  unfold PT
  go_enter Tryd.func41, Tryd.ntmps41
  go_wp2
  go_ret
  exact ⟨rfl, rfl⟩

theorem null_any (b : Nat) (r : RE) (w : World) (h : ReAt w b r) :
    Calls Tryd.prog 18 #[PT b] w fun e w' => e = .returned (.bool r.null) ∧ w' = w := by
  obtain ⟨v, hb, -⟩ := h.row
  have c7 := hb.cell 7
  simp only [reC, List.getElem?_toArray, List.getElem?_cons_zero, List.getElem?_cons_succ, PT] at c7
  have hself := ptr_same ⟨b, 0, none⟩
  unfold PT
  go_enter Tryd.func18, Tryd.ntmps18
  go_wp2_with fail
  refine (settled_any b r w h).mono ?_
  rintro e w1 ⟨rfl, rfl⟩
  unfold PT
  go_wp2
  go_ret
  exact ⟨rfl, rfl⟩

theorem fails_any (b : Nat) (r : RE) (w : World) (h : ReAt w b r) :
    Calls Tryd.prog 72 #[PT b] w fun e w' => e = .returned (.bool (!r.null)) ∧ w' = w := by
  go_enter Tryd.func72, Tryd.ntmps72
  go_wp2_with fail
  refine (null_any b r w h).mono ?_
  rintro e w1 ⟨rfl, rfl⟩
  go_wp2
  go_ret
  exact ⟨rfl, rfl⟩

set_option maxHeartbeats 400000 in
theorem sizeOf_any (l : List RE) (v : Value) (w : World) (h : ResRow w v l) :
    Calls Tryd.prog 59 #[v] w fun e w' => e = .returned (.int .i64 (sizeL l)) ∧ w' = w := by
  obtain ⟨hn, ad, cap, rfl, hc⟩ := h.at
  go_enter Tryd.func59, Tryd.ntmps59
  go_wp2
  go_loopw [3, 9] (fun n i wr => ∃ k : Nat, k ≤ l.length ∧ i = .int .i64 k ∧ n = .int .i64 (sizeL (l.take k)) ∧ wr = w) (fun _ i _ => l.length - (intOf i).toNat)
  case atStart => exact ⟨0, by omega, rfl, rfl, rfl⟩
  case round =>
    obtain ⟨k, hk, rfl, rfl, rfl⟩ := hrel
    by_cases hlt : k < l.length
    · obtain ⟨b, off, bk, rfl, hb, hcell, hre⟩ := hc k hlt
      unfold PT at hcell
      have hkd : decide (k < l.length) = true := by simp [hlt]
      have HS := hide (sizeL_succ l k hlt)
      have h1 := sizeL_le (l.take k)
      have h2 := (l[k]).size_le
      generalize hsz : (l[k]).size = sz at *
      generalize hsn : sizeL (l.take k) = sn at *
      go_wp2_with fail
      refine (size_any bk _ _ hre).mono ?_
      rintro e w1 ⟨rfl, rfl⟩
      rw [hsz]
      go_wp2
      refine ⟨⟨k + 1, by omega, by go_num, ?_, trivial⟩, by simp [intOf]; omega⟩
      rw [HS.out]
      unfold sat
      congr 1
      omega
    · obtain rfl : k = l.length := by omega
      rw [List.take_length]
      go_wp2
      go_ret
      exact ⟨rfl, rfl⟩

/-- slices.IndexFunc at expressions, of a function that only reads. -/
theorem indexFunc_any (fid : FuncId) (ent : ∀ args w, (callFunc fid args).run Tryd.prog w = .ok (.enter fid args) w) (p : RE → Bool) (l : List RE) (v : Value) (w : World) (h : ResRow w v l)
    (hp : ∀ b r, ReAt w b r → Calls Tryd.prog fid #[PT b] w fun e w' => e = .returned (.bool (p r)) ∧ w' = w) :
    Calls Tryd.prog 58 #[v, .func (.func fid) #[] #[]] w fun e w' => ∃ i : Int, e = .returned (.int .i64 i) ∧ decide (0 ≤ i) = l.any p ∧ w' = w := by
  obtain ⟨hn, ad, cap, rfl, hc⟩ := h.at
  go_enter Tryd.func58, Tryd.ntmps58
  go_wp2
  go_loopw [8] (fun i wr => ∃ k : Nat, k ≤ l.length ∧ i = .int .i64 k ∧ (l.take k).any p = false ∧ wr = w) (fun i _ => l.length - (intOf i).toNat)
  case atStart => exact ⟨0, by omega, rfl, rfl, rfl⟩
  case round =>
    obtain ⟨k, hk, rfl, hany, rfl⟩ := hrel
    by_cases hlt : k < l.length
    · obtain ⟨b, off, bk, rfl, hb, hcell, hre⟩ := hc k hlt
      unfold PT at hcell
      have hkd : decide (k < l.length) = true := by simp [hlt]
      have hany2 : (l.take (k + 1)).any p = p l[k] := by
        rw [List.take_succ_eq_append_getElem hlt, List.any_append, hany]; simp
      have hmem : l[k] ∈ l := List.getElem_mem hlt
      generalize hr : l[k] = r at *
      have HA := hide hany2
      clear hany hany2
      go_wp2_with fail
      refine (hp bk _ hre).mono ?_
      rintro e w1 ⟨rfl, rfl⟩
      cases hpr : p r with
      | true =>
        go_wp2
        go_ret
        refine ⟨_, rfl, ?_, rfl⟩
        have : l.any p = true := List.any_eq_true.2 ⟨r, hmem, hpr⟩
        rw [this]; simp
      | false =>
        rw [hpr] at HA
        go_wp2
        exact ⟨⟨k + 1, by omega, by go_num, HA.out, trivial⟩, by simp [intOf]; omega⟩
    · obtain rfl : k = l.length := by omega
      rw [List.take_length] at hany
      have HA := hide hany
      clear hany
      go_wp2
      go_ret
      exact ⟨_, rfl, by rw [HA.out]; rfl, rfl⟩
theorem containsFunc_any (fid : FuncId) (ent : ∀ args w, (callFunc fid args).run Tryd.prog w = .ok (.enter fid args) w) (p : RE → Bool) (l : List RE) (v : Value) (w : World) (h : ResRow w v l)
    (hp : ∀ b r, ReAt w b r → Calls Tryd.prog fid #[PT b] w fun e w' => e = .returned (.bool (p r)) ∧ w' = w) :
    Calls Tryd.prog 38 #[v, .func (.func fid) #[] #[]] w fun e w' => e = .returned (.bool (l.any p)) ∧ w' = w := by
  go_enter Tryd.func38, Tryd.ntmps38
  go_wp2_with fail
  refine (indexFunc_any fid ent p l v w h hp).mono ?_
  rintro e w1 ⟨i, rfl, hi, rfl⟩
  have HI := hide hi
  clear hi
  go_wp2
  go_ret
  exact ⟨congrArg (fun x => Ending.returned (Value.bool x)) HI.out, rfl⟩

theorem any_not (l : List RE) : (!(l.any fun r => !r.null)) = (l.map RE.null).all id := by
  induction l with
  | nil => rfl
  | cons x r ih =>
    simp only [List.any_cons, List.map_cons, List.all_cons, id, ← ih, Bool.not_or, Bool.not_not]

set_option maxHeartbeats 1000000 in
theorem hasNull_any (b o : Nat) (s : BitVec 256) (ks : List RE) (v : Value) (w : World) (ho : o ≤ 7) (h7 : o = 7 → ks.length = 2)
    (c0 : w.cell? ⟨b, 0, none⟩ = some (.int .i64 o)) (c5 : w.cell? ⟨b, 5, none⟩ = some v) (h : ResRow w v ks) :
    Calls Tryd.prog 60 #[PT b] w fun e w' => e = .returned (.bool (RE.mk o s ks).null) ∧ w' = w := by
  obtain ⟨nv, hnv⟩ : ∃ nv, nv = (RE.mk o s ks).null := ⟨_, rfl⟩
  rw [← hnv]
  rw [RE.null_mk] at hnv
  have HN := hide hnv
  clear hnv
  have e39 := enters_of Tryd.func18 (by kernel_rfl) rfl
  have e105 := enters_of Tryd.func72 (by kernel_rfl) rfl
  unfold PT
  have ho' : o = 0 ∨ o = 1 ∨ o = 2 ∨ o = 3 ∨ o = 4 ∨ o = 5 ∨ o = 6 ∨ o = 7 := by omega
  rcases ho' with rfl | rfl | rfl | rfl | rfl | rfl | rfl | rfl
  · go_enter Tryd.func60, Tryd.ntmps60
    go_wp2
    go_ret
    exact ⟨congrArg (fun x => Ending.returned (Value.bool x)) (Eq.symm HN.out), rfl⟩
  · go_enter Tryd.func60, Tryd.ntmps60
    go_wp2
    go_ret
    exact ⟨congrArg (fun x => Ending.returned (Value.bool x)) (Eq.symm HN.out), rfl⟩
  · go_enter Tryd.func60, Tryd.ntmps60
    go_wp2
    go_ret
    exact ⟨congrArg (fun x => Ending.returned (Value.bool x)) (Eq.symm HN.out), rfl⟩
  · go_enter Tryd.func60, Tryd.ntmps60
    go_wp2_with fail
    refine (containsFunc_any _ e105 (fun r => !r.null) ks v w h fun b r hr => fails_any b r w hr).mono ?_
    rintro e w1 ⟨rfl, rfl⟩
    go_wp2
    go_ret
    exact ⟨congrArg (fun x => Ending.returned (Value.bool x)) ((any_not ks).trans HN.out.symm), rfl⟩
  · go_enter Tryd.func60, Tryd.ntmps60
    go_wp2_with fail
    refine (containsFunc_any _ e39 RE.null ks v w h fun b r hr => null_any b r w hr).mono ?_
    rintro e w1 ⟨rfl, rfl⟩
    go_wp2
    go_ret
    exact ⟨congrArg (fun x => Ending.returned (Value.bool x)) ((show ks.any RE.null = (ks.map RE.null).any id from by simp [List.any_map]).trans HN.out.symm), rfl⟩
  · go_enter Tryd.func60, Tryd.ntmps60
    go_wp2
    go_ret
    exact ⟨congrArg (fun x => Ending.returned (Value.bool x)) (Eq.symm HN.out), rfl⟩
  · go_enter Tryd.func60, Tryd.ntmps60
    go_wp2_with fail
    refine (containsFunc_any _ e105 (fun r => !r.null) ks v w h fun b r hr => fails_any b r w hr).mono ?_
    rintro e w1 ⟨rfl, rfl⟩
    go_wp2
    go_ret
    exact ⟨congrArg (fun x => Ending.returned (Value.bool x)) ((any_not ks).trans HN.out.symm), rfl⟩
  · have hk2 := h7 rfl
    obtain ⟨hn, ad, cap, rfl, hc⟩ := h.at
    match ks, hk2 with
    | [x, y], _ =>
    obtain ⟨bb, off, b0, rfl, -, d0, h0⟩ := hc 0 (by simp)
    obtain ⟨bb', off', b1, e, -, d1, h1⟩ := hc 1 (by simp)
    cases e
    simp only [List.length_cons, List.length_nil] at *
    simp only [List.getElem_cons_zero, List.getElem_cons_succ] at h0 h1
    unfold PT at d0 d1
    rw [Nat.add_zero] at d0
    go_enter Tryd.func60, Tryd.ntmps60
    go_wp2_with fail
    refine (null_any b0 x w h0).mono ?_
    rintro e w1 ⟨rfl, rfl⟩
    cases hx : x.null with
    | false =>
      go_wp2
      go_ret
      exact ⟨congrArg (fun x => Ending.returned (Value.bool x)) ((show false = _ from by simp [hx]).trans HN.out.symm), rfl⟩
    | true =>
      go_wp2_with fail
      refine (fails_any b1 y _ h1).mono ?_
      rintro e w1 ⟨rfl, rfl⟩
      go_wp2
      go_ret
      exact ⟨congrArg (fun x => Ending.returned (Value.bool x)) ((show (!y.null) = _ from by simp [hx]).trans HN.out.symm), rfl⟩

theorem resRow_nil (w : World) : ResRow w (.slice none 0 0) [] := ⟨fun _ => 0, ⟨⟨by simp, .mk (by omega)⟩, none, 0, rfl, fun k hk => by simp at hk⟩, fun i k hk => by simp at hk⟩

/-- The cells of a new expression, ahead of what made stores into it. -/
def reC0 (o : Nat) (s : BitVec 256) (v : Value) (sz : Nat) : Array Value :=
  #[.int .i64 o, .int .u64 (wd s 0), .int .u64 (wd s 1), .int .u64 (wd s 2), .int .u64 (wd s 3), v, .pointer none, .bool false, .int .i64 sz]
theorem x_buildRe (ρ : Operand → Value) (d : Option Tmp) (x y z u : Operand) (t : TypeId) (pos : String) (af : Array Edge) (g : Option (Nat × Bool)) (o : Nat) (s : BitVec 256) (a : Option Addr) (n cap : Nat) (sz : Nat)
    (hx : ρ x = .int .i64 o) (hy : ρ y = SV s) (hz : ρ z = .slice a n cap) (hu : ρ u = .int .i64 sz) (w : World) :
    (execOp ρ { dst := d, op := .build 41 #[(0, x), (1, y), (2, z), (5, u)], type := t, pos := pos, after := af, guard := g }).run Tryd.prog w = .ok (.value (.agg (reC0 o s (.slice a n cap) sz))) w := by
  simp [go_sem, hx, hy, hz, hu, reC0]
theorem x_boxRe (ρ : Operand → Value) (d : Option Tmp) (x : Operand) (t : TypeId) (pos : String) (af : Array Edge) (g : Option (Nat × Bool)) (c : Array Value) (hx : ρ x = .agg c) (w : World) :
    (execOp ρ { dst := d, op := .box 41 x, type := t, pos := pos, after := af, guard := g }).run Tryd.prog w = .ok (.value (PT w.heap.size)) (w.alloc (.cells c 41)) := by
  simp [go_sem, hx, PT]

set_option maxHeartbeats 1000000 in
theorem made_any (o : Nat) (s : BitVec 256) (ks : List RE) (v : Value) (w : World) (ho : o ≤ 7) (h7 : o = 7 → ks.length = 2) (h : ResRow w v ks) :
    Calls Tryd.prog 40 #[.int .i64 o, SV s, v] w fun e w' => ∃ b, e = .returned (PT b) ∧ ReAt w' b (.mk o s ks) ∧ Below w.heap.size w w' := by
  obtain ⟨hn, ad, cap, rfl, -⟩ := h.at
  go_enter Tryd.func40, Tryd.ntmps40
  go_wp2
  obtain ⟨S, hSd⟩ : ∃ S : World → Prop, S = fun W => Blk W w.heap.size (WS s) 39 ∧ Below w.heap.size w W := ⟨_, rfl⟩
  have hSk : ∀ W, S W → Blk W w.heap.size (WS s) 39 := fun W h => by rw [hSd] at h; exact h.1
  have hSb : ∀ W, S W → Below w.heap.size w W := fun W h => by rw [hSd] at h; exact h.2
  have hSg : ∀ W W', S W → Below W.heap.size W W' → S W' := fun W W' h hb => by
    rw [hSd] at h ⊢
    exact ⟨h.1.below hb h.1.lt, h.2.trans (hb.mono h.2.size)⟩
  have hS : S { w.alloc (.cells (WS s) 39) with drawn := (w.alloc (.cells (WS s) 39)).drawn + 1 } := by
    rw [hSd]
    have hb := (Below.refl w.heap.size w).alloc (Nat.le_refl _) (.cells (WS s) 39)
    exact ⟨Blk.newAt rfl _ _, ⟨hb.os, hb.tape, hb.output, hb.size, hb.block⟩⟩
  clear hSd
  refine wp_region_noPanic (wp_region_held (S := S) (by kernel_rfl) ?_)
  show wpAnyH _ _ _ _ _ 8 #[false, false, false, false, false, false, false, false] _ _
  generalize ({ w.alloc (.cells (WS s) 39) with drawn := (w.alloc (.cells (WS s) 39)).drawn + 1 } : World) = W at hS ⊢
  refine h_take 0 (.int .i64 o) rfl (by kernel_rfl) (by kernel_rfl) (by kernel_rfl) rfl (fun w hw => x_move _ _ _ _ _ _ _ _ rfl w) hS ?_
  simp only [Act.put, List.setIfInBounds_toArray, List.set_cons_succ, List.set_cons_zero]
  refine h_take 1 (SV s) rfl (by kernel_rfl) (by kernel_rfl) (by kernel_rfl) rfl (fun w hw => x_loadSet _ _ _ _ _ _ _ _ s rfl w (hSk w hw)) hS ?_
  simp only [Act.put, List.setIfInBounds_toArray, List.set_cons_succ, List.set_cons_zero]
  refine h_take 2 (.slice ad ks.length cap) rfl (by kernel_rfl) (by kernel_rfl) (by kernel_rfl) rfl (fun w hw => x_move _ _ _ _ _ _ _ _ rfl w) hS ?_
  simp only [Act.put, List.setIfInBounds_toArray, List.set_cons_succ, List.set_cons_zero]
  refine h_take 3 (.slice ad ks.length cap) rfl (by kernel_rfl) (by kernel_rfl) (by kernel_rfl) rfl (fun w hw => x_move _ _ _ _ _ _ _ _ rfl w) hS ?_
  simp only [Act.put, List.setIfInBounds_toArray, List.set_cons_succ, List.set_cons_zero]
  have hr := h.below (hSb _ hS)
  refine h_callE 4 59 #[.slice ad ks.length cap] (fun v w' => v = .int .i64 (sizeL ks) ∧ w' = W) rfl (by kernel_rfl) rfl (x_call1 _ _ _ _ _ _ _ _ _ _ rfl rfl (enters_of Tryd.func59 (by kernel_rfl) rfl) _) ((sizeOf_any ks _ W hr).mono fun e w' h => ⟨_, h.1, rfl, h.2⟩) (fun v w' h => h.2 ▸ hS) ?_
  rintro v3 W3 ⟨rfl, rfl⟩
  simp only [Act.put, List.setIfInBounds_toArray, List.set_cons_succ, List.set_cons_zero]
  refine h_take 5 (.agg (reC0 o s (.slice ad ks.length cap) (sizeL ks))) rfl (by kernel_rfl) (by kernel_rfl) (by kernel_rfl) rfl (fun w hw => x_buildRe _ _ _ _ _ _ _ _ _ _ o s _ _ _ _ rfl rfl rfl rfl w) hS ?_
  simp only [Act.put, List.setIfInBounds_toArray, List.set_cons_succ, List.set_cons_zero]
  have hb6 := (Below.refl W3.heap.size W3).alloc (Nat.le_refl _) (.cells (reC0 o s (.slice ad ks.length cap) (sizeL ks)) 41)
  refine h_alloc 6 (PT W3.heap.size) (W3.alloc (.cells (reC0 o s (.slice ad ks.length cap) (sizeL ks)) 41)) rfl (by kernel_rfl) rfl (x_boxRe _ _ _ _ _ _ _ _ rfl _) (hSg _ _ hS hb6) ?_
  simp only [Act.put, List.setIfInBounds_toArray, List.set_cons_succ, List.set_cons_zero]
  refine h_take 7 (PT W3.heap.size) rfl (by kernel_rfl) (by kernel_rfl) (by kernel_rfl) rfl (fun w hw => x_assign _ _ _ _ _ _ _ _ rfl w) (hSg _ _ hS hb6) ?_
  simp only [Act.put, List.setIfInBounds_toArray, List.set_cons_succ, List.set_cons_zero]
  refine wpAnyH_done (by kernel_rfl) ?_ _
  refine NoPanic.normal ?_
  have HW := hide (hSb _ hS)
  have HR := hide hr
  obtain ⟨B, hB⟩ : ∃ B, B = W3.heap.size := ⟨_, rfl⟩
  rw [← hB]
  have kb := Blk.newAt hB (reC0 o s (.slice ad ks.length cap) (sizeL ks)) 41
  have HR2 := hide (hr.below hb6)
  have HB6 := hide hb6
  clear hSk hSb hSg hS hr hb6 h
  generalize W3.alloc (.cells (reC0 o s (.slice ad ks.length cap) (sizeL ks)) 41) = W4 at kb HR2 HB6 ⊢
  have HBE := hide hB
  clear hB
  have c0 := kb.cell 0; have c5 := kb.cell 5
  simp only [reC0, List.getElem?_toArray, List.getElem?_cons_zero, List.getElem?_cons_succ] at c0 c5
  have HK := hide kb
  clear kb
  unfold PT
  go_wp2_with fail
  refine (hasNull_any B o s ks _ _ ho h7 c0 c5 HR2.out).mono ?_
  rintro e w4 ⟨rfl, rfl⟩
  have f7 := HK.out.frozen 7; have f6 := HK.out.frozen 6
  have c7 := HK.out.cell 7; have c6 := HK.out.cell 6
  simp only [reC0, List.getElem?_toArray, List.getElem?_cons_zero, List.getElem?_cons_succ] at c6 c7
  go_wp2
  go_ret
  have hw := HW.out.size
  have hbe := HBE.out
  have hlt := HK.out.lt
  have hset := ((HK.out.set 7 (.bool (RE.mk o s ks).null)).set 6 (PT B))
  have hbel : Below w.heap.size w ((w4.setCell ⟨B, 7, none⟩ (.bool (RE.mk o s ks).null)).setCell ⟨B, 6, none⟩ (PT B)) :=
    ((HW.out.trans (HB6.out.mono hw)).setCell (by simp; omega) _).setCell (by simp; omega) _
  refine ⟨B, rfl, ReAt.ofRow (v := .slice ad ks.length cap) ?_ ?_, hbel⟩
  · rw [show (RE.mk o s ks).size = sizeL ks from RE.size_mk o s ks]
    exact hset
  · refine HR.out.below ?_
    exact (HB6.out.setCell (by simp; omega) _).setCell (by simp; omega) _

/-- What the calls make. -/
def rNothing : RE := .mk 0 0#256 []
def rEmpty : RE := .mk 1 0#256 []
def rOne (s : BitVec 256) : RE := if s = 0#256 then rNothing else .mk 2 s []
def rJoin (o : Nat) (l : List RE) : RE := match l with
  | [r] => r
  | l => .mk o 0#256 l
theorem rJoin_one (o : Nat) (r : RE) : rJoin o [r] = r := rfl
theorem rJoin_more (o : Nat) (l : List RE) (h : l.length ≠ 1) : rJoin o l = .mk o 0#256 l := by
  unfold rJoin
  split
  · simp at h
  · rfl

theorem nothing_any (w : World) : Calls Tryd.prog 14 #[] w fun e w' => ∃ b, e = .returned (PT b) ∧ ReAt w' b rNothing ∧ Below w.heap.size w w' := by
  go_enter Tryd.func14, Tryd.ntmps14
  go_wp2_with fail
  refine (made_any 0 0#256 [] _ w (by omega) (by simp) (resRow_nil w)).mono ?_
  rintro e w1 ⟨b, rfl, h1, h2⟩
  go_wp2
  go_ret
  exact ⟨b, rfl, h1, h2⟩
theorem empty_re (w : World) : Calls Tryd.prog 16 #[] w fun e w' => ∃ b, e = .returned (PT b) ∧ ReAt w' b rEmpty ∧ Below w.heap.size w w' := by
  go_enter Tryd.func16, Tryd.ntmps16
  go_wp2_with fail
  refine (made_any 1 0#256 [] _ w (by omega) (by simp) (resRow_nil w)).mono ?_
  rintro e w1 ⟨b, rfl, h1, h2⟩
  go_wp2
  go_ret
  exact ⟨b, rfl, h1, h2⟩
theorem one_any (s : BitVec 256) (w : World) : Calls Tryd.prog 29 #[SV s] w fun e w' => ∃ b, e = .returned (PT b) ∧ ReAt w' b (rOne s) ∧ Below w.heap.size w w' := by
  go_enter Tryd.func29, Tryd.ntmps29
  go_wp2_with fail
  refine (empty_any s _).mono ?_
  rintro e w1 ⟨rfl, hb⟩
  have hB := ((Below.refl w.heap.size w).alloc (Nat.le_refl _) (.cells (WS s) 39)).trans (hb.mono (by simp))
  have kb := (Blk.newAt (w := w) rfl (WS s) 39).below hb (by simp)
  have c0 := kb.cell 0; have c1 := kb.cell 1; have c2 := kb.cell 2; have c3 := kb.cell 3
  simp only [List.getElem?_toArray, List.getElem?_cons_zero, List.getElem?_cons_succ] at c0 c1 c2 c3
  have HB := hide hB
  clear hB hb kb
  by_cases he : s = 0#256
  · rw [show (s == 0#256) = true from by simp [he]]
    have HE := hide he
    clear he
    go_wp2_with fail
    refine (nothing_any _).mono ?_
    rintro e w2 ⟨b, rfl, h1, h2⟩
    go_wp2
    go_ret
    exact ⟨b, rfl, by rw [rOne, if_pos HE.out]; exact h1, HB.out.trans (h2.mono HB.out.size)⟩
  · rw [show (s == 0#256) = false from by simp [he]]
    have HE := hide he
    clear he
    go_wp2_with fail
    refine (made_any 2 s [] _ _ (by omega) (by simp) (resRow_nil _)).mono ?_
    rintro e w2 ⟨b, rfl, h1, h2⟩
    go_wp2
    go_ret
    exact ⟨b, rfl, by rw [rOne, if_neg HE.out]; exact h1, HB.out.trans (h2.mono HB.out.size)⟩
theorem join_any (o : Nat) (l : List RE) (v : Value) (w : World) (ho : o ≤ 7) (h7 : o = 7 → l.length = 2) (h : ResRow w v l) :
    Calls Tryd.prog 42 #[.int .i64 o, v] w fun e w' => ∃ b, e = .returned (PT b) ∧ ReAt w' b (rJoin o l) ∧ Below w.heap.size w w' := by
  obtain ⟨hn, ad, cap, rfl, hc⟩ := h.at
  by_cases h1 : l.length = 1
  · match l, h1 with
    | [r], _ =>
    obtain ⟨bb, off, b0, rfl, -, d0, h0⟩ := hc 0 (by simp)
    unfold PT at d0
    rw [Nat.add_zero] at d0
    simp only [List.length_cons, List.length_nil, Nat.zero_add] at *
    simp only [List.getElem_cons_zero] at h0
    go_enter Tryd.func42, Tryd.ntmps42
    go_wp2
    go_ret
    exact ⟨b0, rfl, h0, Below.refl _ _⟩
  · have hd : ((l.length : Int) == 1) = false := beq_eq_false_iff_ne.2 (by omega)
    have HR := hide h
    clear h hc
    go_enter Tryd.func42, Tryd.ntmps42
    go_wp2_with fail
    refine (made_any o 0#256 l _ w ho h7 HR.out).mono ?_
    rintro e w1 ⟨b, rfl, h2, h3⟩
    go_wp2
    go_ret
    exact ⟨b, rfl, by rw [rJoin_more o l h1]; exact h2, h3⟩
end Go.Proofs.YthemadegffhmfaaDoor
/- A row of bytes that the call owns, in a block of whatever type: append. appendRuns. -/
namespace Go.Proofs.YthemadegffhmfaaDoor
set_option maxRecDepth 100000
set_option linter.unusedSimpArgs false
set_option linter.unusedVariables false
open Go.RowKit Go.Shelf
attribute [local go_sem] Oper.semAt_some

/-- v is a slice of the n one-cell values xs in a block of its own at or behind base (or nil). -/
def OwnU (w : World) (base : Nat) (v : Value) (n : Nat) (xs : List Value) : Prop :=
  xs.length = n ∧ ((v = .slice none 0 0 ∧ n = 0) ∨ ∃ g cap cur t, v = .slice (some ⟨g, 0, none⟩) n cap ∧ base ≤ g ∧ Blk w g cur t ∧ n ≤ cap ∧ cap ≤ maxLen ∧ cur.size = cap ∧ cur.toList.take n = xs)
theorem OwnU.keep {w w' : World} {base n : Nat} {v : Value} {xs : List Value} (h : OwnU w base v n xs) (hb : ∀ g, v.ownBlock = some g → w'.heap[g]? = w.heap[g]?) : OwnU w' base v n xs := by
  refine ⟨h.1, ?_⟩
  rcases h.2 with h2 | ⟨g, cap, cur, t, rfl, h2, h3, h4⟩
  · exact .inl h2
  · exact .inr ⟨g, cap, cur, t, rfl, h2, (hb g rfl).trans h3, h4⟩
theorem OwnU.own_lt {w : World} {base n g : Nat} {v : Value} {xs : List Value} (h : OwnU w base v n xs) (e : v.ownBlock = some g) : base ≤ g ∧ g < w.heap.size := by
  rcases h.2 with ⟨rfl, -⟩ | ⟨g', cap, cur, t, rfl, h2, h3, h4⟩
  · cases e
  · simp [Value.ownBlock] at e; subst e; exact ⟨h2, h3.lt⟩
theorem OwnU.cells {w : World} {base n g cap : Nat} {xs : List Value} (h : OwnU w base (.slice (some ⟨g, 0, none⟩) n cap) n xs) : ∀ j u, xs[j]? = some u → w.cell? ⟨g, j, none⟩ = some u := by
  rcases h.2 with ⟨e, -⟩ | ⟨g', cap', cur, t, e, h2, h3, h4, h5, h6, h7⟩
  · cases e
  · cases e
    intro j u hu
    rw [h3.cell, ← hu, ← h7, List.getElem?_take]
    have hj : j < xs.length := (List.getElem?_eq_some_iff.1 hu).1
    rw [if_pos (by rw [h.1] at hj; exact hj)]
    simp

theorem infoU8 : (Tryd.prog.info? 5).map (fun i => (i.zero, i.size, i.bytes)) = some (some (.int .u8 0), 1, 1) := by kernel_rfl

theorem run_appendU (w : World) (ty : TypeId) (base : Nat) (v : Value) (n : Nat) (xs : List Value) (hown : OwnU w base v n xs) (ad : Addr) (m c : Nat) (news : List Value) (hl : news.length = m)
    (hnews : ∀ j u, news[j]? = some u → w.cell? (ad.add j) = some u) (h1 : ∀ u ∈ news, u.oneCell' = true) (hm : 0 < m) (hbytes : n + m ≤ 140737488355328) (hbase : base ≤ w.heap.size) :
    ∃ v' w', (Builtin.append_ #[33, 33] ty #[v, .slice (some ad) m c]).run Tryd.prog w = .ok v' w' ∧ OwnU w' base v' (n + m) (xs ++ news) ∧ w.grownBy w' v.ownBlock ∧ (v'.ownBlock = v.ownBlock ∨ v'.ownBlock = some w.heap.size) ∧ w.drawn ≤ w'.drawn := by
  obtain ⟨i, hi, hz0, hz1, hz2⟩ := info_parts infoU8
  have hlen : (xs ++ news).length = n + m := by rw [List.length_append, hown.1, hl]
  have hml : n + m ≤ maxLen := by unfold maxLen; omega
  have grown : ∀ old, OwnU (w.drew.alloc (.cells (xs.toArray ++ news.toArray ++ Builtin.zeroCells (Value.int .u8 0).cells (grownCap w (n + m) old 5 - (n + m))) 5)) base
        (.slice (some ⟨w.heap.size, 0, none⟩) (n + m) (grownCap w (n + m) old 5)) (n + m) (xs ++ news) := by
    intro old
    have hge := grownCap_ge w (n + m) old 5
    have hcm : grownCap w (n + m) old 5 ≤ maxLen := grownCap_le_maxLen w (n + m) old _ hml
    refine ⟨hlen, .inr ⟨w.heap.size, _, _, _, rfl, hbase, heap_alloc_new w.drew _, hge, hcm, ?_, ?_⟩⟩
    · simp only [Array.size_append, List.size_toArray, size_zeroCells, hown.1, hl]
      simp [Value.cells]; omega
    · simp only [Array.toList_append, List.append_assoc]
      rw [← List.append_assoc, ← hlen]
      exact List.take_left
  have gb : ∀ o row, w.grownBy (w.drew.alloc o) row := fun o row => ⟨rfl, rfl, rfl, by simp, fun k hk _ => heap_alloc_old w.drew _ hk⟩
  rcases hown.2 with ⟨rfl, rfl⟩ | ⟨g, cap, cur, t, rfl, hbg, hg, hnc, hcm, hcs, htake⟩
  · have hx : xs = [] := List.eq_nil_of_length_eq_zero (by simpa using hown.1)
    subst hx
    have hr := run_append_nil (P := Tryd.prog) w 33 ty 5 i (.int .u8 0) Tryd.underlying33 hi hz0 ad m c news (by rw [hz1]; omega) hnews (by omega) (by omega) (by rw [hz2]; simp at hbytes; omega)
    have hgr := grown 0
    simp only [Nat.zero_add, List.nil_append, Array.empty_append] at hgr ⊢
    exact ⟨_, _, hr, hgr, gb _ _, Or.inr rfl, Nat.le_succ _⟩
  · by_cases hroom : n + m ≤ cap
    · have hfit : n * i.size + news.length ≤ cur.size := by rw [hl, hcs, hz1]; omega
      have hf := run_firstCells_some (P := Tryd.prog) w i.size m ad m c news (by rw [hz1]; omega) hnews
      have hst := run_storeCells_at Tryd.prog g (n * i.size) t news 0 cur w hg (by simpa using hfit) h1
      simp only [Nat.add_zero] at hst
      have hr : (Builtin.append_ #[33, 33] ty #[.slice (some ⟨g, 0, none⟩) n cap, .slice (some ad) m c]).run Tryd.prog w = .ok (.slice (some ⟨g, 0, none⟩) (n + m) cap) (w.setRow g (cur.toList.take (n * i.size) ++ news ++ cur.toList.drop (n * i.size + news.length)).toArray) := by
        simp [Builtin.append_, run_underlying Tryd.underlying33, sizeOf, typeInfo, hi, Builtin.lenOf, hroom, hf, Addr.add_lit, hst]
      refine ⟨_, _, hr, ⟨hlen, .inr ⟨g, cap, _, t, rfl, hbg, setRow_heap w g cur _ t _ hg, hroom, hcm, ?_, ?_⟩⟩, ⟨rfl, rfl, rfl, by simp, fun k _ hk => setRow_other w g k _ (fun e => hk (by simp [Value.ownBlock, e]))⟩, Or.inl rfl, Nat.le_refl _⟩
      · simp only [List.size_toArray, List.length_append, List.length_take, List.length_drop, Array.length_toList, hz1]
        omega
      · rw [hz1, Nat.mul_one, htake, ← hlen]
        exact List.take_left
    · have holds : ∀ j u, xs[j]? = some u → w.cell? ((⟨g, 0, none⟩ : Addr).add j) = some u := fun j u hu => by
        rw [Go.WideShapes.add_plain, Nat.zero_add]; exact hown.cells j u hu
      have hr := run_append_grow (P := Tryd.prog) w 33 ty 5 i (.int .u8 0) Tryd.underlying33 hi hz0 ⟨g, 0, none⟩ n cap xs (by rw [hz1, hown.1]; omega) holds ad m c news (by rw [hz1]; omega) hnews (by omega) (by omega) (by rw [hz2]; exact growslice_fits (by omega) (by omega))
      exact ⟨_, _, hr, grown cap, gb _ _, Or.inr rfl, Nat.le_succ _⟩

/-- append whose run is known, in the fenced layer. -/
theorem wpListIn_append_run {F : Fence} {n : Nat} {w w' : World} {ops : Array Oper} {rest : List Oper} {o : Oper} {a : Act} {Q : Exit → Act → World → Prop} (hg : o.guard = none) (s x : Operand) (t : TypeId)
    (hop : o.op = Op.call { callee := Callee.builtin Builtin.append, args := #[s, x], argTypes := #[t, t] }) (v u v' : Value) (hs : a.eval s = v) (hx : a.eval x = u)
    (hrun : (Builtin.append_ #[t, t] o.type #[v, u]).run Tryd.prog w = .ok v' w') (hK : wpListIn F n Tryd.prog ops Q rest (a.put o.dst v') w') : wpListIn F n Tryd.prog ops Q (o :: rest) a w := by
  refine wpListIn_plain hg fun K hK' => ?_
  unfold Oper.wpIn
  refine ⟨?_, ?_⟩
  · simp [Oper.about, hop, resolve, Target.leads, Sem.run_pure]
  · rw [Oper.semAt_plain F _ _ (by rw [hop]; intro c hc'; cases hc')]
    simp [execOp, hop, resolve, invoke, builtin, hs, hx, hrun, Result.andThen]
    exact hK' _ _ hK

/-- The bytes of a set's runs. -/
def rnB (l : List (Nat × Nat)) : List Nat := l.flatMap fun r => [r.1, r.2]
def byteV (l : List Nat) : List Value := l.map fun x : Nat => Value.int .u8 (x : Int)
theorem rnB_snoc (l : List (Nat × Nat)) (x : Nat × Nat) : byteV (rnB (l ++ [x])) = byteV (rnB l) ++ [.int .u8 x.1, .int .u8 x.2] := by simp [byteV, rnB]
theorem rnB_length (l : List (Nat × Nat)) : (rnB l).length = 2 * l.length := by
  induction l with
  | nil => rfl
  | cons a l ih => simp [rnB] at *; omega

theorem runStep_len (st : List (Nat × Nat) × Option (Nat × Nat)) (b : Nat) : (runStep st b).1.length + (runStep st b).2.toList.length ≤ st.1.length + st.2.toList.length + 1 := by
  obtain ⟨em, cur⟩ := st
  cases cur with
  | none => simp [runStep]
  | some r =>
    obtain ⟨f, l⟩ := r
    simp only [runStep]
    split <;> simp
theorem foldl_runStep_len : ∀ (l : List Nat) (st : List (Nat × Nat) × Option (Nat × Nat)), (l.foldl runStep st).1.length + (l.foldl runStep st).2.toList.length ≤ st.1.length + st.2.toList.length + l.length
  | [], st => by simp
  | b :: l, st => by
    have h1 := foldl_runStep_len l (runStep st b)
    have h2 := runStep_len st b
    simp only [List.foldl_cons, List.length_cons]
    omega
theorem runs_le (s : BitVec 256) : (runsOf s).length ≤ 256 := by
  have h1 := foldl_runStep_len (bytesOf s) ([], none)
  have h2 := bytesOf_le s
  unfold runsOf runsL runSt
  rw [List.length_append]
  simp at h1
  omega

set_option maxHeartbeats 1000000 in
theorem appendRuns_in (s : BitVec 256) (v : Value) (n base : Nat) (xs : List Value) (w : World) (hv : OwnU w base v n xs) (hn : n ≤ 1099511627776) (hG : 1 < base) (hbase : base ≤ w.heap.size) (hT : TabAt w) :
    CallsIn Fence.wide 0 Tryd.prog 75 #[v, SV s] w fun e w' => ∃ v', e = .returned v' ∧ OwnU w' base v' (n + 2 * (runsOf s).length) (xs ++ byteV (rnB (runsOf s))) ∧ w.grownBy w' v.ownBlock ∧ (v'.ownBlock = v.ownBlock ∨ ∃ g, v'.ownBlock = some g ∧ w.heap.size ≤ g) ∧ w.drawn ≤ w'.drawn := by
  obtain ⟨ad, ln, cap, rfl⟩ : ∃ ad ln cap, v = .slice ad ln cap := by
    rcases hv.2 with ⟨rfl, -⟩ | ⟨g, cap, cur, t, rfl, -⟩ <;> exact ⟨_, _, _, rfl⟩
  refine callsIn_of_wp_marks Tryd.func75 rfl trivial ?_ rfl
  simp only [Tryd.ntmps75, List.size_toArray, List.length_nil, List.length_cons, Nat.reduceSub, Nat.reduceAdd, Array.replicate_succ, Array.replicate_zero, List.push_toArray, List.append_toArray, List.nil_append, List.cons_append]
  gi_wp2_with fail
  refine ⟨trivial, rfl, ?_⟩
  refine (callsIn_wide.2 (runs_any s _)).mono ?_
  rintro e w5 ⟨rfl, rfl⟩
  gi_wp2
  refine wpIn_world (fun W => Blk W w.heap.size #[.slice ad ln cap] 33 ∧ Blk W (w.heap.size + 1) (WS s) 39 ∧ Blk W (w.heap.size + 2) (WS s) 39 ∧ Below w.heap.size w W ∧ w.drawn ≤ W.drawn) ⟨?_, ?_, ?_, ?_, ?_⟩ ?_
  · exact ((Blk.newAt rfl _ _).alloc _).alloc _
  · exact (Blk.newAt (by simp) _ _).alloc _
  · exact Blk.newAt (by simp) _ _
  · exact (((Below.refl _ _).alloc (Nat.le_refl _) _).alloc (by simp) _).alloc (by simp; omega) _
  · exact Nat.le_refl _
  rintro W0 ⟨k0, k1, k2, hbel, hdw⟩
  have hT0 : TabAt W0 := hT.agree (Agree.of_all (K := fun _ => True) hbel) trivial
  have HT := hide hT0
  have HB := hide hbel
  have zk := k2.lt
  have hv0 : OwnU W0 base (.slice ad ln cap) n xs := hv.keep fun g hg => hbel.block g (hv.own_lt hg).2
  have hvo : ∀ g, (Value.slice ad ln cap).ownBlock = some g → base ≤ g ∧ g < w.heap.size := fun g hg => hv.own_lt hg
  have hr256 := runs_le s
  clear hT hT0 hbel hv
  generalize hN : w.heap.size = N at *
  refine wpIn_rangeM (gf := 95) (lb := #[.pointer (some ⟨N + 1 + 1, 0, none⟩)]) rfl enters_runs (encs := fun x : Nat × Nat => #[.int .u8 x.1, .int .u8 x.2]) (xs := runsOf s)
    (own := fun k => k = N + 2 ∨ k = 1)
    (fun W1 hb => runs1_any s _ W1 (k2.below hb zk) (HT.out.agree (Agree.of_all (K := fun _ => True) hb) trivial)) (fun _ => rfl)
    (fun pre M W => M N ∧ ∃ v', Blk W N #[v'] 33 ∧ OwnU W base v' (n + 2 * pre.length) (xs ++ byteV (rnB pre)) ∧ (∀ g, v'.ownBlock = some g → M g) ∧ (v'.ownBlock = (Value.slice ad ln cap).ownBlock ∨ ∃ g, v'.ownBlock = some g ∧ N < g))
    (fun _ _ _ _ => False)
    (fun _ M A B h ha => ⟨h.1, h.2.choose, h.2.choose_spec.1.agree ha h.1, h.2.choose_spec.2.1.keep (fun g hg => ha.block g (h.2.choose_spec.2.1.own_lt hg).2 (h.2.choose_spec.2.2.1 g hg)), h.2.choose_spec.2.2⟩)
    (fun _ _ M A B h ha => h)
    (fun k => k = N ∨ (Value.slice ad ln cap).ownBlock = some k) (fun k hk => by rcases hk with rfl | hk; exact k0.lt; have := hvo k hk; omega)
    (fun k hk => by
      rcases hk with rfl | rfl
      · exact ⟨fun h => by rcases h with h | h; omega; have := hvo _ h; omega, zk⟩
      · exact ⟨fun h => by rcases h with h | h; omega; have := hvo _ h; omega, by omega⟩)
    ⟨.inl rfl, _, k0, by simpa [byteV, rnB] using hv0, fun g hg => .inr hg, .inl rfl⟩
    (fun x => { tmps := #[.slice ad ln cap, SV s, .pointer (some ⟨N, 0, none⟩), .pointer (some ⟨N + 1, 0, none⟩), .slice none 0 0, .int .u8 x.1, .int .u8 x.2, SV s, .func (.func 95) #[] #[.pointer (some ⟨N + 1 + 1, 0, none⟩)],
        .int .u8 x.1, .int .u8 x.2, undef, undef, undef, undef, undef, undef], defers := [] }) ?assign ?body ?done ?stop
  case assign =>
    intro l x W K hK
    gi_wp2
    exact hK
  case body =>
    rintro l pre x M W hpre ⟨m1, v', b1, ho, hom, hor⟩ hM
    have hpl : pre.length < (runsOf s).length := by have := hpre.length_le; simp at this; omega
    have hNW := b1.lt
    have e1 := b1.cell 0
    have f1 := b1.frozen 0
    simp only [List.getElem?_toArray, List.getElem?_cons_zero] at e1
    obtain ⟨W2, hW2⟩ : ∃ W2, W2 = W.alloc (.cells #[.int .u8 x.1, .int .u8 x.2] 5) := ⟨_, rfl⟩
    have kn : Blk W2 W.heap.size #[.int .u8 x.1, .int .u8 x.2] 5 := by rw [hW2]; exact Blk.newAt rfl _ _
    have ho2 : OwnU W2 base v' (n + 2 * pre.length) (xs ++ byteV (rnB pre)) := ho.keep fun g hg => by rw [hW2]; exact Below.heap_alloc _ _ _ (ho.own_lt hg).2
    have hsz2 : W2.heap.size = W.heap.size + 1 := by rw [hW2]; simp
    obtain ⟨v2, W3, hr, ho3, hg3, hob, hdr⟩ := run_appendU W2 33 base v' _ _ ho2 ⟨W.heap.size, 0, none⟩ 2 2 [.int .u8 x.1, .int .u8 x.2] rfl (World.news_of_block kn) (by intro u hu; simp at hu; rcases hu with rfl | rfl <;> rfl) (by omega) (by omega) (by omega)
    obtain ⟨ad', ln', cap', rfl⟩ : ∃ ad ln cap, v' = .slice ad ln cap := by
      rcases ho.2 with ⟨rfl, -⟩ | ⟨g, cap, cur, t, rfl, -⟩ <;> exact ⟨_, _, _, rfl⟩
    obtain ⟨ad2, ln2, cap2, rfl⟩ : ∃ ad ln cap, v2 = .slice ad ln cap := by
      rcases ho3.2 with ⟨rfl, -⟩ | ⟨g, cap, cur, t, rfl, -⟩ <;> exact ⟨_, _, _, rfl⟩
    rw [hW2] at hr
    have hne3 : (Value.slice ad' ln' cap').ownBlock ≠ some N := fun e => by
      rcases hor with h | ⟨g, h, hg⟩
      · have := hvo N (h.symm.trans e); omega
      · rw [e] at h; injection h; omega
    have b3 : Blk W3 N #[.slice ad' ln' cap'] 33 := (hg3.block N (by omega) (fun e => hne3 e.symm)).trans (by rw [hW2]; exact b1.alloc _)
    have e3 := b3.cell 0
    have f3 := b3.frozen 0
    simp only [List.getElem?_toArray, List.getElem?_cons_zero] at e3
    have HO3 := hide ho3
    have HB3 := hide b3
    have HG3 := hide hg3
    have HOB := hide hob
    have HB1 := hide b1
    clear ho ho2 ho3 hg3 hob b1 b3 hN
    gi_wp2_with (refine wpListIn_append_run rfl _ _ _ rfl _ _ _ rfl rfl hr ?_)
    have hs3 := HG3.out.size
    refine ⟨fun k => M k ∨ (Value.slice ad2 ln2 cap2).ownBlock = some k, ⟨fun k hk => ?_, ?_⟩, .inl m1, _, HB3.out.set 0 _, ?_, fun g hg => .inr hg, ?_⟩
    · rcases hk with hk | hk
      · exact ⟨.inl hk, by have := hM k hk; simp; omega⟩
      · refine ⟨?_, by have := (HO3.out.own_lt hk).2; simpa using this⟩
        rcases HOB.out with h | h
        · exact .inl (hom k (h.symm.trans hk))
        · rw [h] at hk; injection hk with hk; exact .inr (by omega)
    · have a1 : Agree (fun k => ¬ M k) W W2 := by rw [hW2]; exact Agree.alloc _ _ _
      have a2 : Agree (fun k => ¬ M k) W2 W3 := ⟨HG3.out.os, HG3.out.tape, HG3.out.output, HG3.out.size, fun k hk hn => HG3.out.block k hk (fun e => hn (hom k e.symm)), hdr⟩
      exact (a1.trans a2).trans (Agree.setCell _ _ _ (fun h => h m1))
    · rw [List.length_append, show n + 2 * (pre.length + [x].length) = n + 2 * pre.length + 2 from by simp; omega, rnB_snoc, ← List.append_assoc]
      refine HO3.out.keep fun g hg => Below.heap_setCell _ _ _ _ ?_
      show g ≠ N
      intro e
      subst e
      rcases HOB.out with h | h
      · exact hne3 (h.symm.trans hg)
      · rw [h] at hg; injection hg; omega
    · rcases HOB.out with h | h
      · rw [h]; exact hor
      · exact .inr ⟨_, h, by omega⟩
  case done =>
    rintro D M' W ⟨m1, v', b1, ho, hom, hor⟩ hF hD hK hn
    have e1 := b1.cell 0
    simp only [List.getElem?_toArray, List.getElem?_cons_zero] at e1
    obtain ⟨ad', ln', cap', rfl⟩ : ∃ ad ln cap, v' = .slice ad ln cap := by
      rcases ho.2 with ⟨rfl, -⟩ | ⟨g, cap, cur, t, rfl, -⟩ <;> exact ⟨_, _, _, rfl⟩
    have HF := hide hF
    have HK := hide hK
    have HO := hide ho
    have HNE := hide hN
    clear hF hK ho hN
    gi_wp2
    refine leave_mark HK.out (results_tmp rfl _ _ _) ⟨_, rfl, ?_, ?_, ?_, Nat.le_trans hdw HF.out.agree.drawn⟩
    · refine HO.out.keep fun g hg => World.putObj_heap_other ?_
      rintro rfl
      exact hn (hom _ hg)
    · have hb : Below N w W0 := HB.out
      refine ⟨HF.out.agree.os.trans hb.os, HF.out.agree.tape.trans hb.tape, HF.out.agree.output.trans hb.output, ?_, fun k hk hne => ?_⟩
      · rw [World.putObj_size]; exact Nat.le_trans hb.size HF.out.agree.size
      · have hk' : k < N := by rw [← HNE.out]; exact hk
        rw [World.putObj_heap_other (by omega), HF.out.agree.block k (by omega) (fun h => by rcases h with h | h; omega; exact hne h.symm), hb.block k hk']
    · rcases hor with h | ⟨g, h, hg⟩
      · exact .inl h
      · exact .inr ⟨g, h, by rw [HNE.out]; omega⟩
  case stop =>
    rintro D c pre M' W hp h
    exact h.elim
theorem appendRuns_any (s : BitVec 256) (v : Value) (n base : Nat) (xs : List Value) (w : World) (hv : OwnU w base v n xs) (hn : n ≤ 1099511627776) (hG : 1 < base) (hbase : base ≤ w.heap.size) (hT : TabAt w) :
    Calls Tryd.prog 75 #[v, SV s] w fun e w' => ∃ v', e = .returned v' ∧ OwnU w' base v' (n + 2 * (runsOf s).length) (xs ++ byteV (rnB (runsOf s))) ∧ w.grownBy w' v.ownBlock ∧ (v'.ownBlock = v.ownBlock ∨ ∃ g, v'.ownBlock = some g ∧ w.heap.size ≤ g) ∧ w.drawn ≤ w'.drawn :=
  callsIn_wide.1 (appendRuns_in s v n base xs w hv hn hG hbase hT)
end Go.Proofs.YthemadegffhmfaaDoor
/- bytes.Compare; compareSets. -/
namespace Go.Proofs.YthemadegffhmfaaDoor
set_option maxRecDepth 100000
set_option linter.unusedSimpArgs false
set_option linter.unusedVariables false
open Go.RowKit

/-- How two lists of numbers compare. -/
def lexN : List Nat → List Nat → Int
  | [], [] => 0
  | [], _ :: _ => -1
  | _ :: _, [] => 1
  | a :: ar, b :: br => if a < b then -1 else if b < a then 1 else lexN ar br
theorem lex_bytes : ∀ (a b : List Nat), (∀ x ∈ a, x < 256) → (∀ x ∈ b, x < 256) → Lib.compareBytes (Lib.bytesOf (a.map fun x : Nat => (x : Int))) (Lib.bytesOf (b.map fun x : Nat => (x : Int))) = lexN a b
  | [], [], _, _ => rfl
  | [], _ :: _, _, _ => rfl
  | _ :: _, [], _, _ => rfl
  | a :: ar, b :: br, ha, hb => by
    have ih := lex_bytes ar br (fun x hx => ha x (by simp [hx])) (fun x hx => hb x (by simp [hx]))
    have h1 := ha a (by simp)
    have h2 := hb b (by simp)
    simp only [Lib.bytesOf, List.map_cons, Lib.compareBytes, lexN] at ih ⊢
    have e1 : (((a : Int).toNat.toUInt8 < (b : Int).toNat.toUInt8)) ↔ a < b := by
      rw [UInt8.lt_iff_toNat_lt]; simp; omega
    have e2 : (((b : Int).toNat.toUInt8 < (a : Int).toNat.toUInt8)) ↔ b < a := by
      rw [UInt8.lt_iff_toNat_lt]; simp; omega
    simp only [e1, e2, ih]

/-- A slice of bytes. -/
def BytesAt (w : World) (v : Value) (l : List Nat) : Prop :=
  ∃ a cap, v = .slice a l.length cap ∧ (a = none → l = []) ∧ ∀ ad, a = some ad → ∀ (j : Nat) (x : Nat), l[j]? = some x → w.cell? (ad.add j) = some (.int .u8 x)
theorem BytesAt.of_own {w : World} {base n : Nat} {v : Value} {l : List Nat} (h : OwnU w base v n (byteV l)) : BytesAt w v l := by
  have hl : l.length = n := by have := h.1; simpa [byteV] using this
  rcases h.2 with ⟨rfl, hn⟩ | ⟨g, cap, cur, t, rfl, -⟩
  · subst hn
    have : l = [] := List.eq_nil_of_length_eq_zero hl
    subst this
    exact ⟨none, 0, rfl, fun _ => rfl, fun ad hd => by cases hd⟩
  · refine ⟨some ⟨g, 0, none⟩, cap, by rw [hl], (fun h => by cases h), fun ad hd j x hx => ?_⟩
    cases hd
    rw [Go.WideShapes.add_plain, Nat.zero_add]
    exact h.cells j _ (by simp [byteV, hx])
theorem run_bytesAt {w : World} {v : Value} {l : List Nat} (h : BytesAt w v l) : (Extern.Bytes.bytesOf v).run Tryd.prog w = .ok ⟨(Lib.bytesOf (l.map fun x : Nat => (x : Int))).toArray⟩ w := by
  obtain ⟨a, cap, rfl, h1, h2⟩ := h
  cases a with
  | none =>
    have := h1 rfl
    subst this
    simp [Extern.Bytes.bytesOf, Lib.bytesOf]
    rfl
  | some ad =>
    have hl := Lib.run_loadBytesX (P := Tryd.prog) w (l.map fun x : Nat => (x : Int)) ad .empty (fun j x hj => by
      rw [List.getElem?_map] at hj
      cases e : l[j]? with
      | none => rw [e] at hj; cases hj
      | some y => rw [e] at hj; cases hj; exact h2 ad rfl j y e)
    rw [List.length_map] at hl
    simp only [Extern.Bytes.bytesOf, hl]
    congr 1
    apply ByteArray.ext
    simp
theorem bytesCompare_any (a b : List Nat) (va vb : Value) (w : World) (ha : BytesAt w va a) (hb : BytesAt w vb b) (h1 : ∀ x ∈ a, x < 256) (h2 : ∀ x ∈ b, x < 256) :
    Calls Tryd.prog 77 #[va, vb] w fun e w' => e = .returned (.int .i64 (lexN a b)) ∧ w' = w := by
  have hx : (Extern.BytealgCompare.compare #[va, vb]).run Tryd.prog w = .ok (.int .i64 (lexN a b)) w := by
    change Sem.run Tryd.prog (do pure (goInt (Extern.BytealgCompare.cmp (← Extern.Bytes.bytesOf va) (← Extern.Bytes.bytesOf vb)))) w = _
    simp only [Sem.run_bind, run_bytesAt ha, run_bytesAt hb, Sem.run_pure, Result.andThen]
    rw [Lib.cmp_eq, lex_bytes a b h1 h2]
    rfl
  go_enter Tryd.func77, Tryd.ntmps77
  go_wp2
  rw [run_callFunc_extern Tryd.func89 (by kernel_rfl) (by kernel_rfl) (by kernel_rfl) (e := Extern.BytealgCompare.compare) (by kernel_rfl), hx]
  simp only [Result.andThen]
  rw [Oper.upon_value]
  go_wp2
  go_ret
  exact ⟨rfl, rfl⟩

/-- How two numbers compare. -/
def cmpN (x y : Nat) : Int := if x < y then -1 else if y < x then 1 else 0
theorem compareOp_any (x y : Nat) (w : World) :
    Calls Tryd.prog 65 #[.int .i64 x, .int .i64 y] w fun e w' => e = .returned (.int .i64 (cmpN x y)) ∧ w' = w := by
  go_enter Tryd.func65, Tryd.ntmps65
  go_wp2
  all_goals
    go_ret
    refine ⟨?_, rfl⟩
    unfold cmpN
    repeat' split
    all_goals first | rfl | omega

theorem foldl_runStep_all (p : Nat → Prop) : ∀ (l : List Nat) (st : List (Nat × Nat) × Option (Nat × Nat)), (∀ x ∈ l, p x) → (∀ r ∈ st.1 ++ st.2.toList, p r.1 ∧ p r.2) → ∀ r ∈ (l.foldl runStep st).1 ++ (l.foldl runStep st).2.toList, p r.1 ∧ p r.2
  | [], st, _, h => h
  | b :: l, (em, cur), hl, h => by
    refine foldl_runStep_all p l _ (fun x hx => hl x (by simp [hx])) ?_
    have hb := hl b (by simp)
    cases cur with
    | none =>
      intro r hr
      simp [runStep] at hr
      rcases hr with hr | rfl
      · exact h r (by simp [hr])
      · exact ⟨hb, hb⟩
    | some q =>
      obtain ⟨f, la⟩ := q
      have hq := h (f, la) (by simp)
      intro r hr
      simp only [runStep] at hr
      split at hr
      · simp at hr
        rcases hr with hr | rfl
        · exact h r (by simp [hr])
        · exact ⟨hq.1, hb⟩
      · simp at hr
        rcases hr with hr | rfl | rfl
        · exact h r (by simp [hr])
        · exact hq
        · exact ⟨hb, hb⟩
theorem rnB_lt (s : BitVec 256) : ∀ x ∈ rnB (runsOf s), x < 256 := by
  intro x hx
  simp only [rnB, List.mem_flatMap] at hx
  obtain ⟨r, hr, hx⟩ := hx
  have := foldl_runStep_all (fun x => x < 256) (bytesOf s) ([], none) (fun x hx => bytesOf_lt s x hx) (by simp) r hr
  simp at hx
  rcases hx with rfl | rfl
  · exact this.1
  · exact this.2
def z16 : Array Value := #[.int .u8 0, .int .u8 0, .int .u8 0, .int .u8 0, .int .u8 0, .int .u8 0, .int .u8 0, .int .u8 0, .int .u8 0, .int .u8 0, .int .u8 0, .int .u8 0, .int .u8 0, .int .u8 0, .int .u8 0, .int .u8 0]
theorem x_slice16 (ρ : Operand → Value) (d : Option Tmp) (x : Operand) (ty : TypeId) (pos : String) (af : Array Edge) (g : Option (Nat × Bool)) (b : Nat) (hx : ρ x = PT b) (hc : ρ (.const (.int .i64 0)) = .int .i64 0) (w : World) :
    (execOp ρ { dst := d, op := .slice 93 x none (some (.const (.int .i64 0))) none, type := ty, pos := pos, after := af, guard := g }).run Tryd.prog w = .ok (.value (.slice (some ⟨b, 0, none⟩) 0 16)) w := by
  simp [go_sem, hx, hc, PT]
theorem own16 {W : World} {N b : Nat} (h : Blk W b z16 93) (hN : N ≤ b) : OwnU W N (.slice (some ⟨b, 0, none⟩) 0 16) 0 [] :=
  ⟨rfl, .inr ⟨b, 16, z16, _, rfl, hN, h, by omega, by unfold maxLen; omega, rfl, rfl⟩⟩

set_option maxHeartbeats 1000000 in
theorem compareSets_any (s t : BitVec 256) (w : World) (hT : TabAt w) :
    Calls Tryd.prog 66 #[SV s, SV t] w fun e w' => e = .returned (.int .i64 (lexN (rnB (runsOf s)) (rnB (runsOf t)))) ∧ Below w.heap.size w w' ∧ w.drawn ≤ w'.drawn := by
  have HT := hide hT
  clear hT
  go_enter Tryd.func66, Tryd.ntmps66
  go_wp2
  have hG : 1 < w.heap.size := World.block_lt_of_cell? _ _ (HT.out 0 (by omega))
  obtain ⟨N, hN⟩ : ∃ N, N = w.heap.size := ⟨_, rfl⟩
  rw [← hN] at hG ⊢
  refine wp_world (fun W => (Blk W N (WS s) 39 ∧ Blk W (N + 1) (WS t) 39) ∧ (Blk W (N + 2) z16 93 ∧ Blk W (N + 3) z16 93) ∧ Below N w W ∧ w.drawn ≤ W.drawn) ⟨⟨?_, ?_⟩, ⟨?_, ?_⟩, ?_, ?_⟩ ?_
  · exact (((Blk.newAt hN _ _).alloc _).alloc _).alloc _
  · exact ((Blk.newAt (by simp [hN]) _ _).alloc _).alloc _
  · exact (Blk.newAt (by simp [hN]) _ _).alloc _
  · exact Blk.newAt (by simp [hN]) _ _
  · exact ((((Below.refl N w).alloc (Nat.le_of_eq hN) _).alloc (by simp; omega) _).alloc (by simp; omega) _).alloc (by simp; omega) _
  · exact Nat.le_refl _
  rintro W0 ⟨⟨k0, k1⟩, ⟨k2, k3⟩, hbel, hdr⟩
  obtain ⟨S, hSd⟩ : ∃ S : World → Prop, S = fun W => Blk W N (WS s) 39 ∧ Blk W (N + 1) (WS t) 39 ∧ Below N w W ∧ w.drawn ≤ W.drawn := ⟨_, rfl⟩
  have hS0 : ∀ W, S W → Blk W N (WS s) 39 := fun W h => by rw [hSd] at h; exact h.1
  have hS1 : ∀ W, S W → Blk W (N + 1) (WS t) 39 := fun W h => by rw [hSd] at h; exact h.2.1
  have hSb : ∀ W, S W → Below N w W := fun W h => by rw [hSd] at h; exact h.2.2.1
  have hSw : ∀ W, S W → w.drawn ≤ W.drawn := fun W h => by rw [hSd] at h; exact h.2.2.2
  have hSg : ∀ W W' b, N + 2 ≤ b → S W → W.grownBy W' (some b) → W.drawn ≤ W'.drawn → S W' := fun W W' b hb h hg hd => by
    rw [hSd] at h ⊢
    have hz := h.2.1.lt
    refine ⟨(hg.block N (by omega) (by simp; omega)).trans h.1, (hg.block (N + 1) hz (by simp; omega)).trans h.2.1, ⟨hg.os.trans h.2.2.1.os, hg.tape.trans h.2.2.1.tape, hg.output.trans h.2.2.1.output, Nat.le_trans h.2.2.1.size hg.size, fun k hk => (hg.block k (by omega) (by simp; omega)).trans (h.2.2.1.block k hk)⟩, Nat.le_trans h.2.2.2 hd⟩
  have hS : S { W0 with drawn := W0.drawn + 1 } := by
    rw [hSd]
    exact ⟨k0, k1, ⟨hbel.os, hbel.tape, hbel.output, hbel.size, hbel.block⟩, Nat.le_trans hdr (Nat.le_succ _)⟩
  have hSt : ∀ W, S W → TabAt W := fun W h => HT.out.agree (Agree.of_all (K := fun _ => True) (hN ▸ hSb W h)) trivial
  have j2 : Blk { W0 with drawn := W0.drawn + 1 } (N + 2) z16 93 := k2
  have j3 : Blk { W0 with drawn := W0.drawn + 1 } (N + 3) z16 93 := k3
  clear hSd k0 k1 k2 k3 hbel hdr
  refine wp_region_noPanic (wp_region_held (S := S) (by kernel_rfl) ?_)
  show wpAnyH _ _ _ _ _ 8 #[false, false, false, false, false, false, false, false] _ _
  generalize ({ W0 with drawn := W0.drawn + 1 } : World) = W at hS j2 j3 ⊢
  refine h_take 0 (.slice (some ⟨N + 2, 0, none⟩) 0 16) rfl (by kernel_rfl) (by kernel_rfl) (by kernel_rfl) rfl (fun w hw => x_slice16 _ _ _ _ _ _ _ _ rfl rfl w) hS ?_
  simp only [Act.put, List.setIfInBounds_toArray, List.set_cons_succ, List.set_cons_zero]
  refine h_take 1 (SV s) rfl (by kernel_rfl) (by kernel_rfl) (by kernel_rfl) rfl (fun w hw => x_loadSet _ _ _ _ _ _ _ _ s rfl w (hS0 w hw)) hS ?_
  simp only [Act.put, List.setIfInBounds_toArray, List.set_cons_succ, List.set_cons_zero]
  refine h_take 3 (.slice (some ⟨N + 3, 0, none⟩) 0 16) rfl (by kernel_rfl) (by kernel_rfl) (by kernel_rfl) rfl (fun w hw => x_slice16 _ _ _ _ _ _ _ _ rfl rfl w) hS ?_
  simp only [Act.put, List.setIfInBounds_toArray, List.set_cons_succ, List.set_cons_zero]
  refine h_take 4 (SV t) rfl (by kernel_rfl) (by kernel_rfl) (by kernel_rfl) rfl (fun w hw => x_loadSet _ _ _ _ _ _ _ _ t rfl w (hS1 w hw)) hS ?_
  simp only [Act.put, List.setIfInBounds_toArray, List.set_cons_succ, List.set_cons_zero]
  have z3 := j3.lt
  refine h_callE 2 75 #[.slice (some ⟨N + 2, 0, none⟩) 0 16, SV s] (fun v w' => OwnU w' N v (0 + 2 * (runsOf s).length) ([] ++ byteV (rnB (runsOf s))) ∧ W.grownBy w' (some (N + 2)) ∧ (v.ownBlock = some (N + 2) ∨ ∃ g, v.ownBlock = some g ∧ W.heap.size ≤ g) ∧ W.drawn ≤ w'.drawn) rfl (by kernel_rfl) rfl
    (x_call2 _ _ _ _ _ _ _ _ _ _ _ _ _ rfl rfl rfl (enters_of Tryd.func75 (by kernel_rfl) rfl) _) ((appendRuns_any s _ 0 N [] W (own16 j2 (by omega)) (by omega) hG (by omega) (hSt W hS)).mono fun e w' h => h) (fun v w' h => hSg W w' _ (by omega) hS h.2.1 h.2.2.2) ?_
  rintro v1 W1 ⟨o1, g1, b1, d1⟩
  simp only [Act.put, List.setIfInBounds_toArray, List.set_cons_succ, List.set_cons_zero]
  have hS' := hSg W W1 _ (by omega) hS g1 d1
  have j3' : Blk W1 (N + 3) z16 93 := (g1.block (N + 3) z3 (by simp)).trans j3
  have z3' := j3'.lt
  refine h_callE 5 75 #[.slice (some ⟨N + 3, 0, none⟩) 0 16, SV t] (fun v w' => OwnU w' N v (0 + 2 * (runsOf t).length) ([] ++ byteV (rnB (runsOf t))) ∧ W1.grownBy w' (some (N + 3)) ∧ (v.ownBlock = some (N + 3) ∨ ∃ g, v.ownBlock = some g ∧ W1.heap.size ≤ g) ∧ W1.drawn ≤ w'.drawn) rfl (by kernel_rfl) rfl
    (x_call2 _ _ _ _ _ _ _ _ _ _ _ _ _ rfl rfl rfl (enters_of Tryd.func75 (by kernel_rfl) rfl) _) ((appendRuns_any t _ 0 N [] W1 (own16 j3' (by omega)) (by omega) hG (by omega) (hSt W1 hS')).mono fun e w' h => h) (fun v w' h => hSg W1 w' _ (by omega) hS' h.2.1 h.2.2.2) ?_
  rintro v2 W2 ⟨o2, g2, b2, d2⟩
  simp only [Act.put, List.setIfInBounds_toArray, List.set_cons_succ, List.set_cons_zero]
  have hS2 := hSg W1 W2 _ (by omega) hS' g2 d2
  have o1' : OwnU W2 N v1 (0 + 2 * (runsOf s).length) ([] ++ byteV (rnB (runsOf s))) := o1.keep fun g hg => g2.block g (o1.own_lt hg).2 (fun e => by
    injection e with e
    rcases b1 with h | ⟨g', h, hg'⟩
    · rw [hg] at h; injection h; omega
    · rw [hg] at h; injection h; omega)
  rw [List.nil_append] at o1' o2
  refine h_callE 6 77 #[v1, v2] (fun v w' => v = .int .i64 (lexN (rnB (runsOf s)) (rnB (runsOf t))) ∧ w' = W2) rfl (by kernel_rfl) rfl
    (x_call2 _ _ _ _ _ _ _ _ _ _ _ _ _ rfl rfl rfl (enters_of Tryd.func77 (by kernel_rfl) rfl) _) ((bytesCompare_any _ _ v1 v2 W2 (.of_own o1') (.of_own o2) (rnB_lt s) (rnB_lt t)).mono fun e w' h => ⟨_, h.1, rfl, h.2⟩) (fun v w' h => h.2 ▸ hS2) ?_
  rintro v3 W3 ⟨rfl, rfl⟩
  simp only [Act.put, List.setIfInBounds_toArray, List.set_cons_succ, List.set_cons_zero]
  refine h_take 7 (.int .i64 (lexN (rnB (runsOf s)) (rnB (runsOf t)))) rfl (by kernel_rfl) (by kernel_rfl) (by kernel_rfl) rfl (fun w hw => x_assign _ _ _ _ _ _ _ _ rfl w) hS2 ?_
  simp only [Act.put, List.setIfInBounds_toArray, List.set_cons_succ, List.set_cons_zero]
  refine wpAnyH_done (by kernel_rfl) ?_ _
  refine NoPanic.normal ?_
  have HB := hide (hSb _ hS2)
  have HD := hide (hSw _ hS2)
  clear hS hS0 hS1 hSb hSg hSt hSw hS' hS2 o1 o1' o2 g1 g2 b1 b2 d1 d2
  have HN := hide hN
  clear hN
  go_wp2
  go_ret
  exact ⟨rfl, HN.out ▸ HB.out, HD.out⟩
end Go.Proofs.YthemadegffhmfaaDoor
/- Keys of expressions: a code in which no word begins another one; how they compare. -/
namespace Go.Proofs.YthemadegffhmfaaDoor
set_option maxRecDepth 100000
set_option linter.unusedSimpArgs false
set_option linter.unusedVariables false
open Go.RowKit

theorem lexN_self : ∀ l, lexN l l = 0
  | [] => rfl
  | a :: r => by simp [lexN, lexN_self r]
theorem lexN_zero : ∀ (a b : List Nat), lexN a b = 0 → a = b
  | [], [], _ => rfl
  | [], _ :: _, h => by simp [lexN] at h
  | _ :: _, [], h => by simp [lexN] at h
  | a :: ar, b :: br, h => by
    simp only [lexN] at h
    split at h
    · omega
    · split at h
      · omega
      · rw [lexN_zero ar br h, show a = b from by omega]
theorem lexN_swap : ∀ (a b : List Nat), lexN b a = -lexN a b
  | [], [] => rfl
  | [], _ :: _ => rfl
  | _ :: _, [] => rfl
  | a :: ar, b :: br => by
    have := lexN_swap ar br
    simp only [lexN]
    split <;> split <;> first | omega | (split <;> omega) | (rw [this]) | skip
    all_goals (try split) <;> first | omega | rw [this] | skip
theorem lexN_vals : ∀ (a b : List Nat), lexN a b = -1 ∨ lexN a b = 0 ∨ lexN a b = 1
  | [], [] => by simp [lexN]
  | [], _ :: _ => by simp [lexN]
  | _ :: _, [] => by simp [lexN]
  | a :: ar, b :: br => by
    have := lexN_vals ar br
    simp only [lexN]
    split
    · omega
    · split <;> omega
theorem lexN_trans : ∀ (a b c : List Nat), lexN a b ≤ 0 → lexN b c ≤ 0 → lexN a c ≤ 0 ∧ (lexN a c = 0 → lexN a b = 0 ∧ lexN b c = 0)
  | [], [], c, _, h => ⟨h, fun h' => ⟨rfl, h'⟩⟩
  | [], b :: br, [], _, h => by simp [lexN] at h
  | [], b :: br, c :: cr, _, _ => by simp [lexN]
  | a :: ar, [], c, h, _ => by simp [lexN] at h
  | a :: ar, b :: br, [], _, h => by simp [lexN] at h
  | a :: ar, b :: br, c :: cr, h1, h2 => by
    have ih := lexN_trans ar br cr
    simp only [lexN] at h1 h2 ⊢
    by_cases hab : a < b
    · by_cases hbc : b < c
      · simp [show a < c from by omega, hab]
      · by_cases hcb : c < b
        · simp [hbc, hcb] at h2
        · simp [show a < c from by omega, hab]
    · by_cases hba : b < a
      · simp [hab, hba] at h1
      · by_cases hbc : b < c
        · simp [show a < c from by omega, hbc]
        · by_cases hcb : c < b
          · simp [hbc, hcb] at h2
          · have e1 : ¬ a < c := by omega
            have e2 : ¬ c < a := by omega
            simp only [hab, hba, hbc, hcb, e1, e2, if_false] at h1 h2 ⊢
            exact ih h1 h2
/-- Two lists of which neither begins the other one. -/
theorem lexN_append : ∀ (a b x y : List Nat), (a <+: b → a = b) → (b <+: a → a = b) → lexN (a ++ x) (b ++ y) = if a = b then lexN x y else lexN a b
  | [], b, x, y, h, _ => by rw [← h (List.nil_prefix)]; simp
  | a :: ar, [], x, y, _, h => by have := h List.nil_prefix; cases this
  | a :: ar, b :: br, x, y, h1, h2 => by
    simp only [List.cons_append, lexN]
    by_cases hab : a < b
    · simp [hab, show a ≠ b from by omega]
    · by_cases hba : b < a
      · simp [hab, hba, show a ≠ b from by omega]
      · obtain rfl : a = b := by omega
        have ih := lexN_append ar br x y (fun h => by have := h1 (by simpa using h); simpa using this) (fun h => by have := h2 (by simpa using h); simpa using this)
        simp [ih]

/-- The bytes of a run. -/
def spread (r : Nat × Nat) : List Nat := List.range' r.1 (r.2 + 1 - r.1)
theorem spread_foldl : ∀ (l : List Nat) (st : List (Nat × Nat) × Option (Nat × Nat)), (∀ r ∈ st.1 ++ st.2.toList, r.1 ≤ r.2) →
    (∀ r ∈ (l.foldl runStep st).1 ++ (l.foldl runStep st).2.toList, r.1 ≤ r.2) ∧ ((l.foldl runStep st).1 ++ (l.foldl runStep st).2.toList).flatMap spread = (st.1 ++ st.2.toList).flatMap spread ++ l
  | [], st, h => ⟨h, by simp⟩
  | b :: l, (em, cur), h => by
    have key : (∀ r ∈ (runStep (em, cur) b).1 ++ (runStep (em, cur) b).2.toList, r.1 ≤ r.2) ∧ ((runStep (em, cur) b).1 ++ (runStep (em, cur) b).2.toList).flatMap spread = (em ++ cur.toList).flatMap spread ++ [b] := by
      cases cur with
      | none =>
        refine ⟨fun r hr => ?_, ?_⟩
        · simp [runStep] at hr
          rcases hr with hr | rfl
          · exact h r (by simp [hr])
          · simp
        · simp [runStep, spread]
      | some q =>
        obtain ⟨f, la⟩ := q
        have hq : f ≤ la := h (f, la) (by simp)
        simp only [runStep]
        split
        · rename_i e
          subst e
          refine ⟨fun r hr => ?_, ?_⟩
          · simp at hr
            rcases hr with hr | rfl
            · exact h r (by simp [hr])
            · simp; omega
          · simp only [Option.toList, List.flatMap_append, List.flatMap_cons, List.flatMap_nil, List.append_nil, List.append_assoc]
            congr 1
            simp only [spread]
            rw [show la + 1 + 1 - f = (la + 1 - f) + 1 from by omega, List.range'_concat]
            congr 2
            simp; omega
        · refine ⟨fun r hr => ?_, ?_⟩
          · simp at hr
            rcases hr with hr | rfl | rfl
            · exact h r (by simp [hr])
            · exact hq
            · simp
          · simp [spread]
    have ih := spread_foldl l (runStep (em, cur) b) key.1
    refine ⟨ih.1, ?_⟩
    rw [List.foldl_cons, ih.2, key.2]
    simp
theorem runs_spread (s : BitVec 256) : (∀ r ∈ runsOf s, r.1 ≤ r.2) ∧ (runsOf s).flatMap spread = bytesOf s := by
  have h := spread_foldl (bytesOf s) ([], none) (by simp)
  exact ⟨h.1, h.2.trans (by simp)⟩
theorem bytes_inj {s t : BitVec 256} (h : bytesOf s = bytesOf t) : s = t := by
  refine BitVec.eq_of_getLsbD_eq fun i hi => ?_
  have h1 := mem_bytes s i
  have h2 := mem_bytes t i
  rw [h] at h1
  have h3 := h1.symm.trans h2
  cases hs : s.getLsbD i <;> cases ht : t.getLsbD i <;> simp_all
theorem runs_inj {s t : BitVec 256} (h : runsOf s = runsOf t) : s = t := bytes_inj (by rw [← (runs_spread s).2, ← (runs_spread t).2, h])
/-- Only the first run may begin with 0. -/
theorem runs_later (s : BitVec 256) (r0 : Nat × Nat) (rest : List (Nat × Nat)) (h : runsOf s = r0 :: rest) : ∀ r ∈ rest, 0 < r.1 := by
  intro r hr
  have hs := runs_spread s
  have hup := bytesOf_up s
  rw [← hs.2, h, List.flatMap_cons, List.pairwise_append] at hup
  have h0 := hs.1 r0 (by rw [h]; simp)
  have h1 := hs.1 r (by rw [h]; simp [hr])
  have := hup.2.2 r0.1 (by simp [spread]; omega) r.1 (by simp only [List.mem_flatMap]; exact ⟨r, hr, by simp [spread]; omega⟩)
  omega
theorem rnB_decode : ∀ (a b : List (Nat × Nat)) (x y : List Nat), (∀ r ∈ a, 0 < r.1) → (∀ r ∈ b, 0 < r.1) → rnB a ++ 0 :: x = rnB b ++ 0 :: y → a = b ∧ x = y
  | [], [], x, y, _, _, h => by simpa [rnB] using h
  | [], r :: b, x, y, _, hb, h => by
    have := hb r (by simp)
    simp [rnB] at h; omega
  | r :: a, [], x, y, ha, _, h => by
    have := ha r (by simp)
    simp [rnB] at h; omega
  | r :: a, q :: b, x, y, ha, hb, h => by
    simp only [rnB, List.flatMap_cons, List.cons_append, List.nil_append, List.cons.injEq] at h
    obtain ⟨h1, h2, h3⟩ := h
    have ih := rnB_decode a b x y (fun r hr => ha r (by simp [hr])) (fun r hr => hb r (by simp [hr])) h3
    exact ⟨by rw [ih.1, Prod.ext h1 h2], ih.2⟩
theorem runs_nil {s : BitVec 256} (h : s ≠ 0#256) : runsOf s ≠ [] := fun e => h (runs_inj (e.trans (by decide +kernel)))
theorem runs_decode {s t : BitVec 256} (hs : s ≠ 0#256) (ht : t ≠ 0#256) (x y : List Nat) (h : rnB (runsOf s) ++ 0 :: x = rnB (runsOf t) ++ 0 :: y) : s = t ∧ x = y := by
  cases e1 : runsOf s with
  | nil => exact absurd e1 (runs_nil hs)
  | cons r a =>
    cases e2 : runsOf t with
    | nil => exact absurd e2 (runs_nil ht)
    | cons q b =>
      have l1 := runs_later s r a e1
      have l2 := runs_later t q b e2
      rw [e1, e2] at h
      simp only [rnB, List.flatMap_cons, List.cons_append, List.nil_append, List.cons.injEq] at h
      obtain ⟨h1, h2, h3⟩ := h
      have ih := rnB_decode a b x y l1 l2 h3
      refine ⟨runs_inj ?_, ih.2⟩
      rw [e1, e2, ih.1, Prod.ext h1 h2]

theorem rnB_lex : ∀ (a b : List (Nat × Nat)) (x y : List Nat), (∀ r ∈ a, 0 < r.1) → (∀ r ∈ b, 0 < r.1) → a ≠ b → lexN (rnB a ++ 0 :: x) (rnB b ++ 0 :: y) = lexN (rnB a) (rnB b)
  | [], [], x, y, _, _, h => absurd rfl h
  | [], r :: b, x, y, _, hb, h => by
    have := hb r (by simp)
    simp [rnB, lexN, this]
  | r :: a, [], x, y, ha, _, h => by
    have := ha r (by simp)
    simp [rnB, lexN, this]
  | (r1, r2) :: a, (q1, q2) :: b, x, y, ha, hb, h => by
    simp only [rnB, List.flatMap_cons, List.cons_append, List.nil_append, lexN]
    by_cases h1 : r1 < q1
    · simp [h1]
    · by_cases h2 : q1 < r1
      · simp [h1, h2]
      · by_cases h3 : r2 < q2
        · simp [h1, h2, h3]
        · by_cases h4 : q2 < r2
          · simp [h1, h2, h3, h4]
          · simp only [h1, h2, h3, h4, if_false]
            have e1 : r1 = q1 := by omega
            have e2 : r2 = q2 := by omega
            exact rnB_lex a b x y (fun r hr => ha r (by simp [hr])) (fun r hr => hb r (by simp [hr])) (fun e => h (by rw [e, e1, e2]))
theorem runs_lex {s t : BitVec 256} (hs : s ≠ 0#256) (ht : t ≠ 0#256) (h : s ≠ t) (x y : List Nat) : lexN (rnB (runsOf s) ++ 0 :: x) (rnB (runsOf t) ++ 0 :: y) = lexN (rnB (runsOf s)) (rnB (runsOf t)) := by
  have hne : runsOf s ≠ runsOf t := fun e => h (runs_inj e)
  cases e1 : runsOf s with
  | nil => exact absurd e1 (runs_nil hs)
  | cons r a =>
    cases e2 : runsOf t with
    | nil => exact absurd e2 (runs_nil ht)
    | cons q b =>
      have l1 := runs_later s r a e1
      have l2 := runs_later t q b e2
      rw [e1, e2] at hne
      obtain ⟨r1, r2⟩ := r
      obtain ⟨q1, q2⟩ := q
      simp only [rnB, List.flatMap_cons, List.cons_append, List.nil_append, lexN]
      by_cases h1 : r1 < q1
      · simp [h1]
      · by_cases h2 : q1 < r1
        · simp [h1, h2]
        · by_cases h3 : r2 < q2
          · simp [h1, h2, h3]
          · by_cases h4 : q2 < r2
            · simp [h1, h2, h3, h4]
            · simp only [h1, h2, h3, h4, if_false]
              have e1 : r1 = q1 := by omega
              have e2 : r2 = q2 := by omega
              exact rnB_lex a b x y l1 l2 (fun e => hne (by rw [e, e1, e2]))

/-- The key of an expression, as bytes. -/
def RE.key : RE → List Nat
  | .mk o s ks => (o + 1) :: ((if o = 2 then rnB (runsOf s) else []) ++ ((ks.map fun k => k.key).flatten ++ [0]))
def keysL (ks : List RE) : List Nat := (ks.map RE.key).flatten
theorem RE.key_mk (o : Nat) (s : BitVec 256) (ks : List RE) : (RE.mk o s ks).key = (o + 1) :: ((if o = 2 then rnB (runsOf s) else []) ++ (keysL ks ++ [0])) := by rw [RE.key, keysL]

/-- What the calls make: a set where it is a Class alone, and no kids there. -/
inductive WfK : RE → Prop where
  | mk (o : Nat) (s : BitVec 256) (ks : List RE) (ho : o ≤ 7) (h2 : o = 2 → ks = [] ∧ s ≠ 0#256) (hn : o ≠ 2 → s = 0#256) (hk : ∀ k ∈ ks, WfK k) : WfK (.mk o s ks)
theorem WfK.kid {o : Nat} {s : BitVec 256} {ks : List RE} (h : WfK (.mk o s ks)) : ∀ k ∈ ks, WfK k := by cases h; assumption

theorem keys_decode {ks : List RE} (ih : ∀ k ∈ ks, ∀ b x y, WfK b → k.key ++ x = b.key ++ y → k = b ∧ x = y) : ∀ (ls : List RE) (x y : List Nat), (∀ k ∈ ls, WfK k) → keysL ks ++ 0 :: x = keysL ls ++ 0 :: y → ks = ls ∧ x = y := by
  induction ks with
  | nil =>
    intro ls x y hl h
    cases ls with
    | nil => simpa [keysL] using h
    | cons b ls =>
      cases b
      simp [keysL, RE.key_mk] at h
  | cons k ks ihk =>
    intro ls x y hl h
    cases ls with
    | nil =>
      cases k
      simp [keysL, RE.key_mk] at h
    | cons b ls =>
      have h' : k.key ++ (keysL ks ++ 0 :: x) = b.key ++ (keysL ls ++ 0 :: y) := by simpa [keysL] using h
      obtain ⟨rfl, h2⟩ := ih k (by simp) b _ _ (hl b (by simp)) h'
      obtain ⟨rfl, h3⟩ := ihk (fun k hk => ih k (by simp [hk])) ls x y (fun k hk => hl k (by simp [hk])) h2
      exact ⟨rfl, h3⟩
/-- A key that begins two texts tells which expression it is. -/
theorem key_decode (a : RE) : WfK a → ∀ b x y, WfK b → a.key ++ x = b.key ++ y → a = b ∧ x = y := by
  refine RE.ind (P := fun a => WfK a → ∀ b x y, WfK b → a.key ++ x = b.key ++ y → a = b ∧ x = y) ?_ a
  intro o s ks ih ha b x y hb h
  cases ha with
  | mk _ _ _ ho h2 hn hk =>
  cases hb with
  | mk o' s' ks' ho' h2' hn' hk' =>
    rw [RE.key_mk, RE.key_mk] at h
    simp only [List.cons_append, List.cons.injEq, List.append_assoc, List.nil_append] at h
    obtain ⟨e, h⟩ := h
    obtain rfl : o = o' := by omega
    by_cases e2 : o = 2
    · obtain ⟨rfl, hs⟩ := h2 e2
      obtain ⟨rfl, hs'⟩ := h2' e2
      rw [if_pos e2, if_pos e2] at h
      simp only [keysL, List.map_nil, List.flatten_nil, List.nil_append] at h
      obtain ⟨rfl, h3⟩ := runs_decode hs hs' x y h
      exact ⟨rfl, h3⟩
    · rw [if_neg e2, if_neg e2] at h
      simp only [List.nil_append] at h
      obtain ⟨rfl, h3⟩ := keys_decode (fun k hk' b x y hb h => ih k hk' (hk k hk') b x y hb h) ks' x y hk' h
      exact ⟨by rw [hn e2, hn' e2], h3⟩
theorem key_inj {a b : RE} (ha : WfK a) (hb : WfK b) (h : a.key = b.key) : a = b := (key_decode a ha b [] [] hb (by rw [h])).1
theorem key_prefix {a b : RE} (ha : WfK a) (hb : WfK b) (h : a.key <+: b.key) : a.key = b.key := by
  obtain ⟨x, hx⟩ := h
  rw [(key_decode a ha b x [] hb (by rw [hx, List.append_nil])).1]
/-- Keys with something behind them. -/
theorem key_lex {a b : RE} (ha : WfK a) (hb : WfK b) (x y : List Nat) : lexN (a.key ++ x) (b.key ++ y) = if lexN a.key b.key = 0 then lexN x y else lexN a.key b.key := by
  rw [lexN_append _ _ _ _ (key_prefix ha hb) (fun h => (key_prefix hb ha h).symm)]
  by_cases h : a.key = b.key
  · rw [if_pos h, if_pos (by rw [h]; exact lexN_self _)]
  · rw [if_neg h, if_neg (fun e => h (lexN_zero _ _ e))]
/-- How keys compare, part by part. -/
theorem key_op {a b : RE} (h : a.op ≠ b.op) : lexN a.key b.key = cmpN a.op b.op := by
  cases a; cases b
  rename_i o s ks o' s' ks'
  simp only [RE.op] at h
  simp only [RE.key_mk, lexN, RE.op, cmpN]
  by_cases h1 : o < o'
  · simp [h1]
  · have h2 : o' < o := by omega
    simp [h1, h2]
theorem key_set {a b : RE} (ha : WfK a) (hb : WfK b) (ho : a.op = b.op) (hs : a.set ≠ b.set) : lexN a.key b.key = lexN (rnB (runsOf a.set)) (rnB (runsOf b.set)) := by
  cases ha with
  | mk o s ks h1 h2 h3 h4 =>
  cases hb with
  | mk o' s' ks' k1 k2 k3 k4 =>
    simp only [RE.op, RE.set] at ho hs ⊢
    subst ho
    by_cases e : o = 2
    · obtain ⟨rfl, e1⟩ := h2 e
      obtain ⟨rfl, e2⟩ := k2 e
      simp only [RE.key_mk, lexN, if_pos e]
      simp only [Nat.lt_irrefl, if_false, keysL, List.map_nil, List.flatten_nil, List.nil_append]
      exact runs_lex e1 e2 hs [] []
    · exact absurd ((h3 e).trans (k3 e).symm) hs
theorem key_kids {a b : RE} (ho : a.op = b.op) (hs : a.set = b.set) : lexN a.key b.key = lexN (keysL a.kids ++ [0]) (keysL b.kids ++ [0]) := by
  cases a; cases b
  rename_i o s ks o' s' ks'
  simp only [RE.op, RE.set, RE.kids] at ho hs ⊢
  subst ho hs
  simp only [RE.key_mk, lexN, Nat.lt_irrefl, if_false]
  generalize (if o = 2 then rnB (runsOf s) else []) = p
  induction p with
  | nil => rfl
  | cons x p ih => simp [lexN, ih]
/-- One kid more. -/
theorem keys_cons {a b : RE} (ha : WfK a) (hb : WfK b) (ks ls : List RE) : lexN (keysL (a :: ks) ++ [0]) (keysL (b :: ls) ++ [0]) = if lexN a.key b.key = 0 then lexN (keysL ks ++ [0]) (keysL ls ++ [0]) else lexN a.key b.key := by
  have := key_lex ha hb (keysL ks ++ [0]) (keysL ls ++ [0])
  simpa [keysL] using this
theorem keys_short (a : RE) (ks : List RE) : lexN (keysL (a :: ks) ++ [0]) (keysL [] ++ [0]) = 1 := by
  cases a
  simp [keysL, RE.key_mk, lexN]
theorem keys_long (a : RE) (ks : List RE) : lexN (keysL [] ++ [0]) (keysL (a :: ks) ++ [0]) = -1 := by
  cases a
  simp [keysL, RE.key_mk, lexN]
end Go.Proofs.YthemadegffhmfaaDoor
