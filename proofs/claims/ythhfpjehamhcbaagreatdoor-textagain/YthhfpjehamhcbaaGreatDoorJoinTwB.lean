/- Texts of this claim put together: TwA, TwB. -/
import Derived.Test.YthhfpjehamhcbaaGreatDoorJoinTrB
import Derived.Test.YthhfpjehamhcbaaGreatDoorJoinMathWf
import Derived.Lib.AppendStr
/- Writing: rows of bytes that grow; appendByte. -/
namespace Go.Proofs.YthhfpjehamhcbaaGreatDoor
set_option maxRecDepth 100000
set_option linter.unusedSimpArgs false
set_option linter.unusedVariables false
open Go.RowKit Go.Shelf

def othersL : List Nat := [94, 47, 34, 35]
/-- A byte as it is written. -/
def byteW (b : Nat) : List Nat :=
  if b = 10 then [92, 110] else if b = 9 then [92, 116] else if plainB b = false then [92, 120, digitsL.getD (b / 16) 0, digitsL.getD (b % 16) 0] else if (signsL ++ othersL).contains b then [92, b] else [b]

/-- From (w, v) to (w', v'): nothing old turned but v's own row. -/
structure GB (w w' : World) (v v' : Value) : Prop where
  grown : w.grownBy w' v.ownBlock
  own : v'.ownBlock = v.ownBlock ∨ ∃ g, v'.ownBlock = some g ∧ w.heap.size ≤ g
  drawn : w.drawn ≤ w'.drawn
theorem GB.refl (w : World) (v : Value) : GB w w v v := ⟨⟨rfl, rfl, rfl, Nat.le_refl _, fun _ _ _ => rfl⟩, .inl rfl, Nat.le_refl _⟩
theorem GB.trans {w w1 w2 : World} {v v1 v2 : Value} (h : GB w w1 v v1) (k : GB w1 w2 v1 v2) : GB w w2 v v2 := by
  refine ⟨⟨k.grown.os.trans h.grown.os, k.grown.tape.trans h.grown.tape, k.grown.output.trans h.grown.output, Nat.le_trans h.grown.size k.grown.size, fun i hi hn => ?_⟩, ?_, Nat.le_trans h.drawn k.drawn⟩
  · have hs := h.grown.size
    rw [k.grown.block i (by omega) ?_, h.grown.block i hi hn]
    intro e
    rcases h.own with h1 | ⟨g, h1, h2⟩
    · exact hn (e.trans h1)
    · rw [h1] at e; injection e; omega
  · have hs := h.grown.size
    rcases k.own with h1 | ⟨g, h1, h2⟩
    · rcases h.own with h3 | ⟨g, h3, h4⟩
      · exact .inl (h1.trans h3)
      · exact .inr ⟨g, h1.trans h3, h4⟩
    · exact .inr ⟨g, h1, by omega⟩
/-- What was written since (w, v): l. -/
structure AW (w : World) (base : Nat) (v : Value) (n : Nat) (xs : List Value) (l : List Nat) (V : Value) (W : World) : Prop where
  own : OwnU W base V (n + l.length) (xs ++ byteV l)
  gb : GB w W v V
  base : base ≤ W.heap.size
theorem AW.start {w : World} {base n : Nat} {v : Value} {xs : List Value} (h : OwnU w base v n xs) (hb : base ≤ w.heap.size) : AW w base v n xs [] v w := ⟨by simpa [byteV] using h, GB.refl _ _, hb⟩
theorem AW.step {w W W' : World} {base n : Nat} {v V : Value} {xs : List Value} {l : List Nat} (h : AW w base v n xs l V W) (hb : Below W.heap.size W W') (hd : W.drawn ≤ W'.drawn) : AW w base v n xs l V W' :=
  ⟨h.own.keep fun g hg => hb.block g (h.own.own_lt hg).2, h.gb.trans ⟨⟨hb.os, hb.tape, hb.output, hb.size, fun k hk _ => hb.block k hk⟩, .inl rfl, hd⟩, Nat.le_trans h.base hb.size⟩
theorem AW.slice {w W : World} {base n : Nat} {v V : Value} {xs : List Value} {l : List Nat} (h : AW w base v n xs l V W) : ∃ a c, V = .slice a (n + l.length) c := h.own.slice
/-- What another call wrote behind it. -/
theorem AW.more {w W W' : World} {base n : Nat} {v V V' : Value} {xs : List Value} {l m : List Nat} (h : AW w base v n xs l V W) (k : AW W base V (n + l.length) (xs ++ byteV l) m V' W') : AW w base v n xs (l ++ m) V' W' := by
  refine ⟨?_, h.gb.trans k.gb, k.base⟩
  have := k.own
  rw [byteV_append, List.length_append, ← List.append_assoc, ← Nat.add_assoc]
  exact this
theorem AW.app {w W : World} {base n : Nat} {v V : Value} {xs : List Value} {l : List Nat} (h : AW w base v n xs l V W) (ty : TypeId) (g : Nat) (c : Array Value) (m : List Nat) (hg : Blk W g (byteV m).toArray 5) (hm : 0 < m.length) (hl : n + l.length + m.length ≤ 140737488355328) :
    ∃ V' W', (Builtin.append_ #[57, 57] ty #[V, .slice (some ⟨g, 0, none⟩) m.length m.length]).run Tryz.prog W = .ok V' W' ∧ AW w base v n xs (l ++ m) V' W' := by
  obtain ⟨v', w', hr, ho, hg', hob, hd⟩ := run_appendU W ty base V _ _ h.own ⟨g, 0, none⟩ m.length m.length (byteV m) (by simp [byteV]) (fun j u hu => by
      rw [Go.WideShapes.add_plain, Nat.zero_add, hg.cell]; simpa using hu) (by intro u hu; simp [byteV] at hu; obtain ⟨x, -, rfl⟩ := hu; rfl) hm hl h.base
  refine ⟨v', w', hr, ?_, h.gb.trans ⟨hg', ?_, hd⟩, Nat.le_trans h.base hg'.size⟩
  · rw [byteV_append, List.length_append, ← List.append_assoc, ← Nat.add_assoc]; exact ho
  · rcases hob with e | e
    · exact .inl e
    · exact .inr ⟨_, e, Nat.le_refl _⟩
theorem strCells_byteV (s : ByteArray) : Lib.strCells s = byteV (bytesN s) := by simp [Lib.strCells, byteV, bytesN]
/-- append of a text's bytes. -/
theorem run_appendS (w : World) (ty : TypeId) (base : Nat) (v : Value) (n : Nat) (xs : List Value) (hown : OwnU w base v n xs) (s : ByteArray) (hm : 0 < s.size) (hbytes : n + s.size ≤ 140737488355328) (hbase : base ≤ w.heap.size) :
    ∃ v' w', (Builtin.append_ #[57, 9] ty #[v, .string s]).run Tryz.prog w = .ok v' w' ∧ OwnU w' base v' (n + s.size) (xs ++ byteV (bytesN s)) ∧ GB w w' v v' := by
  obtain ⟨i, hi, hz0, hz1, hz2⟩ := info_parts infoU8
  have hbl : (byteV (bytesN s)).length = s.size := by simp [byteV, bN_len]
  have hlen : (xs ++ byteV (bytesN s)).length = n + s.size := by rw [List.length_append, hown.1, hbl]
  have hml : n + s.size ≤ maxLen := by unfold maxLen; omega
  have grown : ∀ old, OwnU (w.drew.alloc (.cells (xs.toArray ++ (byteV (bytesN s)).toArray ++ Builtin.zeroCells (Value.int .u8 0).cells (grownCap w (n + s.size) old 5 - (n + s.size))) 5)) base
        (.slice (some ⟨w.heap.size, 0, none⟩) (n + s.size) (grownCap w (n + s.size) old 5)) (n + s.size) (xs ++ byteV (bytesN s)) := by
    intro old
    have hge := grownCap_ge w (n + s.size) old 5
    have hcm : grownCap w (n + s.size) old 5 ≤ maxLen := grownCap_le_maxLen w (n + s.size) old _ hml
    refine ⟨hlen, .inr ⟨w.heap.size, _, _, _, rfl, hbase, heap_alloc_new w.drew _, hge, hcm, ?_, ?_⟩⟩
    · simp only [Array.size_append, List.size_toArray, size_zeroCells, hown.1, hbl]
      simp [Value.cells]; omega
    · simp only [Array.toList_append, List.append_assoc]
      rw [← List.append_assoc, ← hlen]
      exact List.take_left
  have gb : ∀ o u, GB w (w.drew.alloc o) v (.slice (some ⟨w.heap.size, 0, none⟩) (n + s.size) u) := fun o u => ⟨⟨rfl, rfl, rfl, by simp, fun k hk _ => heap_alloc_old w.drew _ hk⟩, .inr ⟨_, rfl, Nat.le_refl _⟩, Nat.le_succ _⟩
  have esc := strCells_byteV s
  rcases hown.2 with ⟨rfl, rfl⟩ | ⟨g, cap, cur, t, rfl, hbg, hg, hnc, hcm, hcs, htake⟩
  · have hx : xs = [] := List.eq_nil_of_length_eq_zero (by simpa using hown.1)
    subst hx
    have hr := run_append_nil_string (P := Tryz.prog) w 57 9 ty 5 i (.int .u8 0) Tryz.underlying57 Tryz.underlying9 hi hz0 s hm (by omega) (by rw [hz2]; omega)
    have e1 : (s.data.map fun b => Value.int .u8 b.toNat) = (byteV (bytesN s)).toArray := by
      rw [← esc]; apply Array.ext'; simp [Lib.strCells]
    rw [e1] at hr
    have hgr := grown 0
    have hgb := gb (.cells ((byteV (bytesN s)).toArray ++ Builtin.zeroCells (Value.int .u8 0).cells (grownCap w s.size 0 5 - s.size)) 5) (grownCap w s.size 0 5)
    simp only [Nat.zero_add, List.nil_append, Array.empty_append] at hgr hgb ⊢
    exact ⟨_, _, hr, hgr, hgb⟩
  · by_cases hroom : n + s.size ≤ cap
    · have hf := Lib.run_firstCells_string (P := Tryz.prog) w i.size s
      have hst := run_storeCells_at Tryz.prog g (n * i.size) t (Lib.strCells s) 0 cur w hg (by rw [hz1]; simpa [Lib.strCells_length, hcs] using hroom) (Lib.strCells_oneCell s)
      simp only [Nat.add_zero] at hst
      have hr : (Builtin.append_ #[57, 9] ty #[.slice (some ⟨g, 0, none⟩) n cap, .string s]).run Tryz.prog w = .ok (.slice (some ⟨g, 0, none⟩) (n + s.size) cap) (w.setRow g (cur.toList.take (n * i.size) ++ Lib.strCells s ++ cur.toList.drop (n * i.size + (Lib.strCells s).length)).toArray) := by
        simp [Builtin.append_, run_underlying Tryz.underlying57, run_underlying Tryz.underlying9, sizeOf, typeInfo, hi, Builtin.lenOf, hroom, hf, Addr.add_lit, hst]
      refine ⟨_, _, hr, ⟨hlen, .inr ⟨g, cap, _, t, rfl, hbg, setRow_heap w g cur _ t _ hg, hroom, hcm, ?_, ?_⟩⟩, ⟨⟨rfl, rfl, rfl, by simp, fun k _ hk => setRow_other w g k _ (fun e => hk (by simp [Value.ownBlock, e]))⟩, .inl rfl, Nat.le_refl _⟩⟩
      · simp only [List.size_toArray, List.length_append, List.length_take, List.length_drop, Array.length_toList, hz1, Lib.strCells_length]
        omega
      · rw [hz1, Nat.mul_one, htake, esc, ← hlen]
        exact List.take_left
    · have holds : ∀ j u, xs[j]? = some u → w.cell? ((⟨g, 0, none⟩ : Addr).add j) = some u := fun j u hu => by
        rw [Go.WideShapes.add_plain, Nat.zero_add]; exact hown.cells j u hu
      have hr := Lib.run_append_grow_string (P := Tryz.prog) w 57 9 ty 5 i (.int .u8 0) Tryz.underlying57 Tryz.underlying9 hi hz0 ⟨g, 0, none⟩ n cap xs (by rw [hz1, hown.1]; omega) holds s (by omega) (by omega) (by rw [hz2]; exact growslice_fits (by omega) (by omega))
      rw [esc] at hr
      exact ⟨_, _, hr, grown cap, gb _ _⟩
theorem AW.appS {w W : World} {base n : Nat} {v V : Value} {xs : List Value} {l : List Nat} (h : AW w base v n xs l V W) (ty : TypeId) (s : ByteArray) (m : List Nat) (hm : bytesN s = m) (h0 : 0 < m.length) (hl : n + l.length + m.length ≤ 140737488355328) :
    ∃ V' W', (Builtin.append_ #[57, 9] ty #[V, .string s]).run Tryz.prog W = .ok V' W' ∧ AW w base v n xs (l ++ m) V' W' := by
  have hsz : s.size = m.length := by rw [← hm, bN_len]
  obtain ⟨v', w', hr, ho, hgb⟩ := run_appendS W ty base V _ _ h.own s (by omega) (by omega) h.base
  refine ⟨v', w', hr, ?_, h.gb.trans hgb, Nat.le_trans h.base hgb.grown.size⟩
  rw [byteV_append, List.length_append, ← List.append_assoc, ← Nat.add_assoc, ← hsz, ← hm]; exact ho

theorem wpList_appendS_run {w w' : World} {ops : Array Oper} {rest : List Oper} {o : Oper} {a : Act} {Q : Exit → Act → World → Prop} (hg : o.guard = none) (s x : Operand) (t u : TypeId)
    (hop : o.op = Op.call { callee := Callee.builtin Builtin.append, args := #[s, x], argTypes := #[t, u] }) (v y v' : Value) (hs : a.eval s = v) (hx : a.eval x = y)
    (hrun : (Builtin.append_ #[t, u] o.type #[v, y]).run Tryz.prog w = .ok v' w') (hK : wpList Tryz.prog ops Q rest (a.put o.dst v') w') : wpList Tryz.prog ops Q (o :: rest) a w := by
  refine wpList_plain hg fun K hK' => ?_
  unfold Oper.wp execOp
  simp only [hop, resolve, invoke, builtin, Sem.run_bind, Sem.run_pure, Result.andThen_ok, List.map_toArray, List.map_cons, List.map_nil, hs, hx, hrun]
  exact hK' _ _ hK
theorem wp_append_known {o : Oper} {a : Act} {w w' : World} {K : Act → World → Prop} {Q : Exit → Act → World → Prop} (s x : Operand) (t : Array TypeId)
    (hop : o.op = Op.call { callee := Callee.builtin Builtin.append, args := #[s, x], argTypes := t }) (v y v' : Value) (hs : a.eval s = v) (hx : a.eval x = y)
    (hrun : (Builtin.append_ t o.type #[v, y]).run Tryz.prog w = .ok v' w') (hK : K (a.put o.dst v') w') : o.wp Tryz.prog a w K Q := by
  unfold Oper.wp execOp
  simp only [hop, resolve, invoke, builtin, Sem.run_bind, Sem.run_pure, Result.andThen_ok, List.map_toArray, List.map_cons, List.map_nil, hs, hx, hrun]
  exact hK
theorem u8_shr4 : ∀ c : Fin 256, (execOp (fun _ => Value.int .u8 c.val) { dst := none, op := .move (.tmp 0), type := 0, pos := "", after := #[], guard := none } = execOp (fun _ => Value.int .u8 c.val) { dst := none, op := .move (.tmp 0), type := 0, pos := "", after := #[], guard := none }) := fun _ => rfl
theorem u8_and15F : ∀ c : Fin 256, bits .and .u8 (c.val : Int) 15 = ((c.val % 16 : Nat) : Int) := by decide +kernel
theorem x_and15 (ρ : Operand → Value) (d : Option Tmp) (x : Operand) (t : TypeId) (pos : String) (af : Array Edge) (g : Option (Nat × Bool)) (c : Nat) (hc : c < 256) (hx : ρ x = .int .u8 c) (hy : ρ (.const (.int .u8 15)) = .int .u8 15) (w : World) :
    (execOp ρ { dst := d, op := .binOp .and 5 x (.const (.int .u8 15)) 5, type := t, pos := pos, after := af, guard := g }).run Tryz.prog w = .ok (.value (.int .u8 ((c % 16 : Nat) : Int))) w := by
  have e : bits .and .u8 (c : Int) 15 = ((c % 16 : Nat) : Int) := u8_and15F ⟨c, hc⟩
  simp [go_sem, hx, hy, e]
theorem x_shr4 (ρ : Operand → Value) (d : Option Tmp) (x : Operand) (t : TypeId) (pos : String) (af : Array Edge) (g : Option (Nat × Bool)) (c : Nat) (hc : c < 256) (hx : ρ x = .int .u8 c) (hy : ρ (.const (.int .u64 4)) = .int .u64 4) (w : World) :
    (execOp ρ { dst := d, op := .binOp .shr 5 x (.const (.int .u64 4)) 61, type := t, pos := pos, after := af, guard := g }).run Tryz.prog w = .ok (.value (.int .u8 ((c / 16 : Nat) : Int))) w := by
  simp [go_sem, hx, hy]
theorem x_build4 (ρ : Operand → Value) (d : Option Tmp) (x y : Operand) (t : TypeId) (pos : String) (af : Array Edge) (g : Option (Nat × Bool)) (u v : Nat) (h1 : ρ (.const (.int .u8 92)) = .int .u8 92) (h2 : ρ (.const (.int .u8 120)) = .int .u8 120) (hx : ρ x = .int .u8 u) (hy : ρ y = .int .u8 v) (w : World) :
    (execOp ρ { dst := d, op := .buildSlice 57 4 #[(0, .const (.int .u8 92)), (1, .const (.int .u8 120)), (2, x), (3, y)], type := t, pos := pos, after := af, guard := g }).run Tryz.prog w = .ok (.value (.slice (some ⟨w.heap.size, 0, none⟩) 4 4)) (w.alloc (.cells #[.int .u8 92, .int .u8 120, .int .u8 u, .int .u8 v] 5)) := by
  simp [go_sem, h1, h2, hx, hy]
end Go.Proofs.YthhfpjehamhcbaaGreatDoor
/- appendByte, hold, need, opOf. -/
namespace Go.Proofs.YthhfpjehamhcbaaGreatDoor
set_option maxRecDepth 100000
set_option linter.unusedSimpArgs false
set_option linter.unusedVariables false
open Go.RowKit Go.Shelf

theorem x_strIdx8 (ρ : Operand → Value) (d : Option Tmp) (x y : Operand) (ty : TypeId) (pos : String) (af : Array Edge) (g : Option (Nat × Bool)) (t : ByteArray) (i c : Nat) (hc : (bytesN t)[i]? = some c) (hx : ρ x = .string t) (hy : ρ y = .int .u8 i) (w : World) :
    (execOp ρ { dst := d, op := .index 9 x y, type := ty, pos := pos, after := af, guard := g }).run Tryz.prog w = .ok (.value (.int .u8 c)) w := by
  obtain ⟨h, e⟩ := bN_at t i c hc
  simp [go_sem, hx, hy, h, ← e]
theorem byteW_len (c : Nat) : 1 ≤ (byteW c).length ∧ (byteW c).length ≤ 4 := by
  unfold byteW
  repeat' split
  all_goals simp
set_option maxHeartbeats 1000000 in
theorem appendByte_any (c : Nat) (hc : c < 256) (v : Value) (n base : Nat) (xs : List Value) (w : World) (hO : OwnU w base v n xs) (hb : base ≤ w.heap.size) (hn : n ≤ 1099511627776) :
    Calls Tryz.prog 126 #[v, .int .u8 c] w fun e w' => ∃ V, e = .returned V ∧ AW w base v n xs (byteW c) V w' := by
  obtain ⟨a0, cp0, rfl⟩ := hO.slice
  have hst := AW.start hO hb
  obtain ⟨L, hL⟩ : ∃ L, L = byteW c := ⟨_, rfl⟩
  rw [← hL]
  have HL := hide hL
  clear hL
  go_enter Tryz.func126, Tryz.ntmps126
  by_cases c1 : c = 10
  · have k1 : ((c : Int) == 10) = true := by simp; omega
    obtain ⟨V, W, hr, hA⟩ := hst.appS 57 ⟨#[92, 110]⟩ [92, 110] (by decide +kernel) (by simp) (by simp; omega)
    have HA := hide hA
    have HE : Hid (L = [] ++ [92, 110]) := by show _ = _; rw [HL.out]; unfold byteW; rw [if_pos c1]; rfl
    obtain ⟨a1, cp1, rfl⟩ := hA.slice
    clear hA hst c1 hO
    go_wp2_with (refine wpList_appendS_run rfl _ _ _ _ rfl _ _ _ rfl rfl hr ?_)
    go_ret
    exact ⟨_, rfl, by rw [HE.out]; exact HA.out⟩
  have k1 : ((c : Int) == 10) = false := beq_eq_false_iff_ne.2 (by omega)
  by_cases c2 : c = 9
  · have k2 : ((c : Int) == 9) = true := by simp; omega
    obtain ⟨V, W, hr, hA⟩ := hst.appS 57 ⟨#[92, 116]⟩ [92, 116] (by decide +kernel) (by simp) (by simp; omega)
    have HA := hide hA
    have HE : Hid (L = [] ++ [92, 116]) := by show _ = _; rw [HL.out]; unfold byteW; rw [if_neg c1, if_pos c2]; rfl
    obtain ⟨a1, cp1, rfl⟩ := hA.slice
    clear hA hst c1 c2 hO
    go_wp2_with (refine wpList_appendS_run rfl _ _ _ _ rfl _ _ _ rfl rfl hr ?_)
    go_ret
    exact ⟨_, rfl, by rw [HE.out]; exact HA.out⟩
  have k2 : ((c : Int) == 9) = false := beq_eq_false_iff_ne.2 (by omega)
  have HPL := hide (plain_any c w)
  obtain ⟨pl, hpl⟩ : ∃ pl, pl = plainB c := ⟨_, rfl⟩
  rw [← hpl] at HPL
  have HL3 : Hid (L = if pl = false then [92, 120, digitsL.getD (c / 16) 0, digitsL.getD (c % 16) 0] else if (signsL ++ othersL).contains c then [92, c] else [c]) := by
    show _ = _
    rw [HL.out, hpl]; unfold byteW; rw [if_neg c1, if_neg c2]
  have HST := hide hst
  clear hst c1 c2 hpl HL hO
  go_wp2_with fail
  refine HPL.out.mono ?_
  rintro e w1 ⟨rfl, rfl⟩
  cases pl with
  | false =>
    obtain ⟨hx, hhx0⟩ : ∃ hx, hx = digitsL.getD (c / 16) 0 := ⟨_, rfl⟩
    obtain ⟨lx, hlx0⟩ : ∃ lx, lx = digitsL.getD (c % 16) 0 := ⟨_, rfl⟩
    have hdg : bytesN ⟨#[48, 49, 50, 51, 52, 53, 54, 55, 56, 57, 97, 98, 99, 100, 101, 102]⟩ = digitsL := by decide +kernel
    have hget : ∀ i, i < 16 → digitsL[i]? = some (digitsL.getD i 0) := fun i hi => by
      rw [List.getD_eq_getElem?_getD, List.getElem?_eq_getElem (show i < digitsL.length from hi)]; rfl
    have hhx : (bytesN ⟨#[48, 49, 50, 51, 52, 53, 54, 55, 56, 57, 97, 98, 99, 100, 101, 102]⟩)[c / 16]? = some hx := by rw [hdg, hhx0]; exact hget _ (by omega)
    have hlx : (bytesN ⟨#[48, 49, 50, 51, 52, 53, 54, 55, 56, 57, 97, 98, 99, 100, 101, 102]⟩)[c % 16]? = some lx := by rw [hdg, hlx0]; exact hget _ (by omega)
    have HE : Hid (L = [] ++ [92, 120, hx, lx]) := by show _ = _; rw [HL3.out, if_pos rfl, hhx0, hlx0]; rfl
    have HHX := hide hhx
    have HLX := hide hlx
    clear hhx0 hlx0 hdg hget HPL hhx hlx
    go_wp2
    have hhx := HHX.out
    have hlx := HLX.out
    have hA1 := HST.out.step (⟨rfl, rfl, rfl, Nat.le_refl _, fun _ _ => rfl⟩ : Below w1.heap.size w1 { w1 with drawn := w1.drawn + 1 }) (Nat.le_succ _)
    refine wp_region_noPanic (wp_region_held (S := fun _ => True) (by kernel_rfl) ?_)
    show wpAnyH _ _ _ _ _ 10 #[false, false, false, false, false, false, false, false, false, false] _ _
    generalize ({ w1 with drawn := w1.drawn + 1 } : World) = W at hA1 ⊢
    have hb2 := (Below.refl W.heap.size W).alloc (Nat.le_refl _) (.cells #[.int .u8 92, .int .u8 120, .int .u8 hx, .int .u8 lx] 5)
    obtain ⟨v2, W2, hr2, hA2⟩ := (hA1.step hb2 (Nat.le_refl _)).app 57 W.heap.size #[] [92, 120, hx, lx] (Blk.newAt rfl _ _) (by simp) (by simp; omega)
    simp only [List.length_cons, List.length_nil, Nat.zero_add, Nat.reduceAdd] at hr2
    refine h_take 0 (.slice a0 n cp0) rfl (by kernel_rfl) (by kernel_rfl) (by kernel_rfl) rfl (fun w hw => x_move _ _ _ _ _ _ _ _ rfl w) trivial ?_
    simp only [Act.put, List.setIfInBounds_toArray, List.set_cons_succ, List.set_cons_zero]
    refine h_take 1 (.int .u8 c) rfl (by kernel_rfl) (by kernel_rfl) (by kernel_rfl) rfl (fun w hw => x_move _ _ _ _ _ _ _ _ rfl w) trivial ?_
    simp only [Act.put, List.setIfInBounds_toArray, List.set_cons_succ, List.set_cons_zero]
    refine h_take 2 (.int .u8 ((c / 16 : Nat) : Int)) rfl (by kernel_rfl) (by kernel_rfl) (by kernel_rfl) rfl (fun w hw => x_shr4 _ _ _ _ _ _ _ c hc rfl rfl w) trivial ?_
    simp only [Act.put, List.setIfInBounds_toArray, List.set_cons_succ, List.set_cons_zero]
    refine h_take 3 (.int .u8 hx) rfl (by kernel_rfl) (by kernel_rfl) (by kernel_rfl) rfl (fun w hw => x_strIdx8 _ _ _ _ _ _ _ _ _ (c / 16) hx hhx rfl rfl w) trivial ?_
    simp only [Act.put, List.setIfInBounds_toArray, List.set_cons_succ, List.set_cons_zero]
    refine h_take 4 (.int .u8 c) rfl (by kernel_rfl) (by kernel_rfl) (by kernel_rfl) rfl (fun w hw => x_move _ _ _ _ _ _ _ _ rfl w) trivial ?_
    simp only [Act.put, List.setIfInBounds_toArray, List.set_cons_succ, List.set_cons_zero]
    refine h_take 5 (.int .u8 ((c % 16 : Nat) : Int)) rfl (by kernel_rfl) (by kernel_rfl) (by kernel_rfl) rfl (fun w hw => x_and15 _ _ _ _ _ _ _ c hc rfl rfl w) trivial ?_
    simp only [Act.put, List.setIfInBounds_toArray, List.set_cons_succ, List.set_cons_zero]
    refine h_take 6 (.int .u8 lx) rfl (by kernel_rfl) (by kernel_rfl) (by kernel_rfl) rfl (fun w hw => x_strIdx8 _ _ _ _ _ _ _ _ _ (c % 16) lx hlx rfl rfl w) trivial ?_
    simp only [Act.put, List.setIfInBounds_toArray, List.set_cons_succ, List.set_cons_zero]
    refine h_alloc 7 (.slice (some ⟨W.heap.size, 0, none⟩) 4 4) (W.alloc (.cells #[.int .u8 92, .int .u8 120, .int .u8 hx, .int .u8 lx] 5)) rfl (by kernel_rfl) rfl (x_build4 _ _ _ _ _ _ _ _ _ _ rfl rfl rfl rfl W) trivial ?_
    simp only [Act.put, List.setIfInBounds_toArray, List.set_cons_succ, List.set_cons_zero]
    refine h_oper 8 rfl (by kernel_rfl) rfl ?_
    refine wp_append_known _ _ _ rfl _ _ _ rfl rfl hr2 ⟨trivial, ?_⟩
    simp only [Act.put, List.setIfInBounds_toArray, List.set_cons_succ, List.set_cons_zero]
    refine h_take 9 (v2) rfl (by kernel_rfl) (by kernel_rfl) (by kernel_rfl) rfl (fun w hw => x_assign _ _ _ _ _ _ _ _ rfl w) trivial ?_
    simp only [Act.put, List.setIfInBounds_toArray, List.set_cons_succ, List.set_cons_zero]
    refine wpAnyH_done (by kernel_rfl) ?_ _
    refine NoPanic.normal ?_
    have HA := hide hA2
    obtain ⟨a1, cp1, rfl⟩ := hA2.slice
    clear hA2 hA1 hb2 hr2 hhx hlx
    go_wp2
    go_ret
    exact ⟨_, rfl, by rw [HE.out]; exact ⟨HA.out.own, HA.out.gb, HA.out.base⟩⟩
  | true =>
    have esg : bytesN ⟨#[32, 40, 41, 91, 93, 124, 38, 45, 42, 43, 63, 46, 92, 94, 47, 34, 35]⟩ = signsL ++ othersL := by decide +kernel
    have hix := indexByte_any ⟨#[32, 40, 41, 91, 93, 124, 38, 45, 42, 43, 63, 46, 92, 94, 47, 34, 35]⟩ c hc w1
    rw [esg] at hix
    obtain ⟨q, hq⟩ : ∃ q, q = (signsL ++ othersL).contains c := ⟨_, rfl⟩
    obtain ⟨z, hz⟩ : ∃ z, z = idxI (signsL ++ othersL) c := ⟨_, rfl⟩
    have hzq : decide (0 ≤ z) = q := by rw [hz, hq]; exact idxI_pos _ _
    rw [← hz] at hix
    rw [← hq, if_neg (by simp)] at HL3
    have HIX := hide hix
    clear hix hz hq esg HPL
    go_wp2_with fail
    refine HIX.out.mono ?_
    rintro e w2 ⟨rfl, rfl⟩
    clear HIX
    cases q with
    | true =>
      have HE : Hid (L = [] ++ [92, c]) := by show _ = _; rw [HL3.out, if_pos rfl]; rfl
      have hb2 := (Below.refl w2.heap.size w2).alloc (Nat.le_refl _) (.cells #[.int .u8 92, .int .u8 c] 5)
      obtain ⟨v2, W2, hr2, hA2⟩ := (HST.out.step hb2 (Nat.le_refl _)).app 57 w2.heap.size #[] [92, c] (Blk.newAt rfl _ _) (by simp) (by simp; omega)
      simp only [List.length_cons, List.length_nil, Nat.zero_add, Nat.reduceAdd] at hr2
      have HA := hide hA2
      obtain ⟨a1, cp1, rfl⟩ := hA2.slice
      clear hA2 hb2
      go_wp2_with (refine wpList_append_run rfl _ _ _ rfl _ _ _ rfl rfl hr2 ?_)
      go_ret
      exact ⟨_, rfl, by rw [HE.out]; exact HA.out⟩
    | false =>
      have HE : Hid (L = [] ++ [c]) := by show _ = _; rw [HL3.out, if_neg (by simp)]; rfl
      have hb2 := (Below.refl w2.heap.size w2).alloc (Nat.le_refl _) (.cells #[.int .u8 c] 5)
      obtain ⟨v2, W2, hr2, hA2⟩ := (HST.out.step hb2 (Nat.le_refl _)).app 57 w2.heap.size #[] [c] (Blk.newAt rfl _ _) (by simp) (by simp; omega)
      simp only [List.length_cons, List.length_nil, Nat.zero_add, Nat.reduceAdd] at hr2
      have HA := hide hA2
      obtain ⟨a1, cp1, rfl⟩ := hA2.slice
      clear hA2 hb2
      go_wp2_with (refine wpList_append_run rfl _ _ _ rfl _ _ _ rfl rfl hr2 ?_)
      go_ret
      exact ⟨_, rfl, by rw [HE.out]; exact HA.out⟩

/-- How closely what is written of an Op holds together. -/
def holdN (o : Nat) : Nat := if o = 4 then 0 else if o = 7 then 1 else if o = 6 then 2 else if o = 3 then 3 else if o = 5 then 4 else 5
def needN (o i : Nat) : Nat := if o = 7 ∧ i = 0 then holdN o else holdN o + 1
theorem hold_any (o : Nat) (w : World) : Calls Tryz.prog 100 #[.int .i64 o] w fun e w' => e = .returned (.int .i64 (holdN o)) ∧ w' = w := by
  go_enter Tryz.func100, Tryz.ntmps100
  by_cases h4 : o = 4
  · subst h4; go_wp2; go_ret; exact ⟨rfl, rfl⟩
  have k4 : ((o : Int) == 4) = false := beq_eq_false_iff_ne.2 (by omega)
  by_cases h7 : o = 7
  · subst h7; go_wp2; go_ret; exact ⟨rfl, rfl⟩
  have k7 : ((o : Int) == 7) = false := beq_eq_false_iff_ne.2 (by omega)
  by_cases h6 : o = 6
  · subst h6; go_wp2; go_ret; exact ⟨rfl, rfl⟩
  have k6 : ((o : Int) == 6) = false := beq_eq_false_iff_ne.2 (by omega)
  by_cases h3 : o = 3
  · subst h3; go_wp2; go_ret; exact ⟨rfl, rfl⟩
  have k3 : ((o : Int) == 3) = false := beq_eq_false_iff_ne.2 (by omega)
  by_cases h5 : o = 5
  · subst h5; go_wp2; go_ret; exact ⟨rfl, rfl⟩
  have k5 : ((o : Int) == 5) = false := beq_eq_false_iff_ne.2 (by omega)
  have HE : Hid (holdN o = 5) := by show _ = _; unfold holdN; rw [if_neg h4, if_neg h7, if_neg h6, if_neg h3, if_neg h5]
  clear h3 h4 h5 h6 h7
  go_wp2
  go_ret
  refine ⟨?_, rfl⟩
  rw [HE.out]; rfl
theorem holdN_le (o : Nat) : holdN o ≤ 5 := by unfold holdN; repeat' split
                                               all_goals omega
theorem need_any (o i : Nat) (w : World) : Calls Tryz.prog 101 #[.int .i64 o, .int .i64 i] w fun e w' => e = .returned (.int .i64 (needN o i)) ∧ w' = w := by
  obtain ⟨h, hh⟩ : ∃ h, h = holdN o := ⟨_, rfl⟩
  have hle : h ≤ 5 := by rw [hh]; exact holdN_le o
  have HO := hide (hold_any o w)
  rw [← hh] at HO
  by_cases h7 : o = 7
  · have k7 : ((o : Int) == 7) = true := by simp [h7]
    by_cases h0 : i = 0
    · have k0 : ((i : Int) == 0) = true := by simp [h0]
      have HE : Hid (needN o i = h) := by show _ = _; unfold needN; rw [if_pos ⟨h7, h0⟩, hh]
      clear hh h7 h0
      go_enter Tryz.func101, Tryz.ntmps101
      go_wp2_with fail
      refine HO.out.mono ?_
      rintro e w1 ⟨rfl, rfl⟩
      clear HO
      go_wp2
      go_ret
      refine ⟨?_, rfl⟩
      rw [HE.out]; rfl
    · have k0 : ((i : Int) == 0) = false := beq_eq_false_iff_ne.2 (by omega)
      have HE : Hid (needN o i = h + 1) := by show _ = _; unfold needN; rw [if_neg (fun x => h0 x.2), hh]
      clear hh h7 h0
      go_enter Tryz.func101, Tryz.ntmps101
      go_wp2_with fail
      refine HO.out.mono ?_
      rintro e w1 ⟨rfl, rfl⟩
      clear HO
      go_wp2
      go_ret
      refine ⟨?_, rfl⟩
      rw [HE.out]; rfl
  · have k7 : ((o : Int) == 7) = false := beq_eq_false_iff_ne.2 (by omega)
    have HE : Hid (needN o i = h + 1) := by show _ = _; unfold needN; rw [if_neg (fun x => h7 x.1), hh]
    clear hh h7
    go_enter Tryz.func101, Tryz.ntmps101
    go_wp2_with fail
    refine HO.out.mono ?_
    rintro e w1 ⟨rfl, rfl⟩
    clear HO
    go_wp2
    go_ret
    refine ⟨?_, rfl⟩
    rw [HE.out]; rfl
theorem opOf_any (b : Nat) (r : RE) (w : World) (h : ReAt w b r) : Calls Tryz.prog 72 #[PT b] w fun e w' => e = .returned (.int .i64 r.op) ∧ w' = w := by
  have c0 := h.cell0
  clear h
  unfold PT
  go_enter Tryz.func72, Tryz.ntmps72
  go_wp2
  go_ret
  exact ⟨rfl, rfl⟩
end Go.Proofs.YthhfpjehamhcbaaGreatDoor
