/- Texts of this claim put together: TmA, WdA, LwA. -/
import Derived.Test.YtblpekljiilkjaaGreatDoorJoinStrL
import Derived.Test.YtblpekljiilkjaaGreatDoorJoinTwB
/- Terms of the lens language: trees, how they lie in memory, and their texts by the page. -/
namespace Go.Proofs.YtblpekljiilkjaaGreatDoor
set_option maxRecDepth 100000
set_option linter.unusedSimpArgs false
set_option linter.unusedVariables false
open Go.RowKit Go.Shelf

/-- An int as the machine holds it. -/
def I64 (o : Int) : Prop := -9223372036854775808 ≤ o ∧ o ≤ 9223372036854775807
inductive TM : Type where
  | mk (op : Nat) (name text back : ByteArray) (re : Option RE) (kids : List TM) : TM
def TM.op : TM → Nat | .mk o _ _ _ _ _ => o
def TM.name : TM → ByteArray | .mk _ n _ _ _ _ => n
def TM.text : TM → ByteArray | .mk _ _ t _ _ _ => t
def TM.back : TM → ByteArray | .mk _ _ _ b _ _ => b
def TM.re : TM → Option RE | .mk _ _ _ _ r _ => r
def TM.kids : TM → List TM | .mk _ _ _ _ _ ks => ks
theorem TM.ind {P : TM → Prop} (h : ∀ o n t b r ks, (∀ k ∈ ks, P k) → P (.mk o n t b r ks)) (s : TM) : P s := by
  cases s with
  | mk o n t b r ks => exact h o n t b r ks fun k hk => TM.ind h k
termination_by SizeOf.sizeOf s
decreasing_by
  have := List.sizeOf_lt_of_mem hk
  simp; omega

/-- A text quoted. -/
def quoteT (s : ByteArray) : List Nat := [34] ++ (bytesN s).flatMap byteW ++ [34]
/-- An expression between two slashes; [] of none. -/
def reT : Option RE → List Nat
  | none => [91, 93]
  | some r => r.txt
def argT (r : Option RE) : List Nat := [47] ++ reT r ++ [47]
/-- Each op's word. -/
def wordT (o : Nat) : List Nat :=
  if o = 2 then [99, 111, 112, 121] else if o = 3 then [107, 101, 121] else if o = 4 then [99, 111, 110, 115, 116] else if o = 5 then [100, 101, 108] else if o = 6 then [105, 110, 115]
  else if o = 10 then [115, 119, 97, 112] else if o = 12 then [105, 110, 118] else if o = 13 then [100, 105, 99, 116] else if o = 14 then [108, 101, 102, 116] else if o = 15 then [114, 105, 103, 104, 116]
  else if o = 16 then [107, 101, 101, 112] else if o = 17 then [110, 111, 114, 109] else []
/-- How closely what is written of a term holds. -/
def levT (o : Nat) : Nat := if o = 7 then 0 else if o = 8 then 1 else if o = 11 then 2 else if o = 9 then 3 else 4
/-- How closely kid i must hold. -/
def mustT (o i : Nat) : Nat := if o = 7 ∨ o = 8 ∨ o = 11 then levT o + min i 1 else if o = 9 then 3 else 0
/-- A kid, in parentheses, if it must. -/
def inT (lv m : Nat) (t : List Nat) : List Nat := if lv < m then [40] ++ t ++ [41] else t
/-- Kids, from number i on. -/
def tkT (o : Nat) (sep : List Nat) : Nat → List (Nat × List Nat) → List Nat
  | _, [] => []
  | i, x :: r => (if 0 < i then sep else []) ++ inT (levT x.1) (mustT o i) x.2 ++ tkT o sep (i + 1) r
/-- What stands between kids. -/
def tsep (o : Nat) : List Nat := if o = 7 then [32, 124, 32] else if o = 8 then [32, 46, 32] else if o = 11 then [32, 59, 32] else [44, 32]
def leafT (o : Nat) (n t b : ByteArray) (r : Option RE) : List Nat :=
  wordT o ++ (if o = 3 then [32] ++ bytesN n else []) ++ (if o = 6 then [] else [32] ++ argT r) ++ (if o = 4 ∨ o = 6 ∨ o = 17 then [32] ++ quoteT t else []) ++ (if o = 4 ∨ o = 5 then [32] ++ quoteT b else [])
/-- A leaf: an op that has no kids. -/
def leafO (o : Nat) : Bool := o == 2 || o == 3 || o == 4 || o == 5 || o == 6 || o == 16 || o == 17
/-- An op whose kids stand in a row. -/
def rowO (o : Nat) : Bool := o == 7 || o == 8 || o == 11
def tmT (o : Nat) (n t b : ByteArray) (r : Option RE) (ks : List (Nat × List Nat)) : List Nat :=
  if leafO o then leafT o n t b r else if rowO o then tkT o (tsep o) 0 ks else if o = 9 then tkT 9 [] 0 ks ++ [42] else wordT o ++ [40] ++ tkT o (tsep o) 0 ks ++ [41]
/-- A term as it is written. -/
def TM.txt : TM → List Nat
  | .mk o n t b r ks => tmT o n t b r (ks.map fun k => (k.op, k.txt))
def tkL (ks : List TM) : List (Nat × List Nat) := ks.map fun k => (k.op, k.txt)
theorem TM.txt_mk (o : Nat) (n t b : ByteArray) (r : Option RE) (ks : List TM) : (TM.mk o n t b r ks).txt = tmT o n t b r (tkL ks) := by rw [TM.txt]; rfl
theorem tkT_append (o : Nat) (sep : List Nat) (a b : List (Nat × List Nat)) (i : Nat) : tkT o sep i (a ++ b) = tkT o sep i a ++ tkT o sep (i + a.length) b := by
  induction a generalizing i with
  | nil => simp [tkT]
  | cons x a ih =>
    rw [List.cons_append]
    simp only [tkT]
    rw [ih, List.length_cons, show i + 1 + a.length = i + (a.length + 1) from by omega]; simp only [List.append_assoc]
theorem tkT_take (o : Nat) (sep : List Nat) (ks : List TM) (k : Nat) (h : k < ks.length) : tkT o sep 0 (tkL (ks.take (k + 1))) = tkT o sep 0 (tkL (ks.take k)) ++ ((if 0 < k then sep else []) ++ inT (levT (ks[k]).op) (mustT o k) (ks[k]).txt) := by
  unfold tkL
  rw [List.take_succ_eq_append_getElem h, List.map_append, tkT_append]
  congr 1
  simp [tkT, List.length_take, Nat.min_eq_left (Nat.le_of_lt h)]
theorem tkT_le (o : Nat) (sep : List Nat) (ks : List TM) (k : Nat) : (tkT o sep 0 (tkL (ks.take k))).length ≤ (tkT o sep 0 (tkL ks)).length := by
  have : tkL ks = tkL (ks.take k) ++ tkL (ks.drop k) := by unfold tkL; rw [← List.map_append, List.take_append_drop]
  rw [this, tkT_append, List.length_append]; omega

/-- Terms as P10.1 makes them, but names and expressions: so many kids, an expression where there is one, texts that fit. -/
def kidsO (o : Nat) : Nat := if o = 7 ∨ o = 8 ∨ o = 10 ∨ o = 11 ∨ o = 14 ∨ o = 15 then 2 else if o = 9 ∨ o = 12 ∨ o = 13 then 1 else 0
inductive WfT : TM → Prop where
  | mk (o : Nat) (n t b : ByteArray) (r : Option RE) (ks : List TM) (ho : 2 ≤ o ∧ o ≤ 17) (hn : n.size ≤ 1000000) (ht : t.size ≤ 1000000) (hb : b.size ≤ 1000000) (hr : ∀ q, r = some q → Wf q ∧ q.txt.length ≤ 1000000) (hl : ks.length = kidsO o) (hk : ∀ k ∈ ks, WfT k) : WfT (.mk o n t b r ks)

/-- A pointer to an expression, or none. -/
def RpAt (w : World) (v : Value) : Option RE → Prop
  | none => v = .pointer none
  | some r => ∃ p, v = PT p ∧ ReAt w p r
theorem RpAt.keep {w w' : World} {v : Value} {r : Option RE} (h : RpAt w v r) (hb : Below w.heap.size w w') : RpAt w' v r := by
  cases r with
  | none => exact h
  | some r => obtain ⟨p, e, h⟩ := h; exact ⟨p, e, h.keep hb⟩
/-- The cells of a term. -/
def tmC (o : Nat) (at' : Int) (n t b : ByteArray) (rp v : Value) : Array Value := #[.int .i64 o, .int .i64 at', .string n, rp, .string t, .string b, v]
inductive TmAt (w : World) : Nat → TM → Prop where
  | mk (b o : Nat) (at' : Int) (n t k : ByteArray) (r : Option RE) (ks : List TM) (rp v : Value) (bs : Nat → Nat) (blk : Blk w b (tmC o at' n t k rp v) 38) (hr : RpAt w rp r)
      (row : PtrRow w v bs ks.length) (kid : ∀ i x, ks[i]? = some x → TmAt w (bs i) x) : TmAt w b (.mk o n t k r ks)
theorem TmAt.keep {w w' : World} {b : Nat} {r : TM} (h : TmAt w b r) (hb : Below w.heap.size w w') : TmAt w' b r := by
  induction h with
  | mk b o at' n t k r ks rp v bs blk hr row kid ih => exact .mk b o at' n t k r ks rp v bs (blk.below hb blk.lt) (hr.keep hb) (row.below hb) ih
/-- A slice of terms. -/
def TmRow (w : World) (v : Value) (l : List TM) : Prop := ∃ bs, PtrRow w v bs l.length ∧ ∀ i k, l[i]? = some k → TmAt w (bs i) k
theorem TmRow.below {w w' : World} {v : Value} {l : List TM} (h : TmRow w v l) (hb : Below w.heap.size w w') : TmRow w' v l := by
  obtain ⟨bs, h1, h2⟩ := h
  exact ⟨bs, h1.below hb, fun i k hk => (h2 i k hk).keep hb⟩
theorem TmAt.row {w : World} {b o : Nat} {n t k : ByteArray} {r : Option RE} {ks : List TM} (h : TmAt w b (.mk o n t k r ks)) : ∃ at' rp v, Blk w b (tmC o at' n t k rp v) 38 ∧ RpAt w rp r ∧ TmRow w v ks := by
  cases h with
  | mk b o at' n t k r ks rp v bs blk hr row kid => exact ⟨at', rp, v, blk, hr, bs, row, kid⟩
theorem TmAt.lt {w : World} {b : Nat} {r : TM} (h : TmAt w b r) : b < w.heap.size := by
  cases r with
  | mk o n t k r ks => obtain ⟨_, _, _, blk, _⟩ := h.row; exact blk.lt
/-- What lies at one place of a slice. -/
theorem TmRow.at {w : World} {v : Value} {l : List TM} (h : TmRow w v l) : l.length ≤ 4611686018427387904 ∧ ∃ a cap, v = .slice a l.length cap ∧ ∀ k (hk : k < l.length), ∃ b off bk, a = some ⟨b, off, none⟩ ∧ b < w.heap.size ∧ w.cell? ⟨b, off + k, none⟩ = some (PT bk) ∧ TmAt w bk l[k] := by
  obtain ⟨bs, ⟨h0, a, cap, rfl, h1⟩, h2⟩ := h
  refine ⟨h0.1, a, cap, rfl, fun k hk => ?_⟩
  obtain ⟨b, off, e, hlt, hc⟩ := h1 k hk
  exact ⟨b, off, bs k, e, hlt, hc, h2 k _ (List.getElem?_eq_getElem hk)⟩
theorem TmRow.cap {w : World} {v : Value} {l : List TM} (h : TmRow w v l) : capOk v := by
  obtain ⟨bs, ⟨h0, -⟩, -⟩ := h
  exact h0.2.cap
theorem TmAt.ofRow {w : World} {b o : Nat} {at' : Int} {n t k : ByteArray} {r : Option RE} {ks : List TM} {rp v : Value} (hb : Blk w b (tmC o at' n t k rp v) 38) (hr : RpAt w rp r) (h : TmRow w v ks) : TmAt w b (.mk o n t k r ks) := by
  obtain ⟨bs, h1, h2⟩ := h
  exact .mk b o at' n t k r ks rp v bs hb hr h1 h2
theorem tmRow_nil (w : World) : TmRow w (.slice none 0 0) [] := ⟨fun _ => 0, ⟨⟨by simp, .zero (FL.none _)⟩, none, 0, rfl, fun k hk => by simp at hk⟩, fun i k hk => by simp at hk⟩
theorem tmRow_one {w : World} {b : Nat} {r : TM} {g : Nat} (hg : Blk w g #[PT b] 26) (h : TmAt w b r) : TmRow w (.slice (some ⟨g, 0, none⟩) 1 1) [r] :=
  ⟨fun _ => b, ⟨⟨by simp, .of (Nat.le_refl _) (FL.none _) fun _ _ _ => fun h => h⟩, some ⟨g, 0, none⟩, 1, rfl, fun k hk => ⟨g, 0, rfl, hg.lt, by
    obtain rfl : k = 0 := by simp at hk; omega
    rw [hg.cell]; rfl⟩⟩, fun i k hk => by
    cases i with
    | zero => simp at hk; subst hk; exact h
    | succ i => simp at hk⟩
theorem tmRow_two {w : World} {a b : Nat} {r o : TM} {g : Nat} (hg : Blk w g #[PT a, PT b] 26) (h : TmAt w a r) (h' : TmAt w b o) : TmRow w (.slice (some ⟨g, 0, none⟩) 2 2) [r, o] :=
  ⟨fun i => if i = 0 then a else b, ⟨⟨by simp, .of (Nat.le_refl _) (FL.none _) fun _ _ _ => fun h => h⟩, some ⟨g, 0, none⟩, 2, rfl, fun k hk => ⟨g, 0, rfl, hg.lt, by
    simp at hk
    obtain rfl | rfl : k = 0 ∨ k = 1 := by omega
    · rw [hg.cell]; rfl
    · rw [hg.cell]; rfl⟩⟩, fun i k hk => by
    match i with
    | 0 => simp at hk; subst hk; exact h
    | 1 => simp at hk; subst hk; exact h'
    | i + 2 => simp at hk⟩
end Go.Proofs.YtblpekljiilkjaaGreatDoor
/- The words of ops, as the package's variable holds them. -/
namespace Go.Proofs.YtblpekljiilkjaaGreatDoor
set_option maxRecDepth 100000
set_option linter.unusedSimpArgs false
set_option linter.unusedVariables false
open Go.RowKit Go.Shelf

def WordsAt (w : World) : Prop := ∀ j, j < 18 → w.cell? ⟨0, j, none⟩ = some (.string (strB (wordT j)))
theorem WordsAt.on {w w' : World} (h : WordsAt w) (hb : Below w.heap.size w w') : WordsAt w' := fun j hj => by
  have hc := h j hj
  have hlt : 0 < w.heap.size := World.block_lt_of_cell? _ _ hc
  exact (World.cell?_of_block (w := w) (hb.block _ hlt)).trans hc
theorem TabAt.onS {w w' : World} (hT : TabAt w) (hb : Below w.heap.size w w') : TabAt w' := hT.agree (Agree.of_all (K := fun _ => True) hb) trivial

def laidLens : List (String × DataW Unit) := [("math/bits.deBruijn64tab", Rows.laid_math_bits_deBruijn64tab), ("periscope/lens.words", Rows.laid_periscope_lens_words)]
section
open Go.ChangeShapes Go.WideShapes Go.ChangeAt Go.WideMaps Go.WideElems
theorem gWords : Tryz.prog.globalNamed "periscope/lens.words" = some 0 := by kernel_rfl
theorem tWords : (Tryz.prog.globals[0]?).map (·.type) = some 83 := by kernel_rfl
theorem cellsSt : Tryz.prog.cellsOf 9 = 1 := by kernel_rfl
theorem tab_of_laidL {W : World} (h : laidMetH Tryz.prog laidLens W) : TabAt W := by
  unfold laidLens at h
  rw [MakeChecks.laidMetH_plain _ _ _ (by kernel_rfl), laidTab] at h
  have hT := Lib.tabIs_of_head gTab tTab Tryz.underlying180 Tryz.underlying5 cellsB cells64 h
  intro j hj
  have := hT.cell gTab j (by simpa [Lib.deBruijn64tab] using hj)
  rw [this]
  have e : ((Lib.deBruijn64tab.map fun n : Nat => (n : Int)).getD j 0) = ((Lib.deBruijn64tab.getD j 0 : Nat) : Int) := by
    rw [List.getD_eq_getElem?_getD, List.getD_eq_getElem?_getD, List.getElem?_map]
    cases Lib.deBruijn64tab[j]? <;> rfl
  rw [e]
def wordsU : List (List UInt8) := (List.range 18).map fun j => (wordT j).map UInt8.ofNat
theorem laidWords : (Rows.laid_periscope_lens_words : DataW Unit) = .agg (wordsU.map fun s => .lit (.string s)) := by kernel_rfl
theorem words_of_laid {W : World} (h : laidMetH Tryz.prog laidLens W) : WordsAt W := by
  unfold laidLens at h
  rw [MakeChecks.laidMetH_plain _ _ _ (by kernel_rfl), laidWords] at h
  obtain ⟨ps, ⟨g0, t0, cs0, fuel0, p0, q0, -, -, -, -, ⟨g, t, cs, fuel, p, q, hg, ht, hv, hd, -, -⟩, -⟩, -, -⟩ := h
  obtain rfl := Option.some.inj (gWords.symm.trans hg)
  obtain rfl := Option.some.inj (tWords.symm.trans ht)
  obtain ⟨xs, m, _, ex, _, hl, hel⟩ := DataW.trod_array Tryz.underlying83 hd
  intro r hr
  have hE := hel r hr
  rw [cellsSt, Nat.mul_one, List.getElem?_eq_getElem (by omega)] at hE
  obtain ⟨z, e1, e2, _⟩ := DataW.trod_string Tryz.underlying9 hE
  have hlen : wordsU.length = 18 := by decide +kernel
  have e3 : (xs.map (·.1)) = wordsU.map fun s => .lit (.string s) := (DataW.agg.inj (Prod.mk.inj ex).1).symm
  have e4 : (xs.map (·.1))[r]? = (wordsU.map fun s => (DataW.lit (.string s) : DataW Unit))[r]? := by rw [e3]
  rw [List.getElem?_map, List.getElem?_map, List.getElem?_eq_getElem (by omega : r < xs.length), List.getElem?_eq_getElem (by omega : r < wordsU.length), e2] at e4
  have hz : z.data.toList = wordsU[r] := by
    simp only [Option.map_some, Option.some.injEq, DataW.lit.injEq, Lit.string.injEq] at e4
    exact e4
  have hz2 : z = strB (wordT r) := by
    apply ByteArray.ext
    apply Array.ext'
    rw [hz]
    simp [wordsU, strB, strOfNums]
  rw [World.var?_cell hg hv r, ← hz2]
  have : cs.toList[r]? = some (.string z) := by
    have h0 : ((cs.toList.drop r).take 1)[0]? = some (.string z) := by rw [e1]; rfl
    simpa using h0
  simpa using this
theorem door_metL (os : Os) (args : Array Value) : laidMetH Tryz.prog laidLens ((World.doorLaid Tryz.prog 400 os).forCall (fun _ _ => 0) ⟨#[], args, []⟩).memory :=
  laidMetH_of_parts3 (fuel := 8) (laidMet_of_run' 8 (by kernel_rfl) (by kernel_rfl)) (by kernel_rfl) (by kernel_rfl)
end

/-- Word of an op that there is. -/
theorem wordOp_any (o : Nat) (ho : o < 18) (w : World) (hW : WordsAt w) :
    Calls Tryz.prog 25 #[.int .i64 o] w fun e w' => e = .returned (.string (strB (wordT o))) ∧ w' = w := by
  have hc := hW o ho
  have h0 : decide ((o : Int) < 0) = false := by simp
  have h1 : decide ((18 : Int) ≤ o) = false := by simp; omega
  have h2 : decide (18 ≤ o) = false := by simp; omega
  go_enter Tryz.func25, Tryz.ntmps25
  go_wp2
  go_ret
  exact ⟨rfl, rfl⟩
theorem wordOp_off (o : Int) (hi : I64 o) (ho : o < 0 ∨ 18 ≤ o) (w : World) :
    Calls Tryz.prog 25 #[.int .i64 o] w fun e w' => e = .returned (.string ⟨#[]⟩) ∧ w' = w := by
  by_cases h : o < 0
  · have h0 : decide (o < 0) = true := by simp [h]
    go_enter Tryz.func25, Tryz.ntmps25
    go_wp2
    go_ret
    exact ⟨rfl, rfl⟩
  · have h0 : decide (o < 0) = false := by simp [h]
    have h1 : decide ((18 : Int) ≤ o) = true := by simp; omega
    go_enter Tryz.func25, Tryz.ntmps25
    go_wp2
    go_ret
    exact ⟨rfl, rfl⟩
end Go.Proofs.YtblpekljiilkjaaGreatDoor
/- Laws of single operations on terms; what is read of a term. -/
namespace Go.Proofs.YtblpekljiilkjaaGreatDoor
set_option maxRecDepth 100000
set_option linter.unusedSimpArgs false
set_option linter.unusedVariables false
open Go.RowKit Go.Shelf

section
variable (ρ : Operand → Value) (d : Option Tmp) (x y : Operand) (t : TypeId) (pos : String) (af : Array Edge) (g : Option (Nat × Bool))
theorem x_tmF0 (b : Nat) (hx : ρ x = PT b) (w : World) : (execOp ρ { dst := d, op := .fieldAddr 38 x 0, type := t, pos := pos, after := af, guard := g }).run Tryz.prog w = .ok (.value (PT b)) w := by
  simp [go_sem, hx, PT]
theorem x_tmF2 (b : Nat) (hx : ρ x = PT b) (w : World) : (execOp ρ { dst := d, op := .fieldAddr 38 x 2, type := t, pos := pos, after := af, guard := g }).run Tryz.prog w = .ok (.value (.pointer (some ⟨b, 2, none⟩))) w := by
  simp [go_sem, hx, PT]
theorem x_tmF4 (b : Nat) (hx : ρ x = PT b) (w : World) : (execOp ρ { dst := d, op := .fieldAddr 38 x 4, type := t, pos := pos, after := af, guard := g }).run Tryz.prog w = .ok (.value (.pointer (some ⟨b, 4, none⟩))) w := by
  simp [go_sem, hx, PT]
theorem x_tmF5 (b : Nat) (hx : ρ x = PT b) (w : World) : (execOp ρ { dst := d, op := .fieldAddr 38 x 5, type := t, pos := pos, after := af, guard := g }).run Tryz.prog w = .ok (.value (.pointer (some ⟨b, 5, none⟩))) w := by
  simp [go_sem, hx, PT]
theorem x_tmF6 (b : Nat) (hx : ρ x = PT b) (w : World) : (execOp ρ { dst := d, op := .fieldAddr 38 x 6, type := t, pos := pos, after := af, guard := g }).run Tryz.prog w = .ok (.value (.pointer (some ⟨b, 6, none⟩))) w := by
  simp [go_sem, hx, PT]
theorem x_tmOp (b : Nat) (o : Nat) (hx : ρ x = PT b) (w : World) (hc : w.cell? ⟨b, 0, none⟩ = some (.int .i64 o)) : (execOp ρ { dst := d, op := .load 34 x, type := t, pos := pos, after := af, guard := g }).run Tryz.prog w = .ok (.value (.int .i64 o)) w := by
  unfold PT at hx
  simp [go_sem, hx, hc]
theorem x_tmKids (b n : Nat) (v : Value) (hx : ρ x = .pointer (some ⟨b, n, none⟩)) (w : World) (hc : w.cell? ⟨b, n, none⟩ = some v) : (execOp ρ { dst := d, op := .load 36 x, type := t, pos := pos, after := af, guard := g }).run Tryz.prog w = .ok (.value v) w := by
  simp [go_sem, hx, hc]
theorem x_tmPt (b n : Nat) (p : Nat) (hx : ρ x = .pointer (some ⟨b, n, none⟩)) (w : World) (hc : w.cell? ⟨b, n, none⟩ = some (PT p)) : (execOp ρ { dst := d, op := .load 26 x, type := t, pos := pos, after := af, guard := g }).run Tryz.prog w = .ok (.value (PT p)) w := by
  simp [go_sem, hx, hc]
theorem x_tmStr (b n : Nat) (v : ByteArray) (hx : ρ x = .pointer (some ⟨b, n, none⟩)) (w : World) (hc : w.cell? ⟨b, n, none⟩ = some (.string v)) : (execOp ρ { dst := d, op := .load 9 x, type := t, pos := pos, after := af, guard := g }).run Tryz.prog w = .ok (.value (.string v)) w := by
  simp [go_sem, hx, hc]
theorem x_tmIdx (b o len cap : Nat) (n : Nat) (hx : ρ x = .slice (some ⟨b, o, none⟩) len cap) (hy : ρ y = .int .i64 n) (h1 : n < len) (w : World) : (execOp ρ { dst := d, op := .indexAddr 36 x y, type := t, pos := pos, after := af, guard := g }).run Tryz.prog w = .ok (.value (.pointer (some ⟨b, o + n, none⟩))) w := by
  simp [go_sem, hx, hy, h1]
theorem x_tmLen (a : Option Addr) (n cap : Nat) (hx : ρ x = .slice a n cap) (w : World) : (execOp ρ { dst := d, op := .call { callee := .builtin .len, args := #[x], argTypes := #[36] }, type := t, pos := pos, after := af, guard := g }).run Tryz.prog w = .ok (.value (.int .i64 n)) w := by
  simp [go_sem, hx]
theorem x_tmNil (b : Nat) (hx : ρ x = PT b) (hy : ρ (.const (.pointer none)) = .pointer none) (w : World) : (execOp ρ { dst := d, op := .binOp .eql 26 x (.const (.pointer none)) 26, type := t, pos := pos, after := af, guard := g }).run Tryz.prog w = .ok (.value (.bool false)) w := by
  simp [go_sem, hx, hy, PT]
theorem x_addSS (u v : ByteArray) (hx : ρ x = .string u) (hy : ρ y = .string v) (hs : u.size + v.size ≤ 9223372036854775807) (w : World) :
    (execOp ρ { dst := d, op := .binOp .add 9 x y 9, type := t, pos := pos, after := af, guard := g }).run Tryz.prog w = .ok (.value (.string (u ++ v))) w := by
  have h : ¬ (u ++ v).size > 9223372036854775807 := by rw [ByteArray.size_append]; omega
  simp [go_sem, hx, hy]
  omega
theorem x_lssZ (u v : Int) (c : Bool) (h : decide (u < v) = c) (hx : ρ x = .int .i64 u) (hy : ρ y = .int .i64 v) (w : World) :
    (execOp ρ { dst := d, op := .binOp .lss 3 x y 3, type := t, pos := pos, after := af, guard := g }).run Tryz.prog w = .ok (.value (.bool c)) w := by
  rw [← h]; simp [go_sem, hx, hy]
end

/-- What is read of a term in any later world. -/
structure TmSee (w : World) (b o : Nat) (n t k : ByteArray) (r : Option RE) (ks : List TM) (rp : Value) (a : Option Addr) (c : Nat) : Prop where
  row : TmRow w (.slice a ks.length c) ks
  re : RpAt w rp r
  c0 : ∀ W, Below w.heap.size w W → W.cell? ⟨b, 0, none⟩ = some (.int .i64 o)
  c2 : ∀ W, Below w.heap.size w W → W.cell? ⟨b, 2, none⟩ = some (.string n)
  c3 : ∀ W, Below w.heap.size w W → W.cell? ⟨b, 3, none⟩ = some rp
  c4 : ∀ W, Below w.heap.size w W → W.cell? ⟨b, 4, none⟩ = some (.string t)
  c5 : ∀ W, Below w.heap.size w W → W.cell? ⟨b, 5, none⟩ = some (.string k)
  c6 : ∀ W, Below w.heap.size w W → W.cell? ⟨b, 6, none⟩ = some (.slice a ks.length c)
theorem TmAt.see {w : World} {b o : Nat} {n t k : ByteArray} {r : Option RE} {ks : List TM} (h : TmAt w b (.mk o n t k r ks)) : ∃ rp a c, TmSee w b o n t k r ks rp a c := by
  obtain ⟨at', rp, v, blk, hr, row⟩ := h.row
  obtain ⟨h1, a, c, rfl, -⟩ := row.at
  have key : ∀ (j : Nat) W, Below w.heap.size w W → W.cell? ⟨b, j, none⟩ = (tmC o at' n t k rp (.slice a ks.length c))[j]? := fun j W hW => by
    rw [World.cell?_of_block (w := w) (hW.block b blk.lt)]
    exact blk.cell j
  exact ⟨rp, a, c, row, hr, key 0, key 2, key 3, key 4, key 5, key 6⟩
/-- A kid of a term. -/
theorem TmSee.kid {w : World} {b o : Nat} {n t k : ByteArray} {r : Option RE} {ks : List TM} {rp : Value} {a : Option Addr} {c : Nat} (h : TmSee w b o n t k r ks rp a c) (i : Nat) (hi : i < ks.length) :
    ∃ g f p, a = some ⟨g, f, none⟩ ∧ (∀ W, Below w.heap.size w W → W.cell? ⟨g, f + i, none⟩ = some (PT p)) ∧ TmAt w p ks[i] := by
  obtain ⟨-, a', c', e, q⟩ := h.row.at
  obtain ⟨g, f, p, e2, hlt, hc, ht⟩ := q i hi
  cases e
  exact ⟨g, f, p, e2, fun W hW => (World.cell?_of_block (w := w) (hW.block g hlt)).trans hc, ht⟩
end Go.Proofs.YtblpekljiilkjaaGreatDoor
