/- Texts of this claim put together: DfaL, KeyLen, DfaD, DfaE, MathRow. -/
import Derived.Test.YtjcfnmjjkadaeaaGreatDoorJoinMathKeys
import Derived.Test.YtjcfnmjjkadaeaaGreatDoorJoinMathOrd
import Derived.Test.YtjcfnmjjkadaeaaGreatDoorJoinReO
import Derived.Test.YtjcfnmjjkadaeaaGreatDoorJoinDvC
import Derived.Test.YtjcfnmjjkadaeaaGreatDoorJoinSetG
import Derived.Test.YtjcfnmjjkadaeaaGreatDoorJoinMathDfa4
import Derived.Test.YtjcfnmjjkadaeaaGreatDoorJoinMathDfa
/- What a call leaves as it was while rows of states are written: expressions that keep out of a block. -/
namespace Go.Proofs.YtjcfnmjjkadaeaaGreatDoor
set_option maxRecDepth 100000
set_option linter.unusedSimpArgs false
set_option linter.unusedVariables false
open Go.RowKit

/-- A row's own block is forbidden to rows of kids. -/
abbrev forbOf (v : Value) : Forb := ⟨fun b => v.ownBlock = some b⟩
/-- An expression stays where blocks of its type and cells that are pointers stay. -/
theorem ReAt.typ {F F' : Forb} {W W' : World} {b : Nat} {r : RE} (h : @ReAt F W b r) (hs : W.heap.size ≤ W'.heap.size) (hf : @FL F' W'.heap.size)
    (hb : ∀ b c, Blk W b c 110 → Blk W' b c 110) (hp : ∀ b o p, W.cell? ⟨b, o, none⟩ = some (PT p) → W'.cell? ⟨b, o, none⟩ = some (PT p))
    (hn : ∀ k, k < W.heap.size → @Forb.no F' k → @Forb.no F k) : @ReAt F' W' b r := by
  induction h with
  | mk b o s ks v bs blk row kid ih =>
    refine @ReAt.mk F' W' b o s ks v bs (hb _ _ blk) ?_ ih
    obtain ⟨h1, a, cap, rfl, h2⟩ := row
    refine ⟨⟨h1.1, @KidOk.of F' W' a _ cap (@KidOk.cap F _ _ h1.2 _ _ _ rfl) hf fun ad e h0 hx => ?_⟩, a, cap, rfl, fun k hk => ?_⟩
    · obtain ⟨b', off, e', hlt, -⟩ := h2 0 h0
      rw [e] at e'; injection e' with e'
      exact @KidOk.out F _ _ h1.2 ad _ _ (by rw [e]) h0 (hn _ (by rw [e']; exact hlt) hx)
    · obtain ⟨b', off, e, hlt, hc⟩ := h2 k hk
      exact ⟨b', off, e, Nat.lt_of_lt_of_le hlt hs, hp _ _ _ hc⟩
theorem Blk.ne {W : World} {b b' : Nat} {c c' : Array Value} {t t' : TypeId} (h : Blk W b c t) (h' : Blk W b' c' t') (ht : t ≠ t') : b ≠ b' := by
  rintro rfl
  have e := h.of_cells.symm.trans h'.of_cells
  injection e with e; injection e with _ e
  exact ht e
theorem size_setCell (W : World) (a : Addr) (u : Value) : (W.setCell a u).heap.size = W.heap.size := by simp [World.setCell]
/-- A store into a forbidden block turns no expression. -/
theorem ReAt.put [F : Forb] {W : World} {b g q : Nat} {r : RE} {u : Value} {c : Array Value} (h : ReAt W b r) (hg : Blk W g c 30) (hno : Forb.no g) : ReAt (W.setCell ⟨g, q, none⟩ u) b r := by
  induction h with
  | mk b o s ks v bs blk row kid ih =>
    refine .mk b o s ks v bs (blk.setOther _ _ (blk.ne hg (by decide))) ?_ ih
    obtain ⟨h1, a, cap, rfl, h2⟩ := row
    refine ⟨⟨h1.1, h1.2.keep (by rw [size_setCell]; exact Nat.le_refl _)⟩, a, cap, rfl, fun k hk => ?_⟩
    obtain ⟨b', off, e, hlt, hc⟩ := h2 k hk
    refine ⟨b', off, e, by rw [size_setCell]; exact hlt, ?_⟩
    rw [← hc]
    refine World.cell?_of_block (w := W) (Below.heap_setCell _ _ _ _ fun e2 => ?_)
    have e2 : b' = g := e2
    exact h1.2.out ⟨b', off, none⟩ _ _ (by rw [e]) (by omega) (e2 ▸ hno)

/-- What a call that takes from the budget leaves as it was: what lay below B, but the budget; all but blocks of three types. -/
structure Left (W W' : World) (B bud : Nat) : Prop where
  os : W'.os = W.os
  tape : W'.tape = W.tape
  output : W'.output = W.output
  size : W.heap.size ≤ W'.heap.size
  old : ∀ k, k < B → k ≠ bud → W'.heap[k]? = W.heap[k]?
  typ : ∀ k c t, Blk W k c t → t ≠ 30 → t ≠ 59 → t ≠ 96 → Blk W' k c t
theorem Left.trans {A W W' : World} {B bud : Nat} (h : Left A W B bud) (h' : Left W W' B bud) : Left A W' B bud :=
  ⟨h'.os.trans h.os, h'.tape.trans h.tape, h'.output.trans h.output, Nat.le_trans h.size h'.size, fun k h1 h2 => (h'.old k h1 h2).trans (h.old k h1 h2), fun k c t hb h1 h2 h3 => h'.typ k c t (h.typ k c t hb h1 h2 h3) h1 h2 h3⟩
theorem Left.of {W W' : World} {B bud : Nat} (h : Below W.heap.size W W') (hB : B ≤ W.heap.size) : Left W W' B bud :=
  ⟨h.os, h.tape, h.output, h.size, fun k hk _ => h.block k (by omega), fun k c t hb _ _ _ => hb.below h hb.lt⟩
theorem Left.own {W W' : World} {B bud base : Nat} {E : TypeId} {z v : Value} {xs : List Value} (h : Left W W' B bud) (ho : OwnG W base E z v xs) (h1 : E ≠ 30) (h2 : E ≠ 59) (h3 : E ≠ 96) : OwnG W' base E z v xs := by
  rcases ho with h | ⟨g, cap, cur, e, k1, k2, k3⟩
  · exact .inl h
  · exact .inr ⟨g, cap, cur, e, k1, h.typ _ _ _ k2 h1 h2 h3, k3⟩
theorem Left.dfa {W W' : World} {B bud base p : Nat} {vh vn vy : Value} {hs : List Nat} {f : Nat → Nat} {vs : List Value} {rows : List (List Nat)} {ys : List Bool} (h : Left W W' B bud) (hd : DfaIn W base p vh vn vy hs f vs rows ys) : DfaIn W' base p vh vn vy hs f vs rows ys :=
  ⟨h.typ _ _ _ hd.blk (by decide) (by decide) (by decide), hd.base, h.own hd.hd (by decide) (by decide) (by decide), h.own hd.nx (by decide) (by decide) (by decide), h.own hd.ye (by decide) (by decide) (by decide), hd.len, fun q hq => h.own (hd.row q hq) (by decide) (by decide) (by decide)⟩
/-- The table stays: it is no budget. -/
theorem Left.tab {W W' : World} {B bud : Nat} {g t : Int} (h : Left W W' B bud) (hb : BudAt W bud g t) (hG : 0 < B) (hT : TabAt W) : TabAt W' := fun j hj => by
  have hc := hT j hj
  rw [← hc]
  refine World.cell?_of_block (w := W) (h.old _ hG fun e => ?_)
  have h0 := hT 0 (by omega)
  have e : bud = 0 := e.symm
  subst e
  have h1 := h0.symm.trans (hb.blk.cell 0)
  simp at h1

/-! ## The states so far -/
/-- What is taken, where t0 were taken before. -/
def sh (t0 t : Int) : Int := if t < 0 then t - t0 else t + t0
theorem aft_sh {g t0 t : Int} (h : 0 ≤ t0) : aft (g + t0) (sh t0 t) 1 = (sh t0 (aft g t 1).1, (aft g t 1).2) := by
  have e1 : ¬ ((1 : Int) = 0) := by omega
  unfold aft
  rw [if_neg e1, if_neg e1]
  by_cases ht : t < 0
  · have e2 : sh t0 t = t - t0 := by unfold sh; rw [if_pos ht]
    rw [if_pos ht, if_pos (by rw [e2]; omega)]
  · have e2 : sh t0 t = t + t0 := by unfold sh; rw [if_neg ht]
    rw [if_neg ht, if_neg (by rw [e2]; omega), e2]
    by_cases hg : g - t < 1
    · rw [if_pos hg, if_pos (by omega)]
      show _ = (sh t0 (-t - 1), false)
      unfold sh
      rw [if_pos (by omega)]
      congr 1; omega
    · rw [if_neg hg, if_neg (by omega)]
      show _ = (sh t0 (t + 1), true)
      unfold sh
      rw [if_neg (by omega)]
      congr 1; omega
/-- The states so far, in memory: the budget, the map, the row of the states' expressions (of the first k no longer). -/
structure FindAt (W : World) (B cb cm cs bud mb : Nat) (g t0 : Int) (s : Bs) (k : Nat) (vs : Value) (ps : List Value) : Prop where
  lcs : B ≤ cs
  lmb : B ≤ mb
  cb : Blk W cb #[PT bud] 32
  bud : BudAt W bud (g + t0) (sh t0 s.t)
  cm : Blk W cm #[.map (some mb)] 60
  map : W.ownsMap Tryz.prog 9 (plainElem (H := Unit) Tryz.prog 3) mb s.S.length (keysD s.S)
  cs : Blk W cs #[vs] 59
  own : OwnG W B 30 (.pointer none) vs ps
  len : ps.length = s.S.length
  elem : ∀ j x, k ≤ j → s.S[j]? = some x → ∃ p, ps[j]? = some (PT p) ∧ @ReAt (forbOf vs) W p x
theorem FindAt.keep {W W' : World} {B cb cm cs bud mb : Nat} {g t0 : Int} {s : Bs} {k : Nat} {vs : Value} {ps : List Value} (h : FindAt W B cb cm cs bud mb g t0 s k vs ps) (hb : Below W.heap.size W W') : FindAt W' B cb cm cs bud mb g t0 s k vs ps := by
  refine ⟨h.lcs, h.lmb, h.cb.below hb h.cb.lt, h.bud.below hb h.bud.blk.lt, h.cm.below hb h.cm.lt, ?_, h.cs.below hb h.cs.lt, h.own.keep hb, h.len, fun j x hj hx => ?_⟩
  · obtain ⟨es, clock, hm, F, hs, hD⟩ := h.map
    exact ⟨es, clock, (hb.block mb (Array.getElem?_eq_some_iff.1 hm).1).trans hm, F, hs, hD⟩
  · obtain ⟨p, h1, h2⟩ := h.elem j x hj hx
    exact ⟨p, h1, @ReAt.keep (forbOf vs) _ _ _ _ h2 hb⟩
theorem map_ne {W : World} {mb b : Nat} {c : Array Value} {t : TypeId} {n : Nat} {D : DataW Unit} (h : W.ownsMap Tryz.prog 9 (plainElem (H := Unit) Tryz.prog 3) mb n D) (hb : Blk W b c t) : mb ≠ b := by
  rintro rfl
  obtain ⟨es, clock, hm, -⟩ := h
  have e := hm.symm.trans hb.of_cells
  injection e with e
  cases e
theorem map_keep {W W' : World} {mb : Nat} {n : Nat} {D : DataW Unit} (h : W.ownsMap Tryz.prog 9 (plainElem (H := Unit) Tryz.prog 3) mb n D) (hk : W'.heap[mb]? = W.heap[mb]?) : W'.ownsMap Tryz.prog 9 (plainElem (H := Unit) Tryz.prog 3) mb n D := by
  obtain ⟨es, clock, hm, F, hs, hD⟩ := h
  exact ⟨es, clock, hk.trans hm, F, hs, hD⟩
/-- An expression isn't turned by what is written into a budget. -/
theorem ReAt.bud {F : Forb} {W W' : World} {b bd : Nat} {g t : Int} {r : RE} {u : Value} (h : @ReAt F W b r) (hb : BudAt W bd g t) (hW : W' = W.setCell ⟨bd, 1, none⟩ u) : @ReAt F W' b r := by
  have hs : W'.heap.size = W.heap.size := by rw [hW, size_setCell]
  refine h.typ (by omega) (by rw [hs]; exact @ReAt.fl F _ _ _ h) (fun b c hB => ?_) (fun b o p hc => ?_) fun _ _ h => h
  · rw [hW]; exact hB.setOther _ _ (hB.ne hb.blk (by decide))
  · rw [← hc, hW]
    refine World.cell?_of_block (w := W) (Below.heap_setCell _ _ _ _ fun e => ?_)
    have e : b = bd := e
    rw [e, hb.blk.cell] at hc
    match o with
    | 0 => simp [PT] at hc
    | 1 => simp [PT] at hc
    | n + 2 => simp at hc
theorem FindAt.take {W W' : World} {B cb cm cs bud mb : Nat} {g t0 t' : Int} {s : Bs} {k : Nat} {vs : Value} {ps : List Value} {u : Value} (h : FindAt W B cb cm cs bud mb g t0 s k vs ps) (hb : BudAt W' bud (g + t0) (sh t0 t')) (hW : W' = W.setCell ⟨bud, 1, none⟩ u) : FindAt W' B cb cm cs bud mb g t0 ⟨s.S, t'⟩ k vs ps := by
  have hne : ∀ {b : Nat} {c : Array Value} {t : TypeId}, Blk W b c t → t ≠ 96 → Blk W' b c t := fun hB ht => by
    rw [hW]; exact hB.setOther _ _ (hB.ne h.bud.blk ht)
  refine ⟨h.lcs, h.lmb, hne h.cb (by decide), hb, hne h.cm (by decide), map_keep h.map ?_, hne h.cs (by decide), ?_, h.len, fun j x hj hx => ?_⟩
  · rw [hW]; exact Below.heap_setCell _ _ _ _ (map_ne h.map h.bud.blk)
  · rw [hW]; exact h.own.put h.bud.blk (by decide)
  · obtain ⟨p, h1, h2⟩ := h.elem j x hj hx
    exact ⟨p, h1, h2.bud h.bud hW⟩
theorem FindAt.put {W : World} {B cb cm cs bud mb dp i : Nat} {g t0 : Int} {s : Bs} {k : Nat} {vs u : Value} {ps : List Value} {c : Array Value} {t : TypeId} (h : FindAt W B cb cm cs bud mb g t0 s k vs ps) (hd : Blk W dp c t)
    (h1 : t ≠ 30) (h2 : t ≠ 59) (h3 : t ≠ 96) (h4 : t ≠ 32) (h5 : t ≠ 60) (h6 : t ≠ 110) (hp : ∀ p, c[i]? ≠ some (PT p)) : FindAt (W.setCell ⟨dp, i, none⟩ u) B cb cm cs bud mb g t0 s k vs ps := by
  have hne : ∀ {b : Nat} {c : Array Value} {t' : TypeId}, Blk W b c t' → t ≠ t' → Blk (W.setCell ⟨dp, i, none⟩ u) b c t' := fun hB ht => hB.setOther _ _ (hB.ne hd ht.symm)
  refine ⟨h.lcs, h.lmb, hne h.cb h4, ⟨hne h.bud.blk h3, h.bud.most, h.bud.ok⟩, hne h.cm h5, map_keep h.map (Below.heap_setCell _ _ _ _ (map_ne h.map hd)), hne h.cs h2, h.own.put hd h1, h.len, fun j x hj hx => ?_⟩
  obtain ⟨p, k1, k2⟩ := h.elem j x hj hx
  refine ⟨p, k1, k2.typ (by rw [size_setCell]; exact Nat.le_refl _) (by rw [size_setCell]; exact @ReAt.fl (forbOf vs) _ _ _ k2) (fun b c hB => hne hB h6) (fun b o q hc => ?_) fun _ _ h => h⟩
  by_cases e : b = dp ∧ o = i
  · exfalso
    obtain ⟨rfl, rfl⟩ := e
    rw [hd.cell] at hc
    exact hp q hc
  · rw [← hc]
    exact World.cell?_setCell_other (w := W) (v := u) (a := ⟨dp, i, none⟩) (b := ⟨b, o, none⟩) (fun h => e ⟨by injection h with h; exact h.symm, by injection h with _ h; exact h.symm⟩)
/-- What is new may be written to. -/
theorem Left.new {W W' : World} {B bud b i : Nat} {u : Value} (h : Left W W' B bud) (hB : B ≤ W.heap.size) (hb : W.heap.size ≤ b) : Left W (W'.setCell ⟨b, i, none⟩ u) B bud :=
  ⟨h.os, h.tape, h.output, by rw [size_setCell]; exact h.size, fun k h1 h2 => (Below.heap_setCell _ _ _ _ (show k ≠ b by omega)).trans (h.old k h1 h2), fun k c t hB h1 h2 h3 => (h.typ k c t hB h1 h2 h3).setOther _ _ (show k ≠ b by have := hB.lt; omega)⟩
theorem Left.take {W W' : World} {B bud : Nat} {g t : Int} {u : Value} (hb : BudAt W bud g t) (hW : W' = W.setCell ⟨bud, 1, none⟩ u) : Left W W' B bud := by
  subst hW
  exact ⟨rfl, rfl, rfl, by rw [size_setCell]; exact Nat.le_refl _, fun k _ h1 => Below.heap_setCell _ _ _ _ h1, fun k c t hB _ _ h3 => hB.setOther _ _ (hB.ne hb.blk h3)⟩
end Go.Proofs.YtjcfnmjjkadaeaaGreatDoor
/- How long a key is; the size. (As in LawReKeys and MathRd3, whose imports are many.) -/
namespace Go.Proofs.YtjcfnmjjkadaeaaGreatDoor
set_option maxRecDepth 100000
set_option linter.unusedSimpArgs false
set_option linter.unusedVariables false

theorem key_lenD (r : RE) : r.key.length ≤ 514 * r.cnt := by
  refine RE.ind (P := fun r => r.key.length ≤ 514 * r.cnt) ?_ r
  intro o s ks ih
  have hk : (keysL ks).length ≤ 514 * cntL ks := by
    unfold keysL
    induction ks with
    | nil => simp
    | cons k ks ih2 =>
      have e1 := ih k (by simp)
      have e2 := ih2 fun x hx => ih x (by simp [hx])
      rw [cntL_cons, List.map_cons, List.flatten_cons, List.length_append]
      omega
  have hr := runs_le s
  rw [RE.key_mk, RE.cnt_mk]
  have h3 : (if o = 2 then rnB (runsOf s) else []).length ≤ 512 := by
    split
    · rw [rnB_length]; omega
    · simp
  simp only [List.length_cons, List.length_append, List.length_nil]
  omega
theorem sat_minD (l : List RE) (n : Nat) (h : ∀ k ∈ l, k.size = min k.cnt 9223372036854775807) : (l.map RE.size).foldl sat (min n 9223372036854775807) = min (n + cntL l) 9223372036854775807 := by
  induction l generalizing n with
  | nil => simp [cntL]
  | cons k l ih =>
    rw [cntL_cons, List.map_cons, List.foldl_cons, h k (by simp)]
    have e : sat (min n 9223372036854775807) (min k.cnt 9223372036854775807) = min (n + k.cnt) 9223372036854775807 := by unfold sat; omega
    rw [e, ih _ (fun x hx => h x (by simp [hx])), Nat.add_assoc]
theorem size_minD (r : RE) : r.size = min r.cnt 9223372036854775807 := by
  refine RE.ind (P := fun r => r.size = min r.cnt 9223372036854775807) ?_ r
  intro o s ks ih
  rw [RE.size_mk, RE.cnt_mk]
  exact sat_minD ks 1 ih
end Go.Proofs.YtjcfnmjjkadaeaaGreatDoor
/- The closure of Build: the state of an expression. -/
namespace Go.Proofs.YtjcfnmjjkadaeaaGreatDoor
set_option maxRecDepth 100000
set_option linter.unusedSimpArgs false
set_option linter.unusedVariables false
open Go.RowKit
open Go.Maps Go.WideMaps

theorem zeroI64 (w : World) : (zeroValue 3).run Tryz.prog w = .ok (.int .i64 0) w := by kernel_rfl
theorem lawStr : Keyed Tryz.prog 9 := string_keyed Tryz.underlying9
theorem strB_len (l : List Nat) : (strB l).size = l.length := by simp [strB, strOfNums, ByteArray.size]
theorem infoP8 : (Tryz.prog.info? 30).map (fun i => (i.zero, i.size, i.bytes)) = some (some (.pointer none), 1, 8) := by kernel_rfl
/-- Too great an expression. -/
theorem find_big [F : Forb] (W : World) (B cb cm cs bud mb : Nat) (g t0 : Int) (h0 : 0 ≤ t0) (s : Bs) (k : Nat) (vs : Value) (ps : List Value) (h : FindAt W B cb cm cs bud mb g t0 s k vs ps) (x : RE) (p : Nat) (hx : ReAt W p x) (hs : 20000 < x.size) :
    Calls Tryz.prog 38 #[PT p, PT cb, PT cm, PT cs] W fun e W' => e = .returned (.tuple #[.int .i64 0, .int .i64 5]) ∧ FindAt W' B cb cm cs bud mb g t0 ⟨s.S, (aft g s.t 1).1⟩ k vs ps ∧ Left W W' B bud := by
  have cB := h.cb.cell 0
  simp only [List.getElem?_toArray, List.getElem?_cons_zero] at cB
  have HTK := hide (take_any bud (g + t0) (sh t0 s.t) 1 W h.bud ⟨by omega, by omega⟩)
  rw [aft_sh h0] at HTK
  have HSZ := hide (size_any p x W hx)
  have hd : decide ((x.size : Int) > 20000) = true := decide_eq_true (by omega)
  have H := hide h
  clear h hx hs
  unfold PT at HTK HSZ cB
  unfold PT
  go_enter Tryz.func38, Tryz.ntmps38
  go_wp2_with fail
  refine HSZ.out.mono ?_
  rintro e w1 ⟨rfl, rfl⟩
  go_wp2_with fail
  refine HTK.out.mono ?_
  rintro e w2 ⟨rfl, hb, hw⟩
  have HB := hide hb
  have HW := hide hw
  clear hb hw HTK HSZ
  go_wp2
  exact bodyPost_ret (v := .tuple #[.int .i64 0, .int .i64 5]) (by simp [results, Tryz.results38, go_sem]) rfl ⟨rfl, H.out.take HB.out HW.out, .take H.out.bud HW.out⟩
/-- One that is known. -/
theorem find_known [F : Forb] (W : World) (B cb cm cs bud mb : Nat) (g t0 : Int) (h0 : 0 ≤ t0) (s : Bs) (k : Nat) (vs : Value) (ps : List Value) (h : FindAt W B cb cm cs bud mb g t0 s k vs ps) (hok : BsOk g s) (x : RE) (p q : Nat) (hx : ReAt W p x) (hw : Wf x) (hs : x.size ≤ 20000) (hq : posL x s.S = some q) (hT : TabAt W) :
    Calls Tryz.prog 38 #[PT p, PT cb, PT cm, PT cs] W fun e W' => e = .returned (.tuple #[.int .i64 q, .int .i64 0]) ∧ Below W.heap.size W W' := by
  have hcnt : x.cnt ≤ 20000 := by have := size_minD x; omega
  have hkl : x.key.length ≤ 1099511627776 := by have := key_lenD x; omega
  have HSZ := hide (size_any p x W hx)
  have HK := hide (key_any x p W hw.k hx hkl hT)
  have hd : decide ((x.size : Int) > 20000) = false := decide_eq_false (by omega)
  have hkt := keys_tell x (key_lt256 x hw.k) s.S.length s.S rfl (fun y hy => key_lt256 y (hok.wf y hy).k) hok.apart
  rw [hq] at hkt
  have hhas : Maps.has (keysD s.S) (.string (strB x.key).data.toList) = true := hkt.1
  have hat : ∀ z, (keysD s.S).atKey (.string (strB x.key).data.toList) z = .lit (.int .i64 (q : Nat)) := hkt.2 q rfl
  have H := hide h
  have hsz : (strB x.key).size ≤ maxLen := by rw [strB_len]; unfold maxLen; omega
  clear h hx hs hkt hw hT hok hcnt hkl
  unfold PT at HK HSZ
  unfold PT
  go_enter Tryz.func38, Tryz.ntmps38
  go_wp2_with fail
  refine HSZ.out.mono ?_
  rintro e w1 ⟨rfl, rfl⟩
  go_wp2_with fail
  refine HK.out.mono ?_
  rintro e w2 ⟨rfl, hb⟩
  have h2 := H.out.keep hb
  have HB := hide hb
  have cM := h2.cm.cell 0
  simp only [List.getElem?_toArray, List.getElem?_cons_zero] at cM
  have hmap := h2.map
  clear hb HK HSZ h2
  go_wp2_with (first | (at_lookup; go_loud (refine wpList_lookup_own_ok_int _ rfl _ _ 60 rfl 9 3 .i64 lawStr Tryz.underlying60 Tryz.underlying3 (zeroI64 _) mb _ _ rfl hmap _ _ rfl (keyOf_string_mk Tryz.underlying9 hsz) ?_); intro c hc hwc) | go_in)
  rw [hat] at hc
  have hcq : c = (q : Int) := by injection hc with hc; injection hc with _ hc; exact hc.symm
  subst hcq
  refine bodyPost_ret (v := .tuple #[.int .i64 q, .int .i64 0]) (by simp [results, Tryz.results38, go_sem]) rfl ⟨rfl, HB.out⟩

/-- A state more in memory: the map was stored into, the row is appended to. -/
theorem FindAt.push {w w3 : World} {B cb cm cs bud mb : Nat} {g t0 : Int} {s : Bs} {k : Nat} {vs : Value} {ps : List Value} (h : FindAt w B cb cm cs bud mb g t0 s k vs ps) (hB : B ≤ w.heap.size) {x : RE} {p : Nat} (hx : @ReAt (forbOf vs) w p x) (hl : s.S.length < 1000000)
    (ho : w3.ownsMap Tryz.prog 9 (plainElem (H := Unit) Tryz.prog 3) mb (s.S.length + 1) ((keysD s.S).put (keyLit x) (.lit (.int .i64 (s.S.length : Nat))))) (hg : w.grownBy w3 (some mb)) :
    Blk w3 cs #[vs] 59 ∧ ∃ v' W5, (Builtin.append_ #[59, 59] 59 #[vs, .slice (some ⟨w3.heap.size, 0, none⟩) 1 1]).run Tryz.prog (w3.alloc (.cells #[PT p] 30)) = .ok v' W5 ∧
      Blk W5 cs #[vs] 59 ∧ FindAt (W5.setCell ⟨cs, 0, none⟩ v') B cb cm cs bud mb g t0 ⟨s.S ++ [x], s.t⟩ k v' (ps ++ [PT p]) ∧ Left w (W5.setCell ⟨cs, 0, none⟩ v') B bud := by
  have k3 : ∀ {b : Nat} {c : Array Value} {t : TypeId}, Blk w b c t → Blk w3 b c t := fun hb => (hg.block _ hb.lt fun e => by injection e with e; exact map_ne h.map hb e.symm).trans hb
  have hb4 := (Below.refl w3.heap.size w3).alloc (Nat.le_refl _) (.cells #[PT p] 30)
  have own4 : OwnG (w3.alloc (.cells #[PT p] 30)) B 30 (.pointer none) vs ps := by
    rcases h.own with h | ⟨g', cap, cur, e, h1, h2, h3⟩
    · exact .inl h
    · exact .inr ⟨g', cap, cur, e, h1, (k3 h2).below hb4 (k3 h2).lt, h3⟩
  obtain ⟨v', W5, hr, hown, ha⟩ := run_appendG 59 30 59 (.pointer none) 8 Tryz.underlying59 infoP8 (by omega) rfl own4 ⟨w3.heap.size, 0, none⟩ 1 [PT p] (by simp)
    (World.news_of_block (Blk.newAt (w := w3) rfl #[PT p] 30)) (fun y hy => by simp at hy; subst hy; rfl) (by rw [h.len]; simp; omega) (by have := hg.size; simp; omega)
  have k5 : ∀ {b : Nat} {c : Array Value} {t : TypeId}, Blk w b c t → t ≠ 30 → Blk W5 b c t := fun hb ht => ha.blk ((k3 hb).below hb4 (k3 hb).lt) ht
  have hcs5 := k5 h.cs (by decide)
  have k6 : ∀ {b : Nat} {c : Array Value} {t : TypeId}, Blk w b c t → t ≠ 30 → t ≠ 59 → Blk (W5.setCell ⟨cs, 0, none⟩ v') b c t := fun hb ht ht2 => (k5 hb ht).setOther _ _ ((k5 hb ht).ne hcs5 ht2)
  have hs4 : w.heap.size ≤ (w3.alloc (.cells #[PT p] 30)).heap.size := by have := hg.size; simp; omega
  have hs6 : w.heap.size ≤ (W5.setCell ⟨cs, 0, none⟩ v').heap.size := by rw [size_setCell]; exact Nat.le_trans hs4 ha.size
  have hmb4 : (w3.alloc (.cells #[PT p] 30)).ownsMap Tryz.prog 9 (plainElem (H := Unit) Tryz.prog 3) mb (s.S.length + 1) ((keysD s.S).put (keyLit x) (.lit (.int .i64 (s.S.length : Nat)))) := map_keep ho (hb4.block mb ho.lt)
  have hmb5 : W5.ownsMap Tryz.prog 9 (plainElem (H := Unit) Tryz.prog 3) mb (s.S.length + 1) ((keysD s.S).put (keyLit x) (.lit (.int .i64 (s.S.length : Nat)))) := map_keep hmb4 (ha.block mb hmb4.lt fun e => by
    obtain ⟨c, c', h1, -⟩ := ha.old _ e
    exact map_ne hmb4 h1 rfl)
  obtain ⟨va, vc, hvs, -⟩ := h.own.slice
  have own6 := hown.put (i := 0) (u := v') hcs5 (by decide)
  have tr : ∀ q r, @ReAt (forbOf vs) w q r → @ReAt (forbOf v') (W5.setCell ⟨cs, 0, none⟩ v') q r := fun q r hr => by
    refine hr.typ hs6 (fun b hb => ?_) (fun b c hb => k6 hb (by decide) (by decide)) (fun b o q hc => ?_) fun kk hk hn => ?_
    · have hb : v'.ownBlock = some b := hb
      rcases own6 with ⟨rfl, -⟩ | ⟨g', cap, cur, rfl, h1, h2, h3⟩
      · cases hb
      · have : g' = b := by simpa [Value.ownBlock] using hb
        rw [← this]; exact h2.lt
    · have hbl := World.block_lt_of_cell? _ _ hc
      have c3 : w3.cell? ⟨b, o, none⟩ = some (PT q) := by
        rw [← hc]
        refine World.cell?_of_block (w := w) (hg.block b hbl fun e => ?_)
        injection e with e
        subst e
        obtain ⟨es, clock, hm, -⟩ := h.map
        simp [World.cell?, hm] at hc
      have hbl3 := World.block_lt_of_cell? _ _ c3
      have c4 : (w3.alloc (.cells #[PT p] 30)).cell? ⟨b, o, none⟩ = some (PT q) := by rw [← c3]; exact World.cell?_of_block (w := w3) (hb4.block b hbl3)
      have c5 := ha.cell c4 (by simp [PT])
      rw [← c5]
      refine World.cell?_of_block (w := W5) (Below.heap_setCell _ _ _ _ fun e => ?_)
      have e : b = cs := e
      rw [e, hcs5.cell, hvs] at c5
      match o with
      | 0 => simp [PT] at c5
      | n + 1 => simp at c5
    · have hn : v'.ownBlock = some kk := hn
      show vs.ownBlock = some kk
      rcases ha.own with e | e
      · rw [← e]; exact hn
      · rw [e] at hn; injection hn with hn
        omega
  refine ⟨k3 h.cs, v', W5, hr, hcs5, ⟨h.lcs, h.lmb, k6 h.cb (by decide) (by decide), ⟨k6 h.bud.blk (by decide) (by decide), h.bud.most, h.bud.ok⟩, k6 h.cm (by decide) (by decide), ?_, ?_, own6, by simp [h.len], fun j y hj hy => ?_⟩, ?_⟩
  · show World.ownsMap _ _ _ _ _ (s.S ++ [x]).length (keysD (s.S ++ [x]))
    rw [keysD_snoc, List.length_append]
    exact map_keep hmb5 (Below.heap_setCell _ _ _ _ (map_ne hmb5 hcs5))
  · have := hcs5.set 0 v'
    simpa using this
  · have hy : (s.S ++ [x])[j]? = some y := hy
    by_cases hlt : j < s.S.length
    · rw [List.getElem?_append_left hlt] at hy
      obtain ⟨q, h1, h2⟩ := h.elem j y hj hy
      exact ⟨q, by rw [List.getElem?_append_left (by rw [h.len]; exact hlt)]; exact h1, tr _ _ h2⟩
    · have hjl : j = s.S.length := by
        have := (List.getElem?_eq_some_iff.1 hy).1
        simp at this; omega
      subst hjl
      rw [List.getElem?_append_right (Nat.le_refl _)] at hy
      simp at hy; subst hy
      exact ⟨p, by rw [List.getElem?_append_right (by rw [h.len]; exact Nat.le_refl _), h.len]; simp, tr _ _ hx⟩
  · have hb6 : Below B w (W5.setCell ⟨cs, 0, none⟩ v') := by
      have h1 : Below B w w3 := ⟨hg.os, hg.tape, hg.output, hg.size, fun k hk => hg.block k (by omega) fun e => by injection e with e; have := h.lmb; omega⟩
      have h2 := hb4.mono (show B ≤ w3.heap.size from Nat.le_trans hB hg.size)
      exact ((h1.trans h2).trans ha.below).setCell h.lcs _
    exact ⟨hb6.os, hb6.tape, hb6.output, hb6.size, fun k hk _ => hb6.block k hk, fun k c t hb h1 h2 _ => k6 hb h1 h2⟩
end Go.Proofs.YtjcfnmjjkadaeaaGreatDoor
/- The closure of Build: an expression that is new; all three ways. -/
namespace Go.Proofs.YtjcfnmjjkadaeaaGreatDoor
set_option maxRecDepth 100000
set_option linter.unusedSimpArgs false
set_option linter.unusedVariables false
open Go.RowKit
open Go.Maps Go.WideMaps

theorem x_lookI (ρ : Operand → Value) (d : Option Tmp) (x y : Operand) (t : TypeId) (pos : String) (af : Array Edge) (g : Option (Nat × Bool)) (b n : Nat) (D : DataW Unit) (key : Value) (kl : Lit) (c : Int) (hx : ρ x = .map (some b)) (hy : ρ y = key) (hkey : keyOf Tryz.prog 9 key = some kl)
    (hc : D.atKey kl (.lit (.int .i64 0)) = .lit (.int .i64 c)) (w : World) (hm : w.ownsMap Tryz.prog 9 (plainElem (H := Unit) Tryz.prog 3) b n D) :
    (execOp ρ { dst := d, op := .lookup 60 x y false, type := t, pos := pos, after := af, guard := g }).run Tryz.prog w = .ok (.value (.int .i64 c)) w := by
  obtain ⟨c', hrun, hat, hwc⟩ := hm.lookup_int lawStr Tryz.underlying60 Tryz.underlying3 (zeroI64 w) hkey
  have e : c' = c := by rw [hc] at hat; injection hat with h; injection h with _ h; exact h.symm
  subst e
  simp [execOp, hx, hy, hrun, Result.andThen]
theorem x_loadM (ρ : Operand → Value) (d : Option Tmp) (x : Operand) (t : TypeId) (pos : String) (af : Array Edge) (g : Option (Nat × Bool)) (c : Nat) (u : Value) (hx : ρ x = PT c) (w : World) (hc : w.cell? ⟨c, 0, none⟩ = some u) :
    (execOp ρ { dst := d, op := .load 60 x, type := t, pos := pos, after := af, guard := g }).run Tryz.prog w = .ok (.value u) w := by
  simp [go_sem, hx, hc, PT]
theorem x_loadBd (ρ : Operand → Value) (d : Option Tmp) (x : Operand) (t : TypeId) (pos : String) (af : Array Edge) (g : Option (Nat × Bool)) (c : Nat) (u : Value) (hx : ρ x = PT c) (w : World) (hc : w.cell? ⟨c, 0, none⟩ = some u) :
    (execOp ρ { dst := d, op := .load 32 x, type := t, pos := pos, after := af, guard := g }).run Tryz.prog w = .ok (.value u) w := by
  simp [go_sem, hx, hc, PT]

set_option maxHeartbeats 1000000 in
theorem find_new (W : World) (B cb cm cs bud mb : Nat) (g t0 : Int) (h0 : 0 ≤ t0) (s : Bs) (k : Nat) (vs : Value) (ps : List Value) (h : FindAt W B cb cm cs bud mb g t0 s k vs ps) (hok : BsOk g s) (x : RE) (p : Nat) (hx : @ReAt (forbOf vs) W p x) (hw : Wf x) (hs : x.size ≤ 20000) (hq : posL x s.S = none) (hT : TabAt W) (hB : B ≤ W.heap.size) (hl : s.S.length < 1000000) :
    Calls Tryz.prog 38 #[PT p, PT cb, PT cm, PT cs] W fun e W' => ∃ v', e = .returned (.tuple #[.int .i64 s.S.length, .int .i64 (errI (aft g s.t 1).2)]) ∧
      FindAt W' B cb cm cs bud mb g t0 ⟨s.S ++ [x], (aft g s.t 1).1⟩ k v' (ps ++ [PT p]) ∧ Left W W' B bud := by
  have hcnt : x.cnt ≤ 20000 := by have := size_minD x; omega
  have hkl : x.key.length ≤ 1099511627776 := by have := key_lenD x; omega
  have HSZ := hide (@size_any (forbOf vs) p x W hx)
  have HK := hide (@key_any (forbOf vs) x p W hw.k hx hkl hT)
  have hd : decide ((x.size : Int) > 20000) = false := decide_eq_false (by omega)
  have hkt := keys_tell x (key_lt256 x hw.k) s.S.length s.S rfl (fun y hy => key_lt256 y (hok.wf y hy).k) hok.apart
  rw [hq] at hkt
  have hhas : Maps.has (keysD s.S) (.string (strB x.key).data.toList) = false := hkt.1
  have H := hide h
  have HX := hide hx
  have hsz : (strB x.key).size ≤ maxLen := by rw [strB_len]; unfold maxLen; omega
  have HAT : Hid (∀ z, (keysD (s.S ++ [x])).atKey (.string (strB x.key).data.toList) z = .lit (.int .i64 (s.S.length : Nat))) := fun z => by
    rw [keysD_snoc]; exact atKey_put_same (keysD_isMap s.S) (isKey_string _) _ _
  obtain ⟨va, vc, hvs, -⟩ := h.own.slice
  rw [h.len] at hvs
  subst hvs
  have hwf : (Lit.int .i64 (s.S.length : Nat)).wf = true := by simp [Lit.wf, IntKind.min, IntKind.max, IntKind.signed, IntKind.bits]; omega
  clear h hx hs hkt hw hT hok hcnt hkl
  unfold PT at HK HSZ
  unfold PT
  go_enter Tryz.func38, Tryz.ntmps38
  go_wp2_with fail
  refine HSZ.out.mono ?_
  rintro e w1 ⟨rfl, rfl⟩
  go_wp2_with fail
  refine HK.out.mono ?_
  rintro e w2 ⟨rfl, hb⟩
  have h2 := H.out.keep hb
  have PUSH := hide (fun w3 ho hg => h2.push (w3 := w3) (Nat.le_trans hB hb.size) (@ReAt.keep (forbOf _) _ _ _ _ HX.out hb) hl ho hg)
  have HB := hide hb
  have cM := h2.cm.cell 0
  simp only [List.getElem?_toArray, List.getElem?_cons_zero] at cM
  have cS := h2.cs.cell 0
  simp only [List.getElem?_toArray, List.getElem?_cons_zero] at cS
  have hmap := h2.map
  have hneM : cm ≠ mb := fun e => map_ne hmap h2.cm e.symm
  clear hb HK HSZ h2
  unfold PT at PUSH
  go_wp2_with (first
    | (at_lookup; go_loud (refine wpList_lookup_own_ok_int _ rfl _ _ 60 rfl 9 3 .i64 lawStr Tryz.underlying60 Tryz.underlying3 (zeroI64 _) mb _ _ rfl hmap _ _ rfl (keyOf_string_mk Tryz.underlying9 hsz) ?_); intro c hc hwc)
    | (at_mapUpdate; go_loud (refine wpList_mapUpdate_own _ rfl _ _ _ 60 rfl 9 3 lawStr Tryz.underlying60 _ mb _ _ rfl hmap (by unfold maxLen; omega) _ _ _ rfl rfl (keyOf_string_mk Tryz.underlying9 hsz) (.lit (.int .i64 (s.S.length : Nat))) [] (plainElem_int Tryz.underlying3 hwf) ?_); intro w3 ho3 hg3; obtain ⟨hc3, v', W5, hr5, hc5, hF6, hL6⟩ := PUSH.out w3 ho3 hg3; have c3 := hc3.cell 0; simp only [List.getElem?_toArray, List.getElem?_cons_zero] at c3; have c5 := hc5.cell 0; have f5 := hc5.frozen 0; simp only [List.getElem?_toArray, List.getElem?_cons_zero] at c5; have HF6 := hide hF6; have HL6 := hide hL6; obtain ⟨va', vc', hv', -⟩ := hF6.own.slice; subst hv'; simp only [List.length_append, List.length_cons, List.length_nil, Nat.zero_add] at hr5 HF6 HL6; clear PUSH ho3 hg3 hc3 hc5 hF6 hL6)
    | (refine wpList_append_run rfl _ _ _ rfl _ _ _ rfl rfl hr5 ?_)
    | go_in)
  clear hr5 c3 c5 f5 hc hwc cM cS hmap hneM hhas hd hq
  obtain ⟨PS, hPS⟩ : ∃ PS, PS = ps ++ [Value.pointer (some ⟨p, 0, none⟩)] := ⟨_, rfl⟩
  obtain ⟨VS, hVS⟩ : ∃ VS, VS = Value.slice va' (ps.length + 1) vc' := ⟨_, rfl⟩
  obtain ⟨SX, hSX⟩ : ∃ SX, SX = s.S ++ [x] := ⟨_, rfl⟩
  obtain ⟨KX, hKX⟩ : ∃ KX, KX = Lit.string (strB x.key).data.toList := ⟨_, rfl⟩
  have hkey : keyOf Tryz.prog 9 (.string (strB x.key)) = some KX := by rw [hKX]; exact keyOf_string_mk Tryz.underlying9 hsz
  rw [← hPS, ← hVS, ← hSX] at HF6
  rw [← hVS] at HL6
  rw [← hSX, ← hKX] at HAT
  rw [← hVS]
  generalize W5.setCell ⟨cs, 0, none⟩ VS = W6 at HF6 HL6 ⊢
  have hbd : Below W6.heap.size W6 { W6 with drawn := W6.drawn + 1 } := ⟨rfl, rfl, rfl, Nat.le_refl _, fun _ _ => rfl⟩
  have hF := HF6.out.keep hbd
  have hB6 : B ≤ W6.heap.size := Nat.le_trans hB (Nat.le_trans HB.out.size HL6.out.size)
  have HL := hide ((Left.of (bud := bud) HB.out hB).trans (HL6.out.trans (.of hbd hB6)))
  clear hbd HF6 HL6 hB6 HB
  obtain ⟨S, hSd⟩ : ∃ S : World → Prop, S = fun W => W.cell? ⟨cm, 0, none⟩ = some (.map (some mb)) ∧ W.cell? ⟨cb, 0, none⟩ = some (PT bud) ∧ W.ownsMap Tryz.prog 9 (plainElem (H := Unit) Tryz.prog 3) mb SX.length (keysD SX) := ⟨_, rfl⟩
  have hSof : ∀ {W : World} {t : Int}, FindAt W B cb cm cs bud mb g t0 ⟨SX, t⟩ k VS PS → S W := fun {W t} h => by
    rw [hSd]
    exact ⟨by have := h.cm.cell 0; simpa using this, by have := h.cb.cell 0; simpa using this, h.map⟩
  have hS1 : ∀ W, S W → W.cell? ⟨cm, 0, none⟩ = some (.map (some mb)) := fun W h => by rw [hSd] at h; exact h.1
  have hS2 : ∀ W, S W → W.cell? ⟨cb, 0, none⟩ = some (PT bud) := fun W h => by rw [hSd] at h; exact h.2.1
  have hS3 : ∀ W, S W → W.ownsMap Tryz.prog 9 (plainElem (H := Unit) Tryz.prog 3) mb SX.length (keysD SX) := fun W h => by rw [hSd] at h; exact h.2.2
  clear hSd
  have hS := hSof hF
  refine wp_region_noPanic (wp_region_held (S := S) (by kernel_rfl) ?_)
  show wpAnyH _ _ _ _ _ 7 #[false, false, false, false, false, false, false] _ _
  generalize ({ W6 with drawn := W6.drawn + 1 } : World) = W at hF HL hS ⊢
  have HTK := hide (take_any bud (g + t0) (sh t0 s.t) 1 W hF.bud ⟨by omega, by omega⟩)
  rw [aft_sh h0] at HTK
  refine h_take 0 (.map (some mb)) rfl (by kernel_rfl) (by kernel_rfl) (by kernel_rfl) rfl (fun w hw => x_loadM _ _ _ _ _ _ _ cm _ rfl w (hS1 w hw)) hS ?_
  simp only [Act.put, List.setIfInBounds_toArray, List.set_cons_succ, List.set_cons_zero]
  refine h_take 1 (.string (strB x.key)) rfl (by kernel_rfl) (by kernel_rfl) (by kernel_rfl) rfl (fun w hw => x_move _ _ _ _ _ _ _ _ rfl w) hS ?_
  simp only [Act.put, List.setIfInBounds_toArray, List.set_cons_succ, List.set_cons_zero]
  refine h_take 2 (.int .i64 (s.S.length : Nat)) rfl (by kernel_rfl) (by kernel_rfl) (by kernel_rfl) rfl (fun w hw => x_lookI _ _ _ _ _ _ _ _ mb _ _ _ _ _ rfl rfl hkey (HAT.out _) w (hS3 w hw)) hS ?_
  simp only [Act.put, List.setIfInBounds_toArray, List.set_cons_succ, List.set_cons_zero]
  refine h_take 3 (PT bud) rfl (by kernel_rfl) (by kernel_rfl) (by kernel_rfl) rfl (fun w hw => x_loadBd _ _ _ _ _ _ _ cb _ rfl w (hS2 w hw)) hS ?_
  simp only [Act.put, List.setIfInBounds_toArray, List.set_cons_succ, List.set_cons_zero]
  refine h_callE 4 40 #[PT bud, .int .i64 1] (fun v w' => v = .int .i64 (errI (aft g s.t 1).2) ∧ FindAt w' B cb cm cs bud mb g t0 ⟨SX, (aft g s.t 1).1⟩ k VS PS ∧ Left W w' B bud) rfl (by kernel_rfl) rfl
    (x_call2 _ _ _ _ _ _ _ _ _ _ _ _ _ rfl rfl rfl (enters_of Tryz.func40 (by kernel_rfl) rfl) _)
    (HTK.out.mono fun e w' h => ⟨_, h.1, rfl, hF.take h.2.1 h.2.2, .take hF.bud h.2.2⟩) (fun v w' h => hSof h.2.1) ?_
  rintro v4 W4 ⟨rfl, h4, hl4⟩
  simp only [Act.put, List.setIfInBounds_toArray, List.set_cons_succ, List.set_cons_zero]
  have hS4 := hSof h4
  refine h_take 5 (.int .i64 (s.S.length : Nat)) rfl (by kernel_rfl) (by kernel_rfl) (by kernel_rfl) rfl (fun w hw => x_assign _ _ _ _ _ _ _ _ rfl w) hS4 ?_
  simp only [Act.put, List.setIfInBounds_toArray, List.set_cons_succ, List.set_cons_zero]
  refine h_take 6 (.int .i64 (errI (aft g s.t 1).2)) rfl (by kernel_rfl) (by kernel_rfl) (by kernel_rfl) rfl (fun w hw => x_assign _ _ _ _ _ _ _ _ rfl w) hS4 ?_
  simp only [Act.put, List.setIfInBounds_toArray, List.set_cons_succ, List.set_cons_zero]
  refine wpAnyH_done (by kernel_rfl) ?_ _
  refine NoPanic.normal ?_
  have H4 := hide h4
  have HL4 := hide (HL.out.trans hl4)
  clear hS hSof hS1 hS2 hS3 h4 hl4 hS4 hF HL HTK hkey HAT
  go_wp2
  exact bodyPost_ret (v := .tuple #[.int .i64 s.S.length, .int .i64 (errI (aft g s.t 1).2)]) (by simp [results, Tryz.results38, go_sem]) rfl ⟨VS, rfl, by rw [← hPS, ← hSX]; exact H4.out, HL4.out⟩
/-- All three ways. -/
theorem find_any (W : World) (B cb cm cs bud mb : Nat) (g t0 : Int) (h0 : 0 ≤ t0) (s : Bs) (k : Nat) (vs : Value) (ps : List Value) (h : FindAt W B cb cm cs bud mb g t0 s k vs ps) (hok : BsOk g s) (x : RE) (p : Nat) (hx : @ReAt (forbOf vs) W p x) (hw : Wf x) (hT : TabAt W) (hB : B ≤ W.heap.size) (hg : g < 1000000) :
    Calls Tryz.prog 38 #[PT p, PT cb, PT cm, PT cs] W fun e W' => ∃ (i : Int) (vs' : Value) (l : List Value), e = .returned (.tuple #[.int .i64 i, .int .i64 (errI (fnd g s x).2.isSome)]) ∧ (∀ q, (fnd g s x).2 = some q → i = (q : Nat)) ∧
      FindAt W' B cb cm cs bud mb g t0 (fnd g s x).1 k vs' (ps ++ l) ∧ Left W W' B bud := by
  by_cases hs : 20000 < x.size
  · have e : fnd g s x = (⟨s.S, (aft g s.t 1).1⟩, none) := by unfold fnd; rw [if_pos hs]
    refine (@find_big (forbOf vs) W B cb cm cs bud mb g t0 h0 s k vs ps h x p hx hs).mono ?_
    rintro e' W' ⟨rfl, h1, h2⟩
    rw [e]
    refine ⟨0, vs, [], rfl, (fun q (hq : none = some q) => nomatch hq), ?_, h2⟩
    rw [List.append_nil]; exact h1
  · cases hq : posL x s.S with
    | some q =>
      have e : fnd g s x = (s, some q) := by unfold fnd; rw [if_neg hs, hq]
      refine (@find_known (forbOf vs) W B cb cm cs bud mb g t0 h0 s k vs ps h hok x p q hx hw (by omega) hq hT).mono ?_
      rintro e' W' ⟨rfl, h1⟩
      rw [e]
      refine ⟨q, vs, [], rfl, fun q' (hq' : some q = some q') => (by injection hq' with hq'; rw [hq']), ?_, .of h1 hB⟩
      rw [List.append_nil]; exact h.keep h1
    | none =>
      have e : fnd g s x = (⟨s.S ++ [x], (aft g s.t 1).1⟩, if (aft g s.t 1).2 then some s.S.length else none) := by unfold fnd; rw [if_neg hs, hq]
      refine (find_new W B cb cm cs bud mb g t0 h0 s k vs ps h hok x p hx hw (by omega) hq hT hB (by have := hok.t; have := hok.g; omega)).mono ?_
      rintro e' W' ⟨v', rfl, h1, h2⟩
      rw [e]
      refine ⟨s.S.length, v', [PT p], ?_, fun q hq => ?_, h1, h2⟩
      · cases (aft g s.t 1).2 <;> rfl
      · have hq : (if (aft g s.t 1).2 then some s.S.length else none) = some q := hq
        cases hb : (aft g s.t 1).2 with
        | false => rw [hb] at hq; cases hq
        | true => rw [hb] at hq; injection hq with hq; rw [hq]
end Go.Proofs.YtjcfnmjjkadaeaaGreatDoor
/- A row of states: where a part of bytes leads to is asked for once. -/
namespace Go.Proofs.YtjcfnmjjkadaeaaGreatDoor
set_option maxRecDepth 100000
set_option linter.unusedSimpArgs false
set_option linter.unusedVariables false
open Go.RowKit

/-- Of each part the state that was found, or none yet. -/
structure CE (x : RE) (pl : List (BitVec 256)) (S : List RE) (ends : List Int) : Prop where
  len : ends.length = pl.length
  at' : ∀ j, j < pl.length → ends.getD j 0 = -1 ∨ ∃ q h : Nat, ends.getD j 0 = (q : Int) ∧ h < 256 ∧ (pl.getD j 0).getLsbD h = true ∧ posL (rBy h x) S = some q ∧ (rBy h x).size ≤ 20000
theorem CE.start (x : RE) (pl : List (BitVec 256)) (S : List RE) : CE x pl S (List.replicate pl.length (-1)) :=
  ⟨by simp, fun j hj => .inl (by simp [List.getD_eq_getElem?_getD, hj])⟩
theorem CE.more {x : RE} {pl : List (BitVec 256)} {S : List RE} {ends : List Int} (h : CE x pl S ends) {s s' : Bs} (hS : s.S = S) (hl : BsLe s s') : CE x pl s'.S ends := by
  obtain ⟨l, e⟩ := hl.S
  refine ⟨h.len, fun j hj => (h.at' j hj).imp id ?_⟩
  rintro ⟨q, b, h1, h2, h3, h4, h5⟩
  exact ⟨q, b, h1, h2, h3, by rw [e, hS]; exact posL_more h4, h5⟩
theorem getD_setI {l : List Int} {i j : Nat} {v : Int} (hi : i < l.length) : (l.set i v).getD j 0 = if j = i then v else l.getD j 0 := by
  simp only [List.getD_eq_getElem?_getD, List.getElem?_set]
  by_cases e : i = j
  · subst e; simp [hi]
  · rw [if_neg e, if_neg (fun h => e h.symm)]
theorem CE.set {x : RE} {pl : List (BitVec 256)} {S : List RE} {ends : List Int} (h : CE x pl S ends) {j q b : Nat} (hj : j < pl.length) (hb : b < 256) (hjb : (pl.getD j 0).getLsbD b = true) (hp : posL (rBy b x) S = some q) (hs : (rBy b x).size ≤ 20000) : CE x pl S (ends.set j (q : Int)) := by
  refine ⟨by rw [List.length_set]; exact h.len, fun i hi => ?_⟩
  rw [getD_setI (by rw [h.len]; exact hj)]
  by_cases e : i = j
  · subst e
    rw [if_pos rfl]
    exact .inr ⟨q, b, rfl, hb, hjb, hp, hs⟩
  · rw [if_neg e]; exact h.at' i hi
/-- Two bytes of one part have the same behind them. -/
theorem part_same {l pl : List (BitVec 256)} (h : IsPart l pl) {j a b : Nat} (hj : j < pl.length) (ha : a < 256) (hb : b < 256) (h1 : (pl.getD j 0).getLsbD a = true) (h2 : (pl.getD j 0).getLsbD b = true) : ∀ s ∈ l, s.getLsbD a = s.getLsbD b := by
  rw [List.getD_eq_getElem?_getD, List.getElem?_eq_getElem hj] at h1 h2
  exact ((h.mem _ (List.getElem_mem hj)).2 a ha h1 b hb).1 h2
theorem CE.hit {x : RE} {pl : List (BitVec 256)} {s : Bs} {ends : List Int} (hp : IsPart (x.sts true) pl) (h : CE x pl s.S ends) (g : Int) {j b : Nat} (hj : j < pl.length) (hb : b < 256) (hjb : (pl.getD j 0).getLsbD b = true) (hne : ¬ ends.getD j 0 < 0) :
    ∃ q : Nat, ends.getD j 0 = (q : Int) ∧ fnd g s (rBy b x) = (s, some q) := by
  rcases h.at' j hj with e | ⟨q, a, h1, h2, h3, h4, h5⟩
  · omega
  · refine ⟨q, h1, ?_⟩
    rw [by_same a b x (part_same hp hj h2 hb h3 hjb)] at h4 h5
    unfold fnd
    rw [if_neg (by omega), h4]
/-- The part of a byte. -/
theorem idx_part {l pl : List (BitVec 256)} (h : IsPart l pl) {b : Nat} (hb : b < 256) : idxF pl pl.length b < pl.length ∧ (pl.getD (idxF pl pl.length b) 0).getLsbD b = true := by
  obtain ⟨p, hp, hpb⟩ := h.cov b hb
  obtain ⟨i, hi, rfl⟩ := List.mem_iff_getElem.1 hp
  exact idxF_has (pl := pl) (b := b) pl.length (Nat.le_refl _) ⟨i, hi, by rw [List.getD_eq_getElem?_getD, List.getElem?_eq_getElem hi]; exact hpb⟩
/-- The row from a place on, one step. -/
theorem rowA_drop {g : Int} {x : RE} {hs : List Nat} {k : Nat} {s : Bs} {acc : List Nat} (hk : k < hs.length) : rowA g x (hs.drop k) s acc = match fnd g s (rBy (hs.getD k 0) x) with
    | (s1, none) => (s1, none)
    | (s1, some q) => rowA g x (hs.drop (k + 1)) s1 (acc ++ [q]) := by
  rw [List.drop_eq_getElem_cons hk, rowA]
  have : hs.getD k 0 = hs[k] := by simp [List.getD_eq_getElem?_getD, hk]
  rw [this]
  cases fnd g s (rBy hs[k] x) with
  | mk s1 o => cases o <;> rfl
end Go.Proofs.YtjcfnmjjkadaeaaGreatDoor
