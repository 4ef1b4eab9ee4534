/- bytes.Compare; compareSets. -/
import Derived.Test.YtkjmjppmpcnejaaGreatDoorReC
import Derived.Lib.BytesEntry
namespace Go.Proofs.YtkjmjppmpcnejaaGreatDoor
set_option maxRecDepth 100000
set_option linter.unusedSimpArgs false
set_option linter.unusedVariables false
open Go.RowKit

/-- How two lists of numbers compare. -/
def lexN : List Nat → List Nat → Int
  | [], [] => 0
  | [], _ :: _ => -1
  | _ :: _, [] => 1
  | a :: ar, b :: br => if a < b then -1 else if b < a then 1 else lexN ar br
theorem lex_bytes : ∀ (a b : List Nat), (∀ x ∈ a, x < 256) → (∀ x ∈ b, x < 256) → Lib.compareBytes (Lib.bytesOf (a.map fun x : Nat => (x : Int))) (Lib.bytesOf (b.map fun x : Nat => (x : Int))) = lexN a b
  | [], [], _, _ => rfl
  | [], _ :: _, _, _ => rfl
  | _ :: _, [], _, _ => rfl
  | a :: ar, b :: br, ha, hb => by
    have ih := lex_bytes ar br (fun x hx => ha x (by simp [hx])) (fun x hx => hb x (by simp [hx]))
    have h1 := ha a (by simp)
    have h2 := hb b (by simp)
    simp only [Lib.bytesOf, List.map_cons, Lib.compareBytes, lexN] at ih ⊢
    have e1 : (((a : Int).toNat.toUInt8 < (b : Int).toNat.toUInt8)) ↔ a < b := by
      rw [UInt8.lt_iff_toNat_lt]; simp; omega
    have e2 : (((b : Int).toNat.toUInt8 < (a : Int).toNat.toUInt8)) ↔ b < a := by
      rw [UInt8.lt_iff_toNat_lt]; simp; omega
    simp only [e1, e2, ih]

/-- A slice of bytes. -/
def BytesAt (w : World) (v : Value) (l : List Nat) : Prop :=
  ∃ a cap, v = .slice a l.length cap ∧ (a = none → l = []) ∧ ∀ ad, a = some ad → ∀ (j : Nat) (x : Nat), l[j]? = some x → w.cell? (ad.add j) = some (.int .u8 x)
theorem BytesAt.of_own {w : World} {base n : Nat} {v : Value} {l : List Nat} (h : OwnU w base v n (byteV l)) : BytesAt w v l := by
  have hl : l.length = n := by have := h.1; simpa [byteV] using this
  rcases h.2 with ⟨rfl, hn⟩ | ⟨g, cap, cur, t, rfl, -⟩
  · subst hn
    have : l = [] := List.eq_nil_of_length_eq_zero hl
    subst this
    exact ⟨none, 0, rfl, fun _ => rfl, fun ad hd => by cases hd⟩
  · refine ⟨some ⟨g, 0, none⟩, cap, by rw [hl], (fun h => by cases h), fun ad hd j x hx => ?_⟩
    cases hd
    rw [Go.WideShapes.add_plain, Nat.zero_add]
    exact h.cells j _ (by simp [byteV, hx])
theorem run_bytesAt {w : World} {v : Value} {l : List Nat} (h : BytesAt w v l) : (Extern.Bytes.bytesOf v).run Tryz.prog w = .ok ⟨(Lib.bytesOf (l.map fun x : Nat => (x : Int))).toArray⟩ w := by
  obtain ⟨a, cap, rfl, h1, h2⟩ := h
  cases a with
  | none =>
    have := h1 rfl
    subst this
    simp [Extern.Bytes.bytesOf, Lib.bytesOf]
    rfl
  | some ad =>
    have hl := Lib.run_loadBytesX (P := Tryz.prog) w (l.map fun x : Nat => (x : Int)) ad .empty (fun j x hj => by
      rw [List.getElem?_map] at hj
      cases e : l[j]? with
      | none => rw [e] at hj; cases hj
      | some y => rw [e] at hj; cases hj; exact h2 ad rfl j y e)
    rw [List.length_map] at hl
    simp only [Extern.Bytes.bytesOf, hl]
    congr 1
    apply ByteArray.ext
    simp
theorem bytesCompare_any (a b : List Nat) (va vb : Value) (w : World) (ha : BytesAt w va a) (hb : BytesAt w vb b) (h1 : ∀ x ∈ a, x < 256) (h2 : ∀ x ∈ b, x < 256) :
    Calls Tryz.prog 83 #[va, vb] w fun e w' => e = .returned (.int .i64 (lexN a b)) ∧ w' = w := by
  have hx : (Extern.BytealgCompare.compare #[va, vb]).run Tryz.prog w = .ok (.int .i64 (lexN a b)) w := by
    change Sem.run Tryz.prog (do pure (goInt (Extern.BytealgCompare.cmp (← Extern.Bytes.bytesOf va) (← Extern.Bytes.bytesOf vb)))) w = _
    simp only [Sem.run_bind, run_bytesAt ha, run_bytesAt hb, Sem.run_pure, Result.andThen]
    rw [Lib.cmp_eq, lex_bytes a b h1 h2]
    rfl
  go_enter Tryz.func83, Tryz.ntmps83
  go_wp2
  rw [run_callFunc_extern Tryz.func93 (by kernel_rfl) (by kernel_rfl) (by kernel_rfl) (e := Extern.BytealgCompare.compare) (by kernel_rfl), hx]
  simp only [Result.andThen]
  rw [Oper.upon_value]
  go_wp2
  go_ret
  exact ⟨rfl, rfl⟩

/-- How two numbers compare. -/
def cmpN (x y : Nat) : Int := if x < y then -1 else if y < x then 1 else 0
theorem compareOp_any (x y : Nat) (w : World) :
    Calls Tryz.prog 65 #[.int .i64 x, .int .i64 y] w fun e w' => e = .returned (.int .i64 (cmpN x y)) ∧ w' = w := by
  go_enter Tryz.func65, Tryz.ntmps65
  go_wp2
  all_goals
    go_ret
    refine ⟨?_, rfl⟩
    unfold cmpN
    repeat' split
    all_goals first | rfl | omega

theorem foldl_runStep_all (p : Nat → Prop) : ∀ (l : List Nat) (st : List (Nat × Nat) × Option (Nat × Nat)), (∀ x ∈ l, p x) → (∀ r ∈ st.1 ++ st.2.toList, p r.1 ∧ p r.2) → ∀ r ∈ (l.foldl runStep st).1 ++ (l.foldl runStep st).2.toList, p r.1 ∧ p r.2
  | [], st, _, h => h
  | b :: l, (em, cur), hl, h => by
    refine foldl_runStep_all p l _ (fun x hx => hl x (by simp [hx])) ?_
    have hb := hl b (by simp)
    cases cur with
    | none =>
      intro r hr
      simp [runStep] at hr
      rcases hr with hr | rfl
      · exact h r (by simp [hr])
      · exact ⟨hb, hb⟩
    | some q =>
      obtain ⟨f, la⟩ := q
      have hq := h (f, la) (by simp)
      intro r hr
      simp only [runStep] at hr
      split at hr
      · simp at hr
        rcases hr with hr | rfl
        · exact h r (by simp [hr])
        · exact ⟨hq.1, hb⟩
      · simp at hr
        rcases hr with hr | rfl | rfl
        · exact h r (by simp [hr])
        · exact hq
        · exact ⟨hb, hb⟩
theorem rnB_lt (s : BitVec 256) : ∀ x ∈ rnB (runsOf s), x < 256 := by
  intro x hx
  simp only [rnB, List.mem_flatMap] at hx
  obtain ⟨r, hr, hx⟩ := hx
  have := foldl_runStep_all (fun x => x < 256) (bytesOf s) ([], none) (fun x hx => bytesOf_lt s x hx) (by simp) r hr
  simp at hx
  rcases hx with rfl | rfl
  · exact this.1
  · exact this.2
def z16 : Array Value := #[.int .u8 0, .int .u8 0, .int .u8 0, .int .u8 0, .int .u8 0, .int .u8 0, .int .u8 0, .int .u8 0, .int .u8 0, .int .u8 0, .int .u8 0, .int .u8 0, .int .u8 0, .int .u8 0, .int .u8 0, .int .u8 0]
theorem x_slice16 (ρ : Operand → Value) (d : Option Tmp) (x : Operand) (ty : TypeId) (pos : String) (af : Array Edge) (g : Option (Nat × Bool)) (b : Nat) (hx : ρ x = PT b) (hc : ρ (.const (.int .i64 0)) = .int .i64 0) (w : World) :
    (execOp ρ { dst := d, op := .slice 105 x none (some (.const (.int .i64 0))) none, type := ty, pos := pos, after := af, guard := g }).run Tryz.prog w = .ok (.value (.slice (some ⟨b, 0, none⟩) 0 16)) w := by
  simp [go_sem, hx, hc, PT]
theorem own16 {W : World} {N b : Nat} (h : Blk W b z16 105) (hN : N ≤ b) : OwnU W N (.slice (some ⟨b, 0, none⟩) 0 16) 0 [] :=
  ⟨rfl, .inr ⟨b, 16, z16, _, rfl, hN, h, by omega, by unfold maxLen; omega, rfl, rfl⟩⟩

set_option maxHeartbeats 1000000 in
theorem compareSets_any (s t : BitVec 256) (w : World) (hT : TabAt w) :
    Calls Tryz.prog 66 #[SV s, SV t] w fun e w' => e = .returned (.int .i64 (lexN (rnB (runsOf s)) (rnB (runsOf t)))) ∧ Below w.heap.size w w' ∧ w.drawn ≤ w'.drawn := by
  have HT := hide hT
  clear hT
  go_enter Tryz.func66, Tryz.ntmps66
  go_wp2
  have hG : 1 < w.heap.size := World.block_lt_of_cell? _ _ (HT.out 0 (by omega))
  obtain ⟨N, hN⟩ : ∃ N, N = w.heap.size := ⟨_, rfl⟩
  rw [← hN] at hG ⊢
  refine wp_world (fun W => (Blk W N (WS s) 42 ∧ Blk W (N + 1) (WS t) 42) ∧ (Blk W (N + 2) z16 105 ∧ Blk W (N + 3) z16 105) ∧ Below N w W ∧ w.drawn ≤ W.drawn) ⟨⟨?_, ?_⟩, ⟨?_, ?_⟩, ?_, ?_⟩ ?_
  · exact (((Blk.newAt hN _ _).alloc _).alloc _).alloc _
  · exact ((Blk.newAt (by simp [hN]) _ _).alloc _).alloc _
  · exact (Blk.newAt (by simp [hN]) _ _).alloc _
  · exact Blk.newAt (by simp [hN]) _ _
  · exact ((((Below.refl N w).alloc (Nat.le_of_eq hN) _).alloc (by simp; omega) _).alloc (by simp; omega) _).alloc (by simp; omega) _
  · exact Nat.le_refl _
  rintro W0 ⟨⟨k0, k1⟩, ⟨k2, k3⟩, hbel, hdr⟩
  obtain ⟨S, hSd⟩ : ∃ S : World → Prop, S = fun W => Blk W N (WS s) 42 ∧ Blk W (N + 1) (WS t) 42 ∧ Below N w W ∧ w.drawn ≤ W.drawn := ⟨_, rfl⟩
  have hS0 : ∀ W, S W → Blk W N (WS s) 42 := fun W h => by rw [hSd] at h; exact h.1
  have hS1 : ∀ W, S W → Blk W (N + 1) (WS t) 42 := fun W h => by rw [hSd] at h; exact h.2.1
  have hSb : ∀ W, S W → Below N w W := fun W h => by rw [hSd] at h; exact h.2.2.1
  have hSw : ∀ W, S W → w.drawn ≤ W.drawn := fun W h => by rw [hSd] at h; exact h.2.2.2
  have hSg : ∀ W W' b, N + 2 ≤ b → S W → W.grownBy W' (some b) → W.drawn ≤ W'.drawn → S W' := fun W W' b hb h hg hd => by
    rw [hSd] at h ⊢
    have hz := h.2.1.lt
    refine ⟨(hg.block N (by omega) (by simp; omega)).trans h.1, (hg.block (N + 1) hz (by simp; omega)).trans h.2.1, ⟨hg.os.trans h.2.2.1.os, hg.tape.trans h.2.2.1.tape, hg.output.trans h.2.2.1.output, Nat.le_trans h.2.2.1.size hg.size, fun k hk => (hg.block k (by omega) (by simp; omega)).trans (h.2.2.1.block k hk)⟩, Nat.le_trans h.2.2.2 hd⟩
  have hS : S { W0 with drawn := W0.drawn + 1 } := by
    rw [hSd]
    exact ⟨k0, k1, ⟨hbel.os, hbel.tape, hbel.output, hbel.size, hbel.block⟩, Nat.le_trans hdr (Nat.le_succ _)⟩
  have hSt : ∀ W, S W → TabAt W := fun W h => HT.out.agree (Agree.of_all (K := fun _ => True) (hN ▸ hSb W h)) trivial
  have j2 : Blk { W0 with drawn := W0.drawn + 1 } (N + 2) z16 105 := k2
  have j3 : Blk { W0 with drawn := W0.drawn + 1 } (N + 3) z16 105 := k3
  clear hSd k0 k1 k2 k3 hbel hdr
  refine wp_region_noPanic (wp_region_held (S := S) (by kernel_rfl) ?_)
  show wpAnyH _ _ _ _ _ 8 #[false, false, false, false, false, false, false, false] _ _
  generalize ({ W0 with drawn := W0.drawn + 1 } : World) = W at hS j2 j3 ⊢
  refine h_take 0 (.slice (some ⟨N + 2, 0, none⟩) 0 16) rfl (by kernel_rfl) (by kernel_rfl) (by kernel_rfl) rfl (fun w hw => x_slice16 _ _ _ _ _ _ _ _ rfl rfl w) hS ?_
  simp only [Act.put, List.setIfInBounds_toArray, List.set_cons_succ, List.set_cons_zero]
  refine h_take 1 (SV s) rfl (by kernel_rfl) (by kernel_rfl) (by kernel_rfl) rfl (fun w hw => x_loadSet _ _ _ _ _ _ _ _ s rfl w (hS0 w hw)) hS ?_
  simp only [Act.put, List.setIfInBounds_toArray, List.set_cons_succ, List.set_cons_zero]
  refine h_take 3 (.slice (some ⟨N + 3, 0, none⟩) 0 16) rfl (by kernel_rfl) (by kernel_rfl) (by kernel_rfl) rfl (fun w hw => x_slice16 _ _ _ _ _ _ _ _ rfl rfl w) hS ?_
  simp only [Act.put, List.setIfInBounds_toArray, List.set_cons_succ, List.set_cons_zero]
  refine h_take 4 (SV t) rfl (by kernel_rfl) (by kernel_rfl) (by kernel_rfl) rfl (fun w hw => x_loadSet _ _ _ _ _ _ _ _ t rfl w (hS1 w hw)) hS ?_
  simp only [Act.put, List.setIfInBounds_toArray, List.set_cons_succ, List.set_cons_zero]
  have z3 := j3.lt
  refine h_callE 2 81 #[.slice (some ⟨N + 2, 0, none⟩) 0 16, SV s] (fun v w' => OwnU w' N v (0 + 2 * (runsOf s).length) ([] ++ byteV (rnB (runsOf s))) ∧ W.grownBy w' (some (N + 2)) ∧ (v.ownBlock = some (N + 2) ∨ ∃ g, v.ownBlock = some g ∧ W.heap.size ≤ g) ∧ W.drawn ≤ w'.drawn) rfl (by kernel_rfl) rfl
    (x_call2 _ _ _ _ _ _ _ _ _ _ _ _ _ rfl rfl rfl (enters_of Tryz.func81 (by kernel_rfl) rfl) _) ((appendRuns_any s _ 0 N [] W (own16 j2 (by omega)) (by omega) hG (by omega) (hSt W hS)).mono fun e w' h => h) (fun v w' h => hSg W w' _ (by omega) hS h.2.1 h.2.2.2) ?_
  rintro v1 W1 ⟨o1, g1, b1, d1⟩
  simp only [Act.put, List.setIfInBounds_toArray, List.set_cons_succ, List.set_cons_zero]
  have hS' := hSg W W1 _ (by omega) hS g1 d1
  have j3' : Blk W1 (N + 3) z16 105 := (g1.block (N + 3) z3 (by simp)).trans j3
  have z3' := j3'.lt
  refine h_callE 5 81 #[.slice (some ⟨N + 3, 0, none⟩) 0 16, SV t] (fun v w' => OwnU w' N v (0 + 2 * (runsOf t).length) ([] ++ byteV (rnB (runsOf t))) ∧ W1.grownBy w' (some (N + 3)) ∧ (v.ownBlock = some (N + 3) ∨ ∃ g, v.ownBlock = some g ∧ W1.heap.size ≤ g) ∧ W1.drawn ≤ w'.drawn) rfl (by kernel_rfl) rfl
    (x_call2 _ _ _ _ _ _ _ _ _ _ _ _ _ rfl rfl rfl (enters_of Tryz.func81 (by kernel_rfl) rfl) _) ((appendRuns_any t _ 0 N [] W1 (own16 j3' (by omega)) (by omega) hG (by omega) (hSt W1 hS')).mono fun e w' h => h) (fun v w' h => hSg W1 w' _ (by omega) hS' h.2.1 h.2.2.2) ?_
  rintro v2 W2 ⟨o2, g2, b2, d2⟩
  simp only [Act.put, List.setIfInBounds_toArray, List.set_cons_succ, List.set_cons_zero]
  have hS2 := hSg W1 W2 _ (by omega) hS' g2 d2
  have o1' : OwnU W2 N v1 (0 + 2 * (runsOf s).length) ([] ++ byteV (rnB (runsOf s))) := o1.keep fun g hg => g2.block g (o1.own_lt hg).2 (fun e => by
    injection e with e
    rcases b1 with h | ⟨g', h, hg'⟩
    · rw [hg] at h; injection h; omega
    · rw [hg] at h; injection h; omega)
  rw [List.nil_append] at o1' o2
  refine h_callE 6 83 #[v1, v2] (fun v w' => v = .int .i64 (lexN (rnB (runsOf s)) (rnB (runsOf t))) ∧ w' = W2) rfl (by kernel_rfl) rfl
    (x_call2 _ _ _ _ _ _ _ _ _ _ _ _ _ rfl rfl rfl (enters_of Tryz.func83 (by kernel_rfl) rfl) _) ((bytesCompare_any _ _ v1 v2 W2 (.of_own o1') (.of_own o2) (rnB_lt s) (rnB_lt t)).mono fun e w' h => ⟨_, h.1, rfl, h.2⟩) (fun v w' h => h.2 ▸ hS2) ?_
  rintro v3 W3 ⟨rfl, rfl⟩
  simp only [Act.put, List.setIfInBounds_toArray, List.set_cons_succ, List.set_cons_zero]
  refine h_take 7 (.int .i64 (lexN (rnB (runsOf s)) (rnB (runsOf t)))) rfl (by kernel_rfl) (by kernel_rfl) (by kernel_rfl) rfl (fun w hw => x_assign _ _ _ _ _ _ _ _ rfl w) hS2 ?_
  simp only [Act.put, List.setIfInBounds_toArray, List.set_cons_succ, List.set_cons_zero]
  refine wpAnyH_done (by kernel_rfl) ?_ _
  refine NoPanic.normal ?_
  have HB := hide (hSb _ hS2)
  have HD := hide (hSw _ hS2)
  clear hS hS0 hS1 hSb hSg hSt hSw hS' hS2 o1 o1' o2 g1 g2 b1 b2 d1 d2
  have HN := hide hN
  clear hN
  go_wp2
  go_ret
  exact ⟨rfl, HN.out ▸ HB.out, HD.out⟩
end Go.Proofs.YtkjmjppmpcnejaaGreatDoor
