/- Texts of this claim put together: ReD, MathKey. -/
import Derived.Test.YthhfpjehamhcbaaGreatDoorJoinReC
import Derived.Lib.BytesEntry
/- bytes.Compare; compareSets. -/
namespace Go.Proofs.YthhfpjehamhcbaaGreatDoor
set_option maxRecDepth 100000
set_option linter.unusedSimpArgs false
set_option linter.unusedVariables false
open Go.RowKit

/-- How two lists of numbers compare. -/
def lexN : List Nat → List Nat → Int
  | [], [] => 0
  | [], _ :: _ => -1
  | _ :: _, [] => 1
  | a :: ar, b :: br => if a < b then -1 else if b < a then 1 else lexN ar br
theorem lex_bytes : ∀ (a b : List Nat), (∀ x ∈ a, x < 256) → (∀ x ∈ b, x < 256) → Lib.compareBytes (Lib.bytesOf (a.map fun x : Nat => (x : Int))) (Lib.bytesOf (b.map fun x : Nat => (x : Int))) = lexN a b
  | [], [], _, _ => rfl
  | [], _ :: _, _, _ => rfl
  | _ :: _, [], _, _ => rfl
  | a :: ar, b :: br, ha, hb => by
    have ih := lex_bytes ar br (fun x hx => ha x (by simp [hx])) (fun x hx => hb x (by simp [hx]))
    have h1 := ha a (by simp)
    have h2 := hb b (by simp)
    simp only [Lib.bytesOf, List.map_cons, Lib.compareBytes, lexN] at ih ⊢
    have e1 : (((a : Int).toNat.toUInt8 < (b : Int).toNat.toUInt8)) ↔ a < b := by
      rw [UInt8.lt_iff_toNat_lt]; simp; omega
    have e2 : (((b : Int).toNat.toUInt8 < (a : Int).toNat.toUInt8)) ↔ b < a := by
      rw [UInt8.lt_iff_toNat_lt]; simp; omega
    simp only [e1, e2, ih]

/-- A slice of bytes. -/
def BytesAt (w : World) (v : Value) (l : List Nat) : Prop :=
  ∃ a cap, v = .slice a l.length cap ∧ (a = none → l = []) ∧ ∀ ad, a = some ad → ∀ (j : Nat) (x : Nat), l[j]? = some x → w.cell? (ad.add j) = some (.int .u8 x)
theorem BytesAt.of_own {w : World} {base n : Nat} {v : Value} {l : List Nat} (h : OwnU w base v n (byteV l)) : BytesAt w v l := by
  have hl : l.length = n := by have := h.1; simpa [byteV] using this
  rcases h.2 with ⟨rfl, hn⟩ | ⟨g, cap, cur, t, rfl, -⟩
  · subst hn
    have : l = [] := List.eq_nil_of_length_eq_zero hl
    subst this
    exact ⟨none, 0, rfl, fun _ => rfl, fun ad hd => by cases hd⟩
  · refine ⟨some ⟨g, 0, none⟩, cap, by rw [hl], (fun h => by cases h), fun ad hd j x hx => ?_⟩
    cases hd
    rw [Go.WideShapes.add_plain, Nat.zero_add]
    exact h.cells j _ (by simp [byteV, hx])
theorem run_bytesAt {w : World} {v : Value} {l : List Nat} (h : BytesAt w v l) : (Extern.Bytes.bytesOf v).run Tryz.prog w = .ok ⟨(Lib.bytesOf (l.map fun x : Nat => (x : Int))).toArray⟩ w := by
  obtain ⟨a, cap, rfl, h1, h2⟩ := h
  cases a with
  | none =>
    have := h1 rfl
    subst this
    simp [Extern.Bytes.bytesOf, Lib.bytesOf]
    rfl
  | some ad =>
    have hl := Lib.run_loadBytesX (P := Tryz.prog) w (l.map fun x : Nat => (x : Int)) ad .empty (fun j x hj => by
      rw [List.getElem?_map] at hj
      cases e : l[j]? with
      | none => rw [e] at hj; cases hj
      | some y => rw [e] at hj; cases hj; exact h2 ad rfl j y e)
    rw [List.length_map] at hl
    simp only [Extern.Bytes.bytesOf, hl]
    congr 1
    apply ByteArray.ext
    simp
theorem bytesCompare_any (a b : List Nat) (va vb : Value) (w : World) (ha : BytesAt w va a) (hb : BytesAt w vb b) (h1 : ∀ x ∈ a, x < 256) (h2 : ∀ x ∈ b, x < 256) :
    Calls Tryz.prog 107 #[va, vb] w fun e w' => e = .returned (.int .i64 (lexN a b)) ∧ w' = w := by
  have hx : (Extern.BytealgCompare.compare #[va, vb]).run Tryz.prog w = .ok (.int .i64 (lexN a b)) w := by
    change Sem.run Tryz.prog (do pure (goInt (Extern.BytealgCompare.cmp (← Extern.Bytes.bytesOf va) (← Extern.Bytes.bytesOf vb)))) w = _
    simp only [Sem.run_bind, run_bytesAt ha, run_bytesAt hb, Sem.run_pure, Result.andThen]
    rw [Lib.cmp_eq, lex_bytes a b h1 h2]
    rfl
  go_enter Tryz.func107, Tryz.ntmps107
  go_wp2
  rw [run_callFunc_extern Tryz.func129 (by kernel_rfl) (by kernel_rfl) (by kernel_rfl) (e := Extern.BytealgCompare.compare) (by kernel_rfl), hx]
  simp only [Result.andThen]
  rw [Oper.upon_value]
  go_wp2
  go_ret
  exact ⟨rfl, rfl⟩

/-- How two numbers compare. -/
def cmpN (x y : Nat) : Int := if x < y then -1 else if y < x then 1 else 0
theorem compareOp_any (x y : Nat) (w : World) :
    Calls Tryz.prog 79 #[.int .i64 x, .int .i64 y] w fun e w' => e = .returned (.int .i64 (cmpN x y)) ∧ w' = w := by
  go_enter Tryz.func79, Tryz.ntmps79
  go_wp2
  all_goals
    go_ret
    refine ⟨?_, rfl⟩
    unfold cmpN
    repeat' split
    all_goals first | rfl | omega

theorem foldl_runStep_all (p : Nat → Prop) : ∀ (l : List Nat) (st : List (Nat × Nat) × Option (Nat × Nat)), (∀ x ∈ l, p x) → (∀ r ∈ st.1 ++ st.2.toList, p r.1 ∧ p r.2) → ∀ r ∈ (l.foldl runStep st).1 ++ (l.foldl runStep st).2.toList, p r.1 ∧ p r.2
  | [], st, _, h => h
  | b :: l, (em, cur), hl, h => by
    refine foldl_runStep_all p l _ (fun x hx => hl x (by simp [hx])) ?_
    have hb := hl b (by simp)
    cases cur with
    | none =>
      intro r hr
      simp [runStep] at hr
      rcases hr with hr | rfl
      · exact h r (by simp [hr])
      · exact ⟨hb, hb⟩
    | some q =>
      obtain ⟨f, la⟩ := q
      have hq := h (f, la) (by simp)
      intro r hr
      simp only [runStep] at hr
      split at hr
      · simp at hr
        rcases hr with hr | rfl
        · exact h r (by simp [hr])
        · exact ⟨hq.1, hb⟩
      · simp at hr
        rcases hr with hr | rfl | rfl
        · exact h r (by simp [hr])
        · exact hq
        · exact ⟨hb, hb⟩
theorem rnB_lt (s : BitVec 256) : ∀ x ∈ rnB (runsOf s), x < 256 := by
  intro x hx
  simp only [rnB, List.mem_flatMap] at hx
  obtain ⟨r, hr, hx⟩ := hx
  have := foldl_runStep_all (fun x => x < 256) (bytesOf s) ([], none) (fun x hx => bytesOf_lt s x hx) (by simp) r hr
  simp at hx
  rcases hx with rfl | rfl
  · exact this.1
  · exact this.2
def z16 : Array Value := #[.int .u8 0, .int .u8 0, .int .u8 0, .int .u8 0, .int .u8 0, .int .u8 0, .int .u8 0, .int .u8 0, .int .u8 0, .int .u8 0, .int .u8 0, .int .u8 0, .int .u8 0, .int .u8 0, .int .u8 0, .int .u8 0]
theorem x_slice16 (ρ : Operand → Value) (d : Option Tmp) (x : Operand) (ty : TypeId) (pos : String) (af : Array Edge) (g : Option (Nat × Bool)) (b : Nat) (hx : ρ x = PT b) (hc : ρ (.const (.int .i64 0)) = .int .i64 0) (w : World) :
    (execOp ρ { dst := d, op := .slice 125 x none (some (.const (.int .i64 0))) none, type := ty, pos := pos, after := af, guard := g }).run Tryz.prog w = .ok (.value (.slice (some ⟨b, 0, none⟩) 0 16)) w := by
  simp [go_sem, hx, hc, PT]
theorem own16 {W : World} {N b : Nat} (h : Blk W b z16 125) (hN : N ≤ b) : OwnU W N (.slice (some ⟨b, 0, none⟩) 0 16) 0 [] :=
  ⟨rfl, .inr ⟨b, 16, z16, _, rfl, hN, h, by omega, by unfold maxLen; omega, rfl, rfl⟩⟩

set_option maxHeartbeats 1000000 in
theorem compareSets_any (s t : BitVec 256) (w : World) (hT : TabAt w) :
    Calls Tryz.prog 80 #[SV s, SV t] w fun e w' => e = .returned (.int .i64 (lexN (rnB (runsOf s)) (rnB (runsOf t)))) ∧ Below w.heap.size w w' ∧ w.drawn ≤ w'.drawn := by
  have HT := hide hT
  clear hT
  go_enter Tryz.func80, Tryz.ntmps80
  go_wp2
  have hG : 0 < w.heap.size := World.block_lt_of_cell? _ _ (HT.out 0 (by omega))
  obtain ⟨N, hN⟩ : ∃ N, N = w.heap.size := ⟨_, rfl⟩
  rw [← hN] at hG ⊢
  refine wp_world (fun W => (Blk W N (WS s) 49 ∧ Blk W (N + 1) (WS t) 49) ∧ (Blk W (N + 2) z16 125 ∧ Blk W (N + 3) z16 125) ∧ Below N w W ∧ w.drawn ≤ W.drawn) ⟨⟨?_, ?_⟩, ⟨?_, ?_⟩, ?_, ?_⟩ ?_
  · exact (((Blk.newAt hN _ _).alloc _).alloc _).alloc _
  · exact ((Blk.newAt (by simp [hN]) _ _).alloc _).alloc _
  · exact (Blk.newAt (by simp [hN]) _ _).alloc _
  · exact Blk.newAt (by simp [hN]) _ _
  · exact ((((Below.refl N w).alloc (Nat.le_of_eq hN) _).alloc (by simp; omega) _).alloc (by simp; omega) _).alloc (by simp; omega) _
  · exact Nat.le_refl _
  rintro W0 ⟨⟨k0, k1⟩, ⟨k2, k3⟩, hbel, hdr⟩
  obtain ⟨S, hSd⟩ : ∃ S : World → Prop, S = fun W => Blk W N (WS s) 49 ∧ Blk W (N + 1) (WS t) 49 ∧ Below N w W ∧ w.drawn ≤ W.drawn := ⟨_, rfl⟩
  have hS0 : ∀ W, S W → Blk W N (WS s) 49 := fun W h => by rw [hSd] at h; exact h.1
  have hS1 : ∀ W, S W → Blk W (N + 1) (WS t) 49 := fun W h => by rw [hSd] at h; exact h.2.1
  have hSb : ∀ W, S W → Below N w W := fun W h => by rw [hSd] at h; exact h.2.2.1
  have hSw : ∀ W, S W → w.drawn ≤ W.drawn := fun W h => by rw [hSd] at h; exact h.2.2.2
  have hSg : ∀ W W' b, N + 2 ≤ b → S W → W.grownBy W' (some b) → W.drawn ≤ W'.drawn → S W' := fun W W' b hb h hg hd => by
    rw [hSd] at h ⊢
    have hz := h.2.1.lt
    refine ⟨(hg.block N (by omega) (by simp; omega)).trans h.1, (hg.block (N + 1) hz (by simp; omega)).trans h.2.1, ⟨hg.os.trans h.2.2.1.os, hg.tape.trans h.2.2.1.tape, hg.output.trans h.2.2.1.output, Nat.le_trans h.2.2.1.size hg.size, fun k hk => (hg.block k (by omega) (by simp; omega)).trans (h.2.2.1.block k hk)⟩, Nat.le_trans h.2.2.2 hd⟩
  have hS : S { W0 with drawn := W0.drawn + 1 } := by
    rw [hSd]
    exact ⟨k0, k1, ⟨hbel.os, hbel.tape, hbel.output, hbel.size, hbel.block⟩, Nat.le_trans hdr (Nat.le_succ _)⟩
  have hSt : ∀ W, S W → TabAt W := fun W h => HT.out.agree (Agree.of_all (K := fun _ => True) (hN ▸ hSb W h)) trivial
  have j2 : Blk { W0 with drawn := W0.drawn + 1 } (N + 2) z16 125 := k2
  have j3 : Blk { W0 with drawn := W0.drawn + 1 } (N + 3) z16 125 := k3
  clear hSd k0 k1 k2 k3 hbel hdr
  refine wp_region_noPanic (wp_region_held (S := S) (by kernel_rfl) ?_)
  show wpAnyH _ _ _ _ _ 8 #[false, false, false, false, false, false, false, false] _ _
  generalize ({ W0 with drawn := W0.drawn + 1 } : World) = W at hS j2 j3 ⊢
  refine h_take 0 (.slice (some ⟨N + 2, 0, none⟩) 0 16) rfl (by kernel_rfl) (by kernel_rfl) (by kernel_rfl) rfl (fun w hw => x_slice16 _ _ _ _ _ _ _ _ rfl rfl w) hS ?_
  simp only [Act.put, List.setIfInBounds_toArray, List.set_cons_succ, List.set_cons_zero]
  refine h_take 1 (SV s) rfl (by kernel_rfl) (by kernel_rfl) (by kernel_rfl) rfl (fun w hw => x_loadSet _ _ _ _ _ _ _ _ s rfl w (hS0 w hw)) hS ?_
  simp only [Act.put, List.setIfInBounds_toArray, List.set_cons_succ, List.set_cons_zero]
  refine h_take 3 (.slice (some ⟨N + 3, 0, none⟩) 0 16) rfl (by kernel_rfl) (by kernel_rfl) (by kernel_rfl) rfl (fun w hw => x_slice16 _ _ _ _ _ _ _ _ rfl rfl w) hS ?_
  simp only [Act.put, List.setIfInBounds_toArray, List.set_cons_succ, List.set_cons_zero]
  refine h_take 4 (SV t) rfl (by kernel_rfl) (by kernel_rfl) (by kernel_rfl) rfl (fun w hw => x_loadSet _ _ _ _ _ _ _ _ t rfl w (hS1 w hw)) hS ?_
  simp only [Act.put, List.setIfInBounds_toArray, List.set_cons_succ, List.set_cons_zero]
  have z3 := j3.lt
  refine h_callE 2 105 #[.slice (some ⟨N + 2, 0, none⟩) 0 16, SV s] (fun v w' => OwnU w' N v (0 + 2 * (runsOf s).length) ([] ++ byteV (rnB (runsOf s))) ∧ W.grownBy w' (some (N + 2)) ∧ (v.ownBlock = some (N + 2) ∨ ∃ g, v.ownBlock = some g ∧ W.heap.size ≤ g) ∧ W.drawn ≤ w'.drawn) rfl (by kernel_rfl) rfl
    (x_call2 _ _ _ _ _ _ _ _ _ _ _ _ _ rfl rfl rfl (enters_of Tryz.func105 (by kernel_rfl) rfl) _) ((appendRuns_any s _ 0 N [] W (own16 j2 (by omega)) (by omega) hG (by omega) (hSt W hS)).mono fun e w' h => h) (fun v w' h => hSg W w' _ (by omega) hS h.2.1 h.2.2.2) ?_
  rintro v1 W1 ⟨o1, g1, b1, d1⟩
  simp only [Act.put, List.setIfInBounds_toArray, List.set_cons_succ, List.set_cons_zero]
  have hS' := hSg W W1 _ (by omega) hS g1 d1
  have j3' : Blk W1 (N + 3) z16 125 := (g1.block (N + 3) z3 (by simp)).trans j3
  have z3' := j3'.lt
  refine h_callE 5 105 #[.slice (some ⟨N + 3, 0, none⟩) 0 16, SV t] (fun v w' => OwnU w' N v (0 + 2 * (runsOf t).length) ([] ++ byteV (rnB (runsOf t))) ∧ W1.grownBy w' (some (N + 3)) ∧ (v.ownBlock = some (N + 3) ∨ ∃ g, v.ownBlock = some g ∧ W1.heap.size ≤ g) ∧ W1.drawn ≤ w'.drawn) rfl (by kernel_rfl) rfl
    (x_call2 _ _ _ _ _ _ _ _ _ _ _ _ _ rfl rfl rfl (enters_of Tryz.func105 (by kernel_rfl) rfl) _) ((appendRuns_any t _ 0 N [] W1 (own16 j3' (by omega)) (by omega) hG (by omega) (hSt W1 hS')).mono fun e w' h => h) (fun v w' h => hSg W1 w' _ (by omega) hS' h.2.1 h.2.2.2) ?_
  rintro v2 W2 ⟨o2, g2, b2, d2⟩
  simp only [Act.put, List.setIfInBounds_toArray, List.set_cons_succ, List.set_cons_zero]
  have hS2 := hSg W1 W2 _ (by omega) hS' g2 d2
  have o1' : OwnU W2 N v1 (0 + 2 * (runsOf s).length) ([] ++ byteV (rnB (runsOf s))) := o1.keep fun g hg => g2.block g (o1.own_lt hg).2 (fun e => by
    injection e with e
    rcases b1 with h | ⟨g', h, hg'⟩
    · rw [hg] at h; injection h; omega
    · rw [hg] at h; injection h; omega)
  rw [List.nil_append] at o1' o2
  refine h_callE 6 107 #[v1, v2] (fun v w' => v = .int .i64 (lexN (rnB (runsOf s)) (rnB (runsOf t))) ∧ w' = W2) rfl (by kernel_rfl) rfl
    (x_call2 _ _ _ _ _ _ _ _ _ _ _ _ _ rfl rfl rfl (enters_of Tryz.func107 (by kernel_rfl) rfl) _) ((bytesCompare_any _ _ v1 v2 W2 (.of_own o1') (.of_own o2) (rnB_lt s) (rnB_lt t)).mono fun e w' h => ⟨_, h.1, rfl, h.2⟩) (fun v w' h => h.2 ▸ hS2) ?_
  rintro v3 W3 ⟨rfl, rfl⟩
  simp only [Act.put, List.setIfInBounds_toArray, List.set_cons_succ, List.set_cons_zero]
  refine h_take 7 (.int .i64 (lexN (rnB (runsOf s)) (rnB (runsOf t)))) rfl (by kernel_rfl) (by kernel_rfl) (by kernel_rfl) rfl (fun w hw => x_assign _ _ _ _ _ _ _ _ rfl w) hS2 ?_
  simp only [Act.put, List.setIfInBounds_toArray, List.set_cons_succ, List.set_cons_zero]
  refine wpAnyH_done (by kernel_rfl) ?_ _
  refine NoPanic.normal ?_
  have HB := hide (hSb _ hS2)
  have HD := hide (hSw _ hS2)
  clear hS hS0 hS1 hSb hSg hSt hSw hS' hS2 o1 o1' o2 g1 g2 b1 b2 d1 d2
  have HN := hide hN
  clear hN
  go_wp2
  go_ret
  exact ⟨rfl, HN.out ▸ HB.out, HD.out⟩
end Go.Proofs.YthhfpjehamhcbaaGreatDoor
/- Keys of expressions: a code in which no word begins another one; how they compare. -/
namespace Go.Proofs.YthhfpjehamhcbaaGreatDoor
set_option maxRecDepth 100000
set_option linter.unusedSimpArgs false
set_option linter.unusedVariables false
open Go.RowKit

theorem lexN_self : ∀ l, lexN l l = 0
  | [] => rfl
  | a :: r => by simp [lexN, lexN_self r]
theorem lexN_zero : ∀ (a b : List Nat), lexN a b = 0 → a = b
  | [], [], _ => rfl
  | [], _ :: _, h => by simp [lexN] at h
  | _ :: _, [], h => by simp [lexN] at h
  | a :: ar, b :: br, h => by
    simp only [lexN] at h
    split at h
    · omega
    · split at h
      · omega
      · rw [lexN_zero ar br h, show a = b from by omega]
theorem lexN_swap : ∀ (a b : List Nat), lexN b a = -lexN a b
  | [], [] => rfl
  | [], _ :: _ => rfl
  | _ :: _, [] => rfl
  | a :: ar, b :: br => by
    have := lexN_swap ar br
    simp only [lexN]
    split <;> split <;> first | omega | (split <;> omega) | (rw [this]) | skip
    all_goals (try split) <;> first | omega | rw [this] | skip
theorem lexN_vals : ∀ (a b : List Nat), lexN a b = -1 ∨ lexN a b = 0 ∨ lexN a b = 1
  | [], [] => by simp [lexN]
  | [], _ :: _ => by simp [lexN]
  | _ :: _, [] => by simp [lexN]
  | a :: ar, b :: br => by
    have := lexN_vals ar br
    simp only [lexN]
    split
    · omega
    · split <;> omega
theorem lexN_trans : ∀ (a b c : List Nat), lexN a b ≤ 0 → lexN b c ≤ 0 → lexN a c ≤ 0 ∧ (lexN a c = 0 → lexN a b = 0 ∧ lexN b c = 0)
  | [], [], c, _, h => ⟨h, fun h' => ⟨rfl, h'⟩⟩
  | [], b :: br, [], _, h => by simp [lexN] at h
  | [], b :: br, c :: cr, _, _ => by simp [lexN]
  | a :: ar, [], c, h, _ => by simp [lexN] at h
  | a :: ar, b :: br, [], _, h => by simp [lexN] at h
  | a :: ar, b :: br, c :: cr, h1, h2 => by
    have ih := lexN_trans ar br cr
    simp only [lexN] at h1 h2 ⊢
    by_cases hab : a < b
    · by_cases hbc : b < c
      · simp [show a < c from by omega, hab]
      · by_cases hcb : c < b
        · simp [hbc, hcb] at h2
        · simp [show a < c from by omega, hab]
    · by_cases hba : b < a
      · simp [hab, hba] at h1
      · by_cases hbc : b < c
        · simp [show a < c from by omega, hbc]
        · by_cases hcb : c < b
          · simp [hbc, hcb] at h2
          · have e1 : ¬ a < c := by omega
            have e2 : ¬ c < a := by omega
            simp only [hab, hba, hbc, hcb, e1, e2, if_false] at h1 h2 ⊢
            exact ih h1 h2
/-- Two lists of which neither begins the other one. -/
theorem lexN_append : ∀ (a b x y : List Nat), (a <+: b → a = b) → (b <+: a → a = b) → lexN (a ++ x) (b ++ y) = if a = b then lexN x y else lexN a b
  | [], b, x, y, h, _ => by rw [← h (List.nil_prefix)]; simp
  | a :: ar, [], x, y, _, h => by have := h List.nil_prefix; cases this
  | a :: ar, b :: br, x, y, h1, h2 => by
    simp only [List.cons_append, lexN]
    by_cases hab : a < b
    · simp [hab, show a ≠ b from by omega]
    · by_cases hba : b < a
      · simp [hab, hba, show a ≠ b from by omega]
      · obtain rfl : a = b := by omega
        have ih := lexN_append ar br x y (fun h => by have := h1 (by simpa using h); simpa using this) (fun h => by have := h2 (by simpa using h); simpa using this)
        simp [ih]

/-- The bytes of a run. -/
def spread (r : Nat × Nat) : List Nat := List.range' r.1 (r.2 + 1 - r.1)
theorem spread_foldl : ∀ (l : List Nat) (st : List (Nat × Nat) × Option (Nat × Nat)), (∀ r ∈ st.1 ++ st.2.toList, r.1 ≤ r.2) →
    (∀ r ∈ (l.foldl runStep st).1 ++ (l.foldl runStep st).2.toList, r.1 ≤ r.2) ∧ ((l.foldl runStep st).1 ++ (l.foldl runStep st).2.toList).flatMap spread = (st.1 ++ st.2.toList).flatMap spread ++ l
  | [], st, h => ⟨h, by simp⟩
  | b :: l, (em, cur), h => by
    have key : (∀ r ∈ (runStep (em, cur) b).1 ++ (runStep (em, cur) b).2.toList, r.1 ≤ r.2) ∧ ((runStep (em, cur) b).1 ++ (runStep (em, cur) b).2.toList).flatMap spread = (em ++ cur.toList).flatMap spread ++ [b] := by
      cases cur with
      | none =>
        refine ⟨fun r hr => ?_, ?_⟩
        · simp [runStep] at hr
          rcases hr with hr | rfl
          · exact h r (by simp [hr])
          · simp
        · simp [runStep, spread]
      | some q =>
        obtain ⟨f, la⟩ := q
        have hq : f ≤ la := h (f, la) (by simp)
        simp only [runStep]
        split
        · rename_i e
          subst e
          refine ⟨fun r hr => ?_, ?_⟩
          · simp at hr
            rcases hr with hr | rfl
            · exact h r (by simp [hr])
            · simp; omega
          · simp only [Option.toList, List.flatMap_append, List.flatMap_cons, List.flatMap_nil, List.append_nil, List.append_assoc]
            congr 1
            simp only [spread]
            rw [show la + 1 + 1 - f = (la + 1 - f) + 1 from by omega, List.range'_concat]
            congr 2
            simp; omega
        · refine ⟨fun r hr => ?_, ?_⟩
          · simp at hr
            rcases hr with hr | rfl | rfl
            · exact h r (by simp [hr])
            · exact hq
            · simp
          · simp [spread]
    have ih := spread_foldl l (runStep (em, cur) b) key.1
    refine ⟨ih.1, ?_⟩
    rw [List.foldl_cons, ih.2, key.2]
    simp
theorem runs_spread (s : BitVec 256) : (∀ r ∈ runsOf s, r.1 ≤ r.2) ∧ (runsOf s).flatMap spread = bytesOf s := by
  have h := spread_foldl (bytesOf s) ([], none) (by simp)
  exact ⟨h.1, h.2.trans (by simp)⟩
theorem bytes_inj {s t : BitVec 256} (h : bytesOf s = bytesOf t) : s = t := by
  refine BitVec.eq_of_getLsbD_eq fun i hi => ?_
  have h1 := mem_bytes s i
  have h2 := mem_bytes t i
  rw [h] at h1
  have h3 := h1.symm.trans h2
  cases hs : s.getLsbD i <;> cases ht : t.getLsbD i <;> simp_all
theorem runs_inj {s t : BitVec 256} (h : runsOf s = runsOf t) : s = t := bytes_inj (by rw [← (runs_spread s).2, ← (runs_spread t).2, h])
/-- Only the first run may begin with 0. -/
theorem runs_later (s : BitVec 256) (r0 : Nat × Nat) (rest : List (Nat × Nat)) (h : runsOf s = r0 :: rest) : ∀ r ∈ rest, 0 < r.1 := by
  intro r hr
  have hs := runs_spread s
  have hup := bytesOf_up s
  rw [← hs.2, h, List.flatMap_cons, List.pairwise_append] at hup
  have h0 := hs.1 r0 (by rw [h]; simp)
  have h1 := hs.1 r (by rw [h]; simp [hr])
  have := hup.2.2 r0.1 (by simp [spread]; omega) r.1 (by simp only [List.mem_flatMap]; exact ⟨r, hr, by simp [spread]; omega⟩)
  omega
theorem rnB_decode : ∀ (a b : List (Nat × Nat)) (x y : List Nat), (∀ r ∈ a, 0 < r.1) → (∀ r ∈ b, 0 < r.1) → rnB a ++ 0 :: x = rnB b ++ 0 :: y → a = b ∧ x = y
  | [], [], x, y, _, _, h => by simpa [rnB] using h
  | [], r :: b, x, y, _, hb, h => by
    have := hb r (by simp)
    simp [rnB] at h; omega
  | r :: a, [], x, y, ha, _, h => by
    have := ha r (by simp)
    simp [rnB] at h; omega
  | r :: a, q :: b, x, y, ha, hb, h => by
    simp only [rnB, List.flatMap_cons, List.cons_append, List.nil_append, List.cons.injEq] at h
    obtain ⟨h1, h2, h3⟩ := h
    have ih := rnB_decode a b x y (fun r hr => ha r (by simp [hr])) (fun r hr => hb r (by simp [hr])) h3
    exact ⟨by rw [ih.1, Prod.ext h1 h2], ih.2⟩
theorem runs_nil {s : BitVec 256} (h : s ≠ 0#256) : runsOf s ≠ [] := fun e => h (runs_inj (e.trans (by decide +kernel)))
theorem runs_decode {s t : BitVec 256} (hs : s ≠ 0#256) (ht : t ≠ 0#256) (x y : List Nat) (h : rnB (runsOf s) ++ 0 :: x = rnB (runsOf t) ++ 0 :: y) : s = t ∧ x = y := by
  cases e1 : runsOf s with
  | nil => exact absurd e1 (runs_nil hs)
  | cons r a =>
    cases e2 : runsOf t with
    | nil => exact absurd e2 (runs_nil ht)
    | cons q b =>
      have l1 := runs_later s r a e1
      have l2 := runs_later t q b e2
      rw [e1, e2] at h
      simp only [rnB, List.flatMap_cons, List.cons_append, List.nil_append, List.cons.injEq] at h
      obtain ⟨h1, h2, h3⟩ := h
      have ih := rnB_decode a b x y l1 l2 h3
      refine ⟨runs_inj ?_, ih.2⟩
      rw [e1, e2, ih.1, Prod.ext h1 h2]

theorem rnB_lex : ∀ (a b : List (Nat × Nat)) (x y : List Nat), (∀ r ∈ a, 0 < r.1) → (∀ r ∈ b, 0 < r.1) → a ≠ b → lexN (rnB a ++ 0 :: x) (rnB b ++ 0 :: y) = lexN (rnB a) (rnB b)
  | [], [], x, y, _, _, h => absurd rfl h
  | [], r :: b, x, y, _, hb, h => by
    have := hb r (by simp)
    simp [rnB, lexN, this]
  | r :: a, [], x, y, ha, _, h => by
    have := ha r (by simp)
    simp [rnB, lexN, this]
  | (r1, r2) :: a, (q1, q2) :: b, x, y, ha, hb, h => by
    simp only [rnB, List.flatMap_cons, List.cons_append, List.nil_append, lexN]
    by_cases h1 : r1 < q1
    · simp [h1]
    · by_cases h2 : q1 < r1
      · simp [h1, h2]
      · by_cases h3 : r2 < q2
        · simp [h1, h2, h3]
        · by_cases h4 : q2 < r2
          · simp [h1, h2, h3, h4]
          · simp only [h1, h2, h3, h4, if_false]
            have e1 : r1 = q1 := by omega
            have e2 : r2 = q2 := by omega
            exact rnB_lex a b x y (fun r hr => ha r (by simp [hr])) (fun r hr => hb r (by simp [hr])) (fun e => h (by rw [e, e1, e2]))
theorem runs_lex {s t : BitVec 256} (hs : s ≠ 0#256) (ht : t ≠ 0#256) (h : s ≠ t) (x y : List Nat) : lexN (rnB (runsOf s) ++ 0 :: x) (rnB (runsOf t) ++ 0 :: y) = lexN (rnB (runsOf s)) (rnB (runsOf t)) := by
  have hne : runsOf s ≠ runsOf t := fun e => h (runs_inj e)
  cases e1 : runsOf s with
  | nil => exact absurd e1 (runs_nil hs)
  | cons r a =>
    cases e2 : runsOf t with
    | nil => exact absurd e2 (runs_nil ht)
    | cons q b =>
      have l1 := runs_later s r a e1
      have l2 := runs_later t q b e2
      rw [e1, e2] at hne
      obtain ⟨r1, r2⟩ := r
      obtain ⟨q1, q2⟩ := q
      simp only [rnB, List.flatMap_cons, List.cons_append, List.nil_append, lexN]
      by_cases h1 : r1 < q1
      · simp [h1]
      · by_cases h2 : q1 < r1
        · simp [h1, h2]
        · by_cases h3 : r2 < q2
          · simp [h1, h2, h3]
          · by_cases h4 : q2 < r2
            · simp [h1, h2, h3, h4]
            · simp only [h1, h2, h3, h4, if_false]
              have e1 : r1 = q1 := by omega
              have e2 : r2 = q2 := by omega
              exact rnB_lex a b x y l1 l2 (fun e => hne (by rw [e, e1, e2]))

/-- The key of an expression, as bytes. -/
def RE.key : RE → List Nat
  | .mk o s ks => (o + 1) :: ((if o = 2 then rnB (runsOf s) else []) ++ ((ks.map fun k => k.key).flatten ++ [0]))
def keysL (ks : List RE) : List Nat := (ks.map RE.key).flatten
theorem RE.key_mk (o : Nat) (s : BitVec 256) (ks : List RE) : (RE.mk o s ks).key = (o + 1) :: ((if o = 2 then rnB (runsOf s) else []) ++ (keysL ks ++ [0])) := by rw [RE.key, keysL]

/-- What the calls make: a set where it is a Class alone, and no kids there. -/
inductive WfK : RE → Prop where
  | mk (o : Nat) (s : BitVec 256) (ks : List RE) (ho : o ≤ 7) (h2 : o = 2 → ks = [] ∧ s ≠ 0#256) (hn : o ≠ 2 → s = 0#256) (hk : ∀ k ∈ ks, WfK k) : WfK (.mk o s ks)
theorem WfK.kid {o : Nat} {s : BitVec 256} {ks : List RE} (h : WfK (.mk o s ks)) : ∀ k ∈ ks, WfK k := by cases h; assumption

theorem keys_decode {ks : List RE} (ih : ∀ k ∈ ks, ∀ b x y, WfK b → k.key ++ x = b.key ++ y → k = b ∧ x = y) : ∀ (ls : List RE) (x y : List Nat), (∀ k ∈ ls, WfK k) → keysL ks ++ 0 :: x = keysL ls ++ 0 :: y → ks = ls ∧ x = y := by
  induction ks with
  | nil =>
    intro ls x y hl h
    cases ls with
    | nil => simpa [keysL] using h
    | cons b ls =>
      cases b
      simp [keysL, RE.key_mk] at h
  | cons k ks ihk =>
    intro ls x y hl h
    cases ls with
    | nil =>
      cases k
      simp [keysL, RE.key_mk] at h
    | cons b ls =>
      have h' : k.key ++ (keysL ks ++ 0 :: x) = b.key ++ (keysL ls ++ 0 :: y) := by simpa [keysL] using h
      obtain ⟨rfl, h2⟩ := ih k (by simp) b _ _ (hl b (by simp)) h'
      obtain ⟨rfl, h3⟩ := ihk (fun k hk => ih k (by simp [hk])) ls x y (fun k hk => hl k (by simp [hk])) h2
      exact ⟨rfl, h3⟩
/-- A key that begins two texts tells which expression it is. -/
theorem key_decode (a : RE) : WfK a → ∀ b x y, WfK b → a.key ++ x = b.key ++ y → a = b ∧ x = y := by
  refine RE.ind (P := fun a => WfK a → ∀ b x y, WfK b → a.key ++ x = b.key ++ y → a = b ∧ x = y) ?_ a
  intro o s ks ih ha b x y hb h
  cases ha with
  | mk _ _ _ ho h2 hn hk =>
  cases hb with
  | mk o' s' ks' ho' h2' hn' hk' =>
    rw [RE.key_mk, RE.key_mk] at h
    simp only [List.cons_append, List.cons.injEq, List.append_assoc, List.nil_append] at h
    obtain ⟨e, h⟩ := h
    obtain rfl : o = o' := by omega
    by_cases e2 : o = 2
    · obtain ⟨rfl, hs⟩ := h2 e2
      obtain ⟨rfl, hs'⟩ := h2' e2
      rw [if_pos e2, if_pos e2] at h
      simp only [keysL, List.map_nil, List.flatten_nil, List.nil_append] at h
      obtain ⟨rfl, h3⟩ := runs_decode hs hs' x y h
      exact ⟨rfl, h3⟩
    · rw [if_neg e2, if_neg e2] at h
      simp only [List.nil_append] at h
      obtain ⟨rfl, h3⟩ := keys_decode (fun k hk' b x y hb h => ih k hk' (hk k hk') b x y hb h) ks' x y hk' h
      exact ⟨by rw [hn e2, hn' e2], h3⟩
theorem key_inj {a b : RE} (ha : WfK a) (hb : WfK b) (h : a.key = b.key) : a = b := (key_decode a ha b [] [] hb (by rw [h])).1
theorem key_prefix {a b : RE} (ha : WfK a) (hb : WfK b) (h : a.key <+: b.key) : a.key = b.key := by
  obtain ⟨x, hx⟩ := h
  rw [(key_decode a ha b x [] hb (by rw [hx, List.append_nil])).1]
/-- Keys with something behind them. -/
theorem key_lex {a b : RE} (ha : WfK a) (hb : WfK b) (x y : List Nat) : lexN (a.key ++ x) (b.key ++ y) = if lexN a.key b.key = 0 then lexN x y else lexN a.key b.key := by
  rw [lexN_append _ _ _ _ (key_prefix ha hb) (fun h => (key_prefix hb ha h).symm)]
  by_cases h : a.key = b.key
  · rw [if_pos h, if_pos (by rw [h]; exact lexN_self _)]
  · rw [if_neg h, if_neg (fun e => h (lexN_zero _ _ e))]
/-- How keys compare, part by part. -/
theorem key_op {a b : RE} (h : a.op ≠ b.op) : lexN a.key b.key = cmpN a.op b.op := by
  cases a; cases b
  rename_i o s ks o' s' ks'
  simp only [RE.op] at h
  simp only [RE.key_mk, lexN, RE.op, cmpN]
  by_cases h1 : o < o'
  · simp [h1]
  · have h2 : o' < o := by omega
    simp [h1, h2]
theorem key_set {a b : RE} (ha : WfK a) (hb : WfK b) (ho : a.op = b.op) (hs : a.set ≠ b.set) : lexN a.key b.key = lexN (rnB (runsOf a.set)) (rnB (runsOf b.set)) := by
  cases ha with
  | mk o s ks h1 h2 h3 h4 =>
  cases hb with
  | mk o' s' ks' k1 k2 k3 k4 =>
    simp only [RE.op, RE.set] at ho hs ⊢
    subst ho
    by_cases e : o = 2
    · obtain ⟨rfl, e1⟩ := h2 e
      obtain ⟨rfl, e2⟩ := k2 e
      simp only [RE.key_mk, lexN, if_pos e]
      simp only [Nat.lt_irrefl, if_false, keysL, List.map_nil, List.flatten_nil, List.nil_append]
      exact runs_lex e1 e2 hs [] []
    · exact absurd ((h3 e).trans (k3 e).symm) hs
theorem key_kids {a b : RE} (ho : a.op = b.op) (hs : a.set = b.set) : lexN a.key b.key = lexN (keysL a.kids ++ [0]) (keysL b.kids ++ [0]) := by
  cases a; cases b
  rename_i o s ks o' s' ks'
  simp only [RE.op, RE.set, RE.kids] at ho hs ⊢
  subst ho hs
  simp only [RE.key_mk, lexN, Nat.lt_irrefl, if_false]
  generalize (if o = 2 then rnB (runsOf s) else []) = p
  induction p with
  | nil => rfl
  | cons x p ih => simp [lexN, ih]
/-- One kid more. -/
theorem keys_cons {a b : RE} (ha : WfK a) (hb : WfK b) (ks ls : List RE) : lexN (keysL (a :: ks) ++ [0]) (keysL (b :: ls) ++ [0]) = if lexN a.key b.key = 0 then lexN (keysL ks ++ [0]) (keysL ls ++ [0]) else lexN a.key b.key := by
  have := key_lex ha hb (keysL ks ++ [0]) (keysL ls ++ [0])
  simpa [keysL] using this
theorem keys_short (a : RE) (ks : List RE) : lexN (keysL (a :: ks) ++ [0]) (keysL [] ++ [0]) = 1 := by
  cases a
  simp [keysL, RE.key_mk, lexN]
theorem keys_long (a : RE) (ks : List RE) : lexN (keysL [] ++ [0]) (keysL (a :: ks) ++ [0]) = -1 := by
  cases a
  simp [keysL, RE.key_mk, lexN]
end Go.Proofs.YthhfpjehamhcbaaGreatDoor
