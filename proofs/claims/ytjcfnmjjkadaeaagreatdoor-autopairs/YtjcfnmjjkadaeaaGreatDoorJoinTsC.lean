/- Texts of this claim put together: AuP, MathTs, TsA, TsB, TsC. -/
import Derived.Test.YtjcfnmjjkadaeaaGreatDoorJoinShE
import Derived.Test.YtjcfnmjjkadaeaaGreatDoorJoinMathDfa4
import Derived.Test.YtjcfnmjjkadaeaaGreatDoorJoinAuA
import Derived.Test.YtjcfnmjjkadaeaaGreatDoorJoinDvC
import Derived.Test.YtjcfnmjjkadaeaaGreatDoorJoinOpenS
/- law07's Pure: letters a to d alone, and no 'all texts of none'. -/
namespace Go.Proofs.YtjcfnmjjkadaeaaGreatDoor
set_option maxRecDepth 100000
set_option linter.unusedSimpArgs false
set_option linter.unusedVariables false
open Go.RowKit

def txP (t : ByteArray) : Bool := (bytesN t).all fun b => decide (97 ≤ b) && decide (b ≤ 100)
def k9 (o : Int) : Nat := ((IntKind.u64.wrap o).tmod 9).toNat
def SHP.pure : SHP → Bool
  | .mk o _ _ t ks => txP t && (ks.map fun k => k.pure).all id && (decide (k9 o ≠ 6) || decide (0 < ks.length))
theorem SHP.pure_mk (o : Int) (l u : Nat) (t : ByteArray) (ks : List SHP) : (SHP.mk o l u t ks).pure = (txP t && (ks.map SHP.pure).all id && (decide (k9 o ≠ 6) || decide (0 < ks.length))) := by rw [SHP.pure]
theorem txP_iff (t : ByteArray) : txP t = true ↔ ∀ k, ∀ hk : k < t.size, 97 ≤ (t[k]'hk).toNat ∧ (t[k]'hk).toNat ≤ 100 := by
  have hbl : (bytesN t).length = t.size := by simp [bytesN]
  unfold txP
  rw [List.all_eq_true]
  constructor
  · intro h k hk
    have := h (bytesN t)[k] (List.getElem_mem (by rw [hbl]; exact hk))
    have e : (bytesN t)[k]'(by rw [hbl]; exact hk) = (t[k]'hk).toNat := by simp [bytesN]; rfl
    rw [e] at this
    simpa using this
  · intro h x hx
    obtain ⟨k, hk, rfl⟩ := List.mem_iff_getElem.1 hx
    have hk' : k < t.size := by rw [← hbl]; exact hk
    have e : (bytesN t)[k] = (t[k]'hk').toNat := by simp [bytesN]; rfl
    rw [e]
    simpa using h k hk'
theorem k9_eq (o : Int) : wrap64 ((IntKind.u64.wrap o).tmod 9) = (k9 o : Int) := by
  have h0 : 0 ≤ IntKind.u64.wrap o := by simp [IntKind.wrap, IntKind.signed, IntKind.bits]; omega
  unfold k9
  rw [Int.tmod_eq_emod_of_nonneg h0]; unfold wrap64; omega
set_option maxHeartbeats 2000000 in
theorem pure_any (s : SHP) : ∀ (cs : List Value) (w : World), ShC w cs s →
    Calls Tryz.prog 21 #[ShVal cs] w fun e w' => e = .returned (.bool s.pure) ∧ Below w.heap.size w w' := by
  refine SHP.ind (P := fun s => ∀ (cs : List Value) (w : World), ShC w cs s →
    Calls Tryz.prog 21 #[ShVal cs] w fun e w' => e = .returned (.bool s.pure) ∧ Below w.heap.size w w') ?_ s
  intro o l u t ks ih cs w h
  obtain ⟨v, rfl, hrow, ho, hlo, hhi, htx⟩ := h.open
  simp only [SHP.op, SHP.lo, SHP.hi, SHP.text, SHP.kids] at hrow ho hlo hhi htx ⊢
  obtain ⟨hn, a, cap, rfl, -⟩ := hrow.at
  obtain ⟨res, hres⟩ : ∃ res, res = (SHP.mk o l u t ks).pure := ⟨_, rfl⟩
  rw [← hres]
  rw [SHP.pure_mk] at hres
  have HRS := hide hres
  have HR := hide hrow
  have HIH := hide ih
  obtain ⟨w0, hw0⟩ : ∃ w0, w.alloc (.cells #[.int .i64 o, .int .u8 l, .int .u8 u, .string t, .slice a ks.length cap] 24) = w0 := ⟨_, rfl⟩
  have hb0 : Blk w0 w.heap.size #[.int .i64 o, .int .u8 l, .int .u8 u, .string t, .slice a ks.length cap] 24 := by rw [← hw0]; exact Blk.newAt rfl _ _
  have HB0 := hide hb0
  have HBL : Hid (Below w.heap.size w w0) := by rw [← hw0]; exact (Below.refl _ _).alloc (Nat.le_refl _) _
  have c0 := hb0.cell 0; have c3 := hb0.cell 3; have c4 := hb0.cell 4
  simp only [List.getElem?_toArray, List.getElem?_cons_zero, List.getElem?_cons_succ] at c0 c3 c4
  clear h hrow ih hres hb0
  unfold ShVal
  go_enter Tryz.func21, Tryz.ntmps21
  go_wp2
  go_loopw [3] (fun iv wr => ∃ j : Nat, iv = .int .i64 j ∧ j ≤ t.size ∧ wr = w0 ∧ Hid (∀ k, k < j → ∀ hk : k < t.size, 97 ≤ (t[k]'hk).toNat ∧ (t[k]'hk).toNat ≤ 100)) (fun iv _ => t.size - (intOf iv).toNat)
  case atStart => exact ⟨0, rfl, Nat.zero_le _, rfl, fun k hk => absurd hk (Nat.not_lt_zero _)⟩
  case round =>
    obtain ⟨j, rfl, hj, rfl, HOK⟩ := hrel
    by_cases hlt : j < t.size
    · have hjd : decide ((j : Int) < (t.size : Int)) = true := by simp; omega
      have hjj : (0 : Int) ≤ j ∧ (j : Int) < t.size := ⟨by omega, by omega⟩
      have HNO : Hid (¬ (97 ≤ (t[j]'hlt).toNat ∧ (t[j]'hlt).toNat ≤ 100) → res = false) := fun hno => by
        rw [HRS.out]
        have : txP t = false := by
          cases e : txP t with
          | false => rfl
          | true => exact absurd ((txP_iff t).1 e j hlt) hno
        rw [this]; rfl
      obtain ⟨x, hx⟩ : ∃ x, (t[j]'hlt).toNat = x := ⟨_, rfl⟩
      rw [hx] at HNO
      have HX := hide hx
      by_cases h97 : x < 97
      · have d1 : decide ((x : Int) < 97) = true := by simp; omega
        have hr : res = false := HNO.out (by omega)
        clear HRS
        subst hr
        go_wp2
        go_ret
        exact ⟨rfl, HBL.out⟩
      · have d1 : decide ((x : Int) < 97) = false := by simp; omega
        by_cases h100 : 100 < x
        · have d2 : decide ((100 : Int) < (x : Int)) = true := by simp; omega
          have hr : res = false := HNO.out (by omega)
          clear HRS
          subst hr
          go_wp2
          go_ret
          exact ⟨rfl, HBL.out⟩
        · have d2 : decide ((100 : Int) < (x : Int)) = false := by simp; omega
          go_wp2
          refine ⟨⟨j + 1, by go_num, hlt, trivial, ?_⟩, by simp [intOf]; omega⟩
          intro k hk hkt
          by_cases e : k = j
          · subst e
            have := HX.out
            omega
          · exact HOK.out k (by omega) hkt
    · have hjd : decide ((j : Int) < (t.size : Int)) = false := by simp; omega
      have hje : j = t.size := by omega
      have HTP : Hid (txP t = true) := (txP_iff t).2 fun k hk => HOK.out k (by omega) hk
      clear hje HOK
      go_wp2
      go_loopw [28] (fun iv wz => ∃ q : Nat, iv = .int .i64 q ∧ q ≤ ks.length ∧ Hid (∀ x ∈ ks.take q, x.pure = true) ∧ Hid (Below wr.heap.size wr wz)) (fun iv _ => ks.length - (intOf iv).toNat)
      case atStart => exact ⟨0, rfl, Nat.zero_le _, fun x hx => absurd hx (by simp), Below.refl _ _⟩
      case round =>
        obtain ⟨q, rfl, hq, HPK, HBE⟩ := hrel
        have HBW : Hid (Below w.heap.size w wr) := HBL.out.trans (HBE.out.mono HBL.out.size)
        obtain ⟨-, a', cap', e1, g1⟩ := (HR.out.keep HBW.out).at
        obtain ⟨rfl, rfl⟩ : a = a' ∧ cap = cap' := by cases e1; exact ⟨rfl, rfl⟩
        clear e1
        by_cases hqn : q < ks.length
        · have dq : decide ((q : Int) < (ks.length : Int)) = true := by simp; omega
          obtain ⟨b, off, kv, rfl, -, ⟨k0, k1, k2, k3, k4⟩, hC⟩ := g1 q hqn
          obtain ⟨kf, kc, hkv⟩ : ∃ f c, kv = .slice f (ks[q]).kids.length c := by
            obtain ⟨v', e', hr', -⟩ := hC.open
            obtain ⟨-, a', c', e'', -⟩ := hr'.at
            have : kv = v' := by simpa using e'
            exact ⟨a', c', this.trans e''⟩
          have HTK := hide (show ks.take (q + 1) = ks.take q ++ [ks[q]] from List.take_succ_eq_append_getElem hqn)
          have HMM := hide (List.getElem_mem hqn)
          have hrec := HIH.out _ (List.getElem_mem hqn) _ _ (hC.keep ((Below.refl wr.heap.size wr).alloc (Nat.le_refl _) (.cells #[.int .i64 ks[q].op, .int .u8 ks[q].lo, .int .u8 ks[q].hi, .string ks[q].text, kv] 24)))
          have HREC := hide hrec
          subst hkv
          generalize hks : ks[q] = sk at *
          clear hrec hC g1
          unfold ShVal at HREC
          obtain ⟨pk, hpk⟩ : ∃ pk, sk.pure = pk := ⟨_, rfl⟩
          rw [hpk] at HREC
          have HPP := hide hpk
          clear hpk
          go_wp2_with fail
          refine HREC.out.mono ?_
          rintro e w2 ⟨rfl, hb2⟩
          have HB2 := hide (HBE.out.trans ((((Below.refl wr.heap.size wr).alloc (Nat.le_refl _) (.cells #[.int .i64 sk.op, .int .u8 sk.lo, .int .u8 sk.hi, .string sk.text, .slice kf sk.kids.length kc] 24)).trans (hb2.mono (by simp))).mono HBE.out.size))
          clear HREC hb2 k0 k1 k2 k3 k4
          cases pk with
          | false =>
            have hr : res = false := by
              rw [HRS.out]
              have : (ks.map SHP.pure).all id = false := by
                cases e : (ks.map SHP.pure).all id with
                | false => rfl
                | true =>
                  have := List.all_eq_true.1 e _ (List.mem_map.2 ⟨sk, HMM.out, rfl⟩)
                  rw [HPP.out] at this
                  cases this
              rw [this]; simp
            clear HRS
            subst hr
            go_wp2
            go_ret
            exact ⟨rfl, HBL.out.trans (HB2.out.mono HBL.out.size)⟩
          | true =>
            go_wp2
            refine ⟨⟨q + 1, by go_num, hqn, ?_, HB2⟩, by simp [intOf]; omega⟩
            intro x hx
            rw [HTK.out] at hx
            rcases List.mem_append.1 hx with hx | hx
            · exact HPK.out x hx
            · rcases List.mem_singleton.1 hx with rfl; exact HPP.out
        · have dq : decide ((q : Int) < (ks.length : Int)) = false := by simp; omega
          have hqe : q = ks.length := by omega
          have hall : (ks.map SHP.pure).all id = true := by
            rw [List.all_eq_true]
            intro b hb
            obtain ⟨x, hx, rfl⟩ := List.mem_map.1 hb
            exact HPK.out x (by rw [hqe, List.take_length]; exact hx)
          have hr : res = (decide (k9 o ≠ 6) || decide (0 < ks.length)) := by
            rw [HRS.out, HTP.out, hall]; simp
          have hk9 := k9_eq o
          have hbk := (HB0.out.below HBE.out HB0.out.lt)
          have c0' := hbk.cell 0; have c4' := hbk.cell 4
          simp only [List.getElem?_toArray, List.getElem?_cons_zero, List.getElem?_cons_succ] at c0' c4'
          obtain ⟨kk, hkk⟩ : ∃ kk, k9 o = kk := ⟨_, rfl⟩
          rw [hkk] at hr hk9
          clear g1 hall hqe HRS hbk hkk
          by_cases h6 : kk = 6
          · subst h6
            by_cases h0 : 0 < ks.length
            · have d0 : decide ((0 : Int) < (ks.length : Int)) = true := by simp; omega
              have hr2 : res = true := by rw [hr]; simp [h0]
              clear hr
              subst hr2
              go_wp2
              go_ret
              exact ⟨rfl, HBW.out⟩
            · have d0 : decide ((0 : Int) < (ks.length : Int)) = false := decide_eq_false (by omega)
              have hr2 : res = false := by rw [hr, decide_eq_false h0]; simp
              clear hr
              subst hr2
              go_wp2
              go_ret
              exact ⟨rfl, HBW.out⟩
          · have d6 : ((kk : Int) != 6) = true := by simp; omega
            have hr2 : res = true := by rw [hr]; simp [h6]
            clear hr
            subst hr2
            go_wp2
            go_ret
            exact ⟨rfl, HBW.out⟩
end Go.Proofs.YtjcfnmjjkadaeaaGreatDoor
/- The texts of the letters a to d, the least first; the first one of them that is asked for; a pure shape's texts. -/
namespace Go.Proofs.YtjcfnmjjkadaeaaGreatDoor
set_option maxRecDepth 100000
set_option linter.unusedSimpArgs false
set_option linter.unusedVariables false

def LetT (s : List Nat) : Prop := ∀ x ∈ s, 97 ≤ x ∧ x ≤ 100
def nxT (s : List Nat) : List (List Nat) := [s ++ [97], s ++ [98], s ++ [99], s ++ [100]]
def lvT : Nat → List (List Nat)
  | 0 => [[]]
  | k + 1 => (lvT k).flatMap nxT
def txsT : Nat → List (List Nat)
  | 0 => [[]]
  | k + 1 => txsT k ++ lvT (k + 1)
theorem lvT_succ (k : Nat) : lvT (k + 1) = (lvT k).flatMap nxT := rfl
theorem txsT_succ (k : Nat) : txsT (k + 1) = txsT k ++ lvT (k + 1) := rfl
theorem mem_nxT {s t : List Nat} : t ∈ nxT s ↔ ∃ x, 97 ≤ x ∧ x ≤ 100 ∧ t = s ++ [x] := by
  unfold nxT
  constructor
  · intro h
    simp only [List.mem_cons, List.not_mem_nil, or_false] at h
    rcases h with rfl | rfl | rfl | rfl
    · exact ⟨97, by omega, by omega, rfl⟩
    · exact ⟨98, by omega, by omega, rfl⟩
    · exact ⟨99, by omega, by omega, rfl⟩
    · exact ⟨100, by omega, by omega, rfl⟩
  · rintro ⟨x, h1, h2, rfl⟩
    obtain rfl | rfl | rfl | rfl : x = 97 ∨ x = 98 ∨ x = 99 ∨ x = 100 := by omega
    all_goals simp
theorem LetT.snoc {s : List Nat} {x : Nat} : LetT (s ++ [x]) ↔ LetT s ∧ 97 ≤ x ∧ x ≤ 100 := by
  unfold LetT
  constructor
  · intro h
    exact ⟨fun y hy => h y (by simp [hy]), h x (by simp)⟩
  · rintro ⟨h, h2⟩ y hy
    rcases List.mem_append.1 hy with hy | hy
    · exact h y hy
    · rcases List.mem_singleton.1 hy with rfl; exact h2
theorem mem_lvT : ∀ (k : Nat) (t : List Nat), t ∈ lvT k ↔ t.length = k ∧ LetT t := by
  intro k
  induction k with
  | zero =>
    intro t
    show t ∈ [[]] ↔ _
    rw [List.mem_singleton]
    constructor
    · rintro rfl; exact ⟨rfl, fun x hx => absurd hx (by simp)⟩
    · rintro ⟨h, -⟩; exact List.eq_nil_of_length_eq_zero h
  | succ k ih =>
    intro t
    rw [lvT_succ, List.mem_flatMap]
    constructor
    · rintro ⟨s, hs, ht⟩
      obtain ⟨x, h1, h2, rfl⟩ := mem_nxT.1 ht
      obtain ⟨h3, h4⟩ := (ih s).1 hs
      exact ⟨by simp [h3], LetT.snoc.2 ⟨h4, h1, h2⟩⟩
    · rintro ⟨hl, ht⟩
      obtain ⟨s, x, rfl⟩ : ∃ s x, t = s ++ [x] := by
        have hne : t ≠ [] := by rintro rfl; simp at hl
        exact ⟨t.dropLast, t.getLast hne, (List.dropLast_concat_getLast hne).symm⟩
      obtain ⟨h1, h2, h3⟩ := LetT.snoc.1 ht
      exact ⟨s, (ih s).2 ⟨by simpa using hl, h1⟩, mem_nxT.2 ⟨x, h2, h3, rfl⟩⟩
theorem mem_txsT : ∀ (k : Nat) (t : List Nat), t ∈ txsT k ↔ t.length ≤ k ∧ LetT t := by
  intro k
  induction k with
  | zero =>
    intro t
    have := mem_lvT 0 t
    show t ∈ lvT 0 ↔ _
    rw [this]
    constructor
    · rintro ⟨h, h2⟩; exact ⟨by omega, h2⟩
    · rintro ⟨h, h2⟩; exact ⟨by omega, h2⟩
  | succ k ih =>
    intro t
    rw [txsT_succ, List.mem_append, ih, mem_lvT]
    constructor
    · rintro (⟨h, h2⟩ | ⟨h, h2⟩)
      · exact ⟨by omega, h2⟩
      · exact ⟨by omega, h2⟩
    · rintro ⟨h, h2⟩
      by_cases e : t.length = k + 1
      · exact .inr ⟨e, h2⟩
      · exact .inl ⟨by omega, h2⟩
theorem nxT_pw (s : List Nat) : (nxT s).Pairwise ltW := by
  unfold nxT
  have h : ∀ x y : Nat, x < y → ltW (s ++ [x]) (s ++ [y]) := fun x y hxy => ltW.last s hxy
  simp only [List.pairwise_cons, List.mem_cons, List.not_mem_nil, or_false, forall_eq_or_imp, forall_eq, List.Pairwise.nil, and_true]
  exact ⟨⟨h _ _ (by omega), h _ _ (by omega), h _ _ (by omega)⟩, ⟨h _ _ (by omega), h _ _ (by omega)⟩, h _ _ (by omega), fun _ hx => absurd hx (by simp)⟩
theorem lvT_pw : ∀ k, (lvT k).Pairwise ltW := by
  intro k
  induction k with
  | zero => exact List.pairwise_singleton _ _
  | succ k ih =>
    rw [lvT_succ, List.pairwise_flatMap]
    refine ⟨fun s _ => nxT_pw s, ih.imp ?_⟩
    intro a b hab x hx y hy
    obtain ⟨u, h1, h2, rfl⟩ := mem_nxT.1 hx
    obtain ⟨v, h3, h4, rfl⟩ := mem_nxT.1 hy
    exact hab.snoc (by omega) (by omega)
theorem txsT_pw : ∀ k, (txsT k).Pairwise ltW := by
  intro k
  induction k with
  | zero => exact List.pairwise_singleton _ _
  | succ k ih =>
    rw [txsT_succ, List.pairwise_append]
    refine ⟨ih, lvT_pw _, fun a ha b hb => ?_⟩
    have h1 := ((mem_txsT k a).1 ha).1
    have h2 := ((mem_lvT (k + 1) b).1 hb).1
    left; omega
/-- The law's question: is a text the least one, of those of up to four letters? -/
def leastB (w : List Nat) (ok : Bool) (p : List Nat → Bool) : Bool :=
  if ok && !p w then false else match (txsT 4).find? p with
    | some t => ok && decide (w = t)
    | none => !ok || decide (4 < w.length)
theorem find_least {p : List Nat → Bool} {w : List Nat} {l : List (List Nat)} (hp : p w = true) (hl : ∀ u, u ∈ l → p u = true → leW w u) (hw : w ∈ l) (hpw : l.Pairwise ltW) : l.find? p = some w := by
  induction l with
  | nil => simp at hw
  | cons x r ih =>
    rw [List.find?_cons]
    by_cases hx : p x = true
    · rw [hx]
      simp only
      congr 1
      rcases List.mem_cons.1 hw with e | e
      · exact e.symm
      · exfalso
        have h1 := hl x (by simp) hx
        have h2 := (List.pairwise_cons.1 hpw).1 w e
        unfold leW ltW at *
        omega
    · rw [Bool.not_eq_true] at hx
      rw [hx]
      simp only
      refine ih (fun u hu => hl u (by simp [hu])) ?_ (List.pairwise_cons.1 hpw).2
      rcases List.mem_cons.1 hw with e | e
      · subst e; rw [hp] at hx; cases hx
      · exact e
theorem letT_by {t : List Nat} (h : LetT t) : By t := fun x hx => by have := h x hx; omega
theorem least_some {p : List Nat → Bool} {w : List Nat} (hp : p w = true) (hw : LetT w) (hl : ∀ u, By u → p u = true → leW w u) : leastB w true p = true := by
  unfold leastB
  rw [hp]
  simp only [Bool.not_true, Bool.and_false, Bool.false_eq_true, if_false, Bool.true_and, Bool.not_true, Bool.false_or]
  by_cases h4 : w.length ≤ 4
  · rw [find_least hp (fun u hu hpu => hl u (letT_by ((mem_txsT 4 u).1 hu).2) hpu) ((mem_txsT 4 w).2 ⟨h4, hw⟩) (txsT_pw 4)]
    simp
  · cases hf : (txsT 4).find? p with
    | none => simp; omega
    | some t =>
      exfalso
      have h1 := List.find?_some hf
      have h2 := (mem_txsT 4 t).1 (List.mem_of_find?_eq_some hf)
      have := hl t (letT_by h2.2) h1
      unfold leW at this
      omega
theorem least_none {p : List Nat → Bool} (h : ∀ u, By u → p u = false) : leastB [] false p = true := by
  unfold leastB
  have hf : (txsT 4).find? p = none := by
    rw [List.find?_eq_none]
    intro u hu
    rw [h u (letT_by ((mem_txsT 4 u).1 hu).2)]
    simp
  rw [hf]
  rfl
theorem catG_let : ∀ (ls : List Lg) (t : List Nat), (∀ l ∈ ls, ∀ u, l u → LetT u) → catG ls t → LetT t := by
  intro ls
  induction ls with
  | nil => intro t _ h; obtain rfl : t = [] := h; exact fun x hx => absurd hx (by simp)
  | cons l ls ih =>
    rintro t hl ⟨u, v, rfl, h1, h2⟩ x hx
    rcases List.mem_append.1 hx with hx | hx
    · exact hl l (by simp) u h1 x hx
    · exact ih v (fun m hm => hl m (by simp [hm])) h2 x hx
theorem starG_let {l : Lg} (hl : ∀ u, l u → LetT u) {t : List Nat} (h : starG l t) : LetT t := by
  induction h with
  | nil => exact fun x hx => absurd hx (by simp)
  | cons u v _ h1 _ ih =>
    intro x hx
    rcases List.mem_append.1 hx with hx | hx
    · exact hl _ h1 x hx
    · exact ih x hx
theorem k9_k (o : Int) (l u : Nat) (t : ByteArray) (ks : List SHP) : (SHP.mk o l u t ks).k = k9 o := by
  have e1 : IntKind.u64.wrap o = o % 18446744073709551616 := by simp [IntKind.wrap, IntKind.signed, IntKind.bits]
  have h0 : 0 ≤ o % 18446744073709551616 := by omega
  unfold k9 SHP.k
  rw [e1, Int.tmod_eq_emod_of_nonneg h0]
  show _ = _
  simp only [SHP.op]
  omega
/-- A pure shape has texts of the letters a to d alone. -/
theorem pure_let (s : SHP) : s.pure = true → ∀ t, s.lang t → LetT t := by
  refine SHP.ind (P := fun s => s.pure = true → ∀ t, s.lang t → LetT t) ?_ s
  intro o l u tx ks ih hp t ht
  rw [SHP.pure_mk, Bool.and_eq_true, Bool.and_eq_true, List.all_eq_true, Bool.or_eq_true, decide_eq_true_iff, decide_eq_true_iff] at hp
  obtain ⟨⟨h1, h2⟩, h3⟩ := hp
  have hk : ∀ k ∈ ks, ∀ t, k.lang t → LetT t := fun k hk => ih k hk (by simpa using h2 _ (List.mem_map.2 ⟨k, hk, rfl⟩))
  have hm : ∀ m ∈ ks.map SHP.lang, ∀ t, m t → LetT t := fun m hm => by
    obtain ⟨k, hk', rfl⟩ := List.mem_map.1 hm
    exact hk k hk'
  rw [SHP.lang_mk] at ht
  rw [← k9_k o l u tx ks] at h3
  revert ht
  generalize (SHP.mk o l u tx ks).k = k at *
  unfold inG
  by_cases e0 : k = 0
  · rw [if_pos e0]; exact False.elim
  rw [if_neg e0]
  by_cases e1 : k = 1
  · rw [if_pos e1]; rintro rfl; exact fun x hx => absurd hx (by simp)
  rw [if_neg e1]
  by_cases e2 : k = 2
  · rw [if_pos e2]
    rintro ⟨x, rfl, h4, h5⟩ y hy
    rcases List.mem_singleton.1 hy with rfl
    omega
  rw [if_neg e2]
  by_cases e3 : k = 3
  · rw [if_pos e3]; exact catG_let _ t hm
  rw [if_neg e3]
  by_cases e4 : k = 4
  · rw [if_pos e4]; rintro ⟨m, hm', h⟩; exact hm m hm' t h
  rw [if_neg e4]
  by_cases e5 : k = 5
  · rw [if_pos e5]
    rintro (rfl | ⟨m, hm', h⟩)
    · exact fun x hx => absurd hx (by simp)
    · exact starG_let (hm m (List.mem_of_getElem? hm')) h
  rw [if_neg e5]
  by_cases e6 : k = 6
  · rw [if_pos e6]
    intro h
    cases ks with
    | nil => rcases h3 with h3 | h3
             · exact absurd e6 h3
             · simp at h3
    | cons k0 r => exact hk k0 (by simp) t (h _ (by simp))
  rw [if_neg e6]
  by_cases e7 : k = 7
  · rw [if_pos e7]
    rintro ⟨⟨m, hm', h⟩, -⟩
    exact hm m (List.mem_of_getElem? hm') t h
  rw [if_neg e7]
  rintro rfl x hx
  unfold txP at h1
  have := List.all_eq_true.1 h1 x hx
  simpa using this
end Go.Proofs.YtjcfnmjjkadaeaaGreatDoor
/- Texts: the texts of up to four letters a to d, the least first. -/
namespace Go.Proofs.YtjcfnmjjkadaeaaGreatDoor
set_option maxRecDepth 100000
set_option linter.unusedSimpArgs false
set_option linter.unusedVariables false
open Go.RowKit Go.Shelf

abbrev strV (s : List Nat) : Value := .string (strB s)
/-- A row of texts of its own. -/
abbrev OwnTx (W : World) (base : Nat) (v : Value) (l : List (List Nat)) : Prop := OwnG W base 9 (.string ⟨#[]⟩) v (l.map strV)
theorem strB_snocN (s : List Nat) (x : Nat) : strB s ++ strOfNums [(x : Int)] = strB (s ++ [x]) := by
  apply ByteArray.ext
  simp [strB, strOfNums, ByteArray.data_append]
theorem one_byteT (W : World) (a : Nat) : (convert 38 9 (.slice (some ⟨W.heap.size, 0, none⟩) 1 1)).run Tryz.prog (W.alloc (.cells #[.int .u8 (a : Int)] 5)) = .ok (.string (strOfNums [(a : Int)])) (W.alloc (.cells #[.int .u8 (a : Int)] 5)) := by
  refine run_convert_bytes_arg _ 38 5 Tryz.underlying38 Tryz.underlying5 _ 0 1 1 [(a : Int)] rfl ?_ 9 Tryz.underlying9
  intro i hi
  rw [(Blk.new W _ _).cell]
  match i, hi with
  | 0, _ => rfl
theorem strB_lenT (l : List Nat) : (strB l).size = l.length := by simp [strB, strOfNums, ByteArray.size]
theorem lvT_len {k : Nat} (hk : k ≤ 4) : (lvT k).length ≤ 256 := by
  obtain rfl | rfl | rfl | rfl | rfl : k = 0 ∨ k = 1 ∨ k = 2 ∨ k = 3 ∨ k = 4 := by omega
  all_goals decide
theorem txsT_len {k : Nat} (hk : k ≤ 4) : (txsT k).length ≤ 341 := by
  obtain rfl | rfl | rfl | rfl | rfl : k = 0 ∨ k = 1 ∨ k = 2 ∨ k = 3 ∨ k = 4 := by omega
  all_goals decide
theorem lvT_pos {k : Nat} (hk : k ≤ 4) : 0 < (lvT k).length := by
  obtain rfl | rfl | rfl | rfl | rfl : k = 0 ∨ k = 1 ∨ k = 2 ∨ k = 3 ∨ k = 4 := by omega
  all_goals decide
theorem nxT_len (s : List Nat) : (nxT s).length = 4 := rfl
theorem nxT_take (s : List Nat) {m : Nat} (hm : m < 4) : (nxT s).take (m + 1) = (nxT s).take m ++ [s ++ [97 + m]] := by
  obtain rfl | rfl | rfl | rfl : m = 0 ∨ m = 1 ∨ m = 2 ∨ m = 3 := by omega
  all_goals rfl
theorem flat_nx (l : List (List Nat)) : (l.flatMap nxT).length = 4 * l.length := by
  induction l with
  | nil => rfl
  | cons x r ih => rw [List.flatMap_cons, List.length_append, ih, nxT_len, List.length_cons]; omega
theorem OwnTx.len {W : World} {base : Nat} {v : Value} {l : List (List Nat)} (h : OwnTx W base v l) : ∃ a cap, v = .slice a l.length cap := by
  obtain ⟨a, cap, h1, -⟩ := OwnG.slice h
  rw [List.length_map] at h1
  exact ⟨a, cap, h1⟩
/-- append of a text. -/
theorem run_appendTx {W : World} {base : Nat} {v : Value} {l : List (List Nat)} (ty : TypeId) (h : OwnTx W base v l) (g c : Nat) (s : List Nat) (hg : Blk W g #[strV s] 9) (hl : l.length + 1 ≤ 1099511627776) (hbase : base ≤ W.heap.size) :
    ∃ v' W', (Builtin.append_ #[101, 101] ty #[v, .slice (some ⟨g, 0, none⟩) 1 c]).run Tryz.prog W = .ok v' W' ∧ OwnTx W' base v' (l ++ [s]) ∧ AppG W W' base 9 (.string ⟨#[]⟩) v v' := by
  obtain ⟨v', W', h1, h2, h3⟩ := run_appendG (W := W) 101 9 ty (.string ⟨#[]⟩) 16 Tryz.underlying101 (by kernel_rfl) (by omega) rfl h ⟨g, 0, none⟩ c [strV s] (by simp) (fun j u hu => by
    rw [Go.WideShapes.add_plain, Nat.zero_add, hg.cell, ← hu]
    simp) (fun u hu => by simp at hu; subst hu; rfl) (by simp; omega) hbase
  refine ⟨v', W', h1, ?_, h3⟩
  have e : (l ++ [s]).map strV = l.map strV ++ [strV s] := by simp
  show OwnG _ _ _ _ _ _
  rw [e]; exact h2
/-- append of a row of texts. -/
theorem run_appendTxs {W : World} {base base' : Nat} {v u : Value} {l m : List (List Nat)} (ty : TypeId) (h : OwnTx W base v l) (hu : OwnTx W base' u m) (h0 : 0 < m.length) (hl : l.length + m.length ≤ 1099511627776) (hbase : base ≤ W.heap.size) :
    ∃ v' W', (Builtin.append_ #[101, 101] ty #[v, u]).run Tryz.prog W = .ok v' W' ∧ OwnTx W' base v' (l ++ m) ∧ AppG W W' base 9 (.string ⟨#[]⟩) v v' := by
  obtain ⟨g, cap, rfl, -, hg, -, hc⟩ := OwnG.at hu (by simpa using h0)
  obtain ⟨v', W', h1, h2, h3⟩ := run_appendG (W := W) 101 9 ty (.string ⟨#[]⟩) 16 Tryz.underlying101 (by kernel_rfl) (by omega) rfl h ⟨g, 0, none⟩ cap (m.map strV) (by simpa using h0) (fun j u hu => by
    rw [Go.WideShapes.add_plain, Nat.zero_add]
    exact hc j u hu) (fun u hu => by
    obtain ⟨s, -, rfl⟩ := List.mem_map.1 hu
    rfl) (by simpa using hl) hbase
  refine ⟨v', W', h1, ?_, h3⟩
  show OwnG _ _ _ _ _ _
  rw [List.map_append]; exact h2
set_option maxHeartbeats 2000000 in
theorem texts_any (n : Nat) (hn : n ≤ 4) (w : World) :
    Calls Tryz.prog 59 #[.int .i64 n] w fun e w' => ∃ v, e = .returned v ∧ OwnTx w' w.heap.size v (txsT n) ∧ Below w.heap.size w w' := by
  obtain ⟨B, hB⟩ : ∃ B, B = w.heap.size := ⟨_, rfl⟩
  have HB := hide hB
  rw [← hB]
  obtain ⟨w0, hw0⟩ : ∃ w0, w.alloc (.cells #[.string ⟨#[]⟩] 9) = w0 := ⟨_, rfl⟩
  have hk0 : Blk w0 B #[.string ⟨#[]⟩] 9 := by rw [← hw0]; exact Blk.newAt hB _ _
  have HBL : Hid (Below B w w0) := by rw [← hw0]; exact (Below.refl _ _).alloc (Nat.le_of_eq hB) _
  have HO : Hid (OwnTx w0 B (.slice (some ⟨B, 0, none⟩) 1 1) [[]]) := .inr ⟨B, 1, _, rfl, Nat.le_refl _, hk0, Nat.le_refl _, by unfold maxLen; omega, rfl⟩
  clear hk0
  go_enter Tryz.func59, Tryz.ntmps59
  go_wp2
  go_loopw [3, 4, 5] (fun ov lv iv wr => ∃ k : Nat, iv = .int .i64 k ∧ k ≤ n ∧ Hid (OwnTx wr B ov (txsT k)) ∧ Hid (OwnTx wr B lv (lvT k)) ∧ Hid (Below B w wr)) (fun _ _ iv _ => n - (intOf iv).toNat)
  case atStart => exact ⟨0, rfl, Nat.zero_le _, HB.out ▸ HO.out, HB.out ▸ HO.out, HBL.out⟩
  case round =>
    rename World => w1
    obtain ⟨k, rfl, hk, HOV, HLV, HBE⟩ := hrel
    by_cases hlt : k < n
    · have hd : decide ((k : Int) < (n : Int)) = true := by simp; omega
      obtain ⟨la, lc, rfl⟩ := HLV.out.len
      have hll := lvT_len (show k ≤ 4 by omega)
      obtain ⟨H, hH⟩ : ∃ H, H = w1.heap.size := ⟨_, rfl⟩
      obtain ⟨wn, hwn⟩ : ∃ wn, w1.alloc (.cells #[] 9) = wn := ⟨_, rfl⟩
      have hkn : Blk wn H #[] 9 := by rw [← hwn]; exact Blk.newAt hH _ _
      have HBN : Hid (Below H w1 wn) := by rw [← hwn]; exact (Below.refl _ _).alloc (Nat.le_of_eq hH) _
      have HON : Hid (OwnTx wn H (.slice (some ⟨H, 0, none⟩) 0 0) []) := .inr ⟨H, 0, _, rfl, Nat.le_refl _, hkn, Nat.le_refl _, by unfold maxLen; omega, rfl⟩
      have HHH := hide hH
      obtain ⟨L, hL⟩ : ∃ L, L = lvT k := ⟨_, rfl⟩
      have HLK := hide hL
      rw [← hL] at hll HLV ⊢
      obtain ⟨N, hN⟩ : ∃ N, L.length = N := ⟨_, rfl⟩
      have HNN := hide hN
      rw [hN] at hll HLV ⊢
      clear hkn hN hL
      go_wp2
      go_loopw [6, 20] (fun nv iv wz => ∃ q : Nat, iv = .int .i64 q ∧ q ≤ N ∧ Hid (OwnTx wz H nv ((L.take q).flatMap nxT)) ∧ Hid (Below H w1 wz)) (fun _ iv _ => N - (intOf iv).toNat)
      case atStart => exact ⟨0, rfl, Nat.zero_le _, HHH.out ▸ HON.out, HBN.out⟩
      case round =>
        rename World => w2
        obtain ⟨q, rfl, hq, HNX, HBZ⟩ := hrel
        by_cases hqn : q < N
        · have dq : decide ((q : Int) < (N : Int)) = true := by simp; omega
          have dq2 : decide (q < N) = true := decide_eq_true hqn
          obtain ⟨g, cap, e, -, hg, -, hc⟩ := OwnG.at HLV.out (by rw [List.length_map, HNN.out]; omega)
          rw [List.length_map, HNN.out] at e
          obtain ⟨rfl, rfl⟩ : la = some ⟨g, 0, none⟩ ∧ lc = cap := by cases e; exact ⟨rfl, rfl⟩
          clear e
          obtain ⟨s, hs⟩ : ∃ s, L[q]? = some s := ⟨_, List.getElem?_eq_getElem (by rw [HNN.out]; exact hqn)⟩
          have hcell : w2.cell? ⟨g, q, none⟩ = some (.string (strB s)) := (World.cell?_of_block (w := w1) (HBZ.out.block g (HHH.out ▸ hg))).trans (hc q _ (by rw [List.getElem?_map, hs]; rfl))
          have HTK : Hid (L.take (q + 1) = L.take q ++ [s]) := by
            show _ = _
            rw [List.take_add_one, hs]; rfl
          have hs4 : (strB s).size ≤ 4 := by
            have h1 := (mem_lvT k s).1 (by rw [← HLK.out]; exact List.mem_of_getElem? hs)
            rw [strB_lenT]
            omega
          clear hc hs
          go_wp2
          go_loopw [6, 9] (fun mv cv wy => ∃ m : Nat, cv = .int .u8 ((97 + m : Nat) : Int) ∧ m ≤ 4 ∧ Hid (OwnTx wy H mv ((L.take q).flatMap nxT ++ (nxT s).take m)) ∧ Hid (Below H w1 wy)) (fun _ cv _ => 101 - (intOf cv).toNat)
          case atStart => exact ⟨0, rfl, Nat.zero_le _, by rw [List.take_zero, List.append_nil]; exact HNX.out, HBZ.out⟩
          case round =>
            rename World => w3
            obtain ⟨m, rfl, hm, HMX, HBY⟩ := hrel
            obtain ⟨d, hdm⟩ : ∃ d, d = 97 + m := ⟨_, rfl⟩
            rw [← hdm]
            by_cases hm4 : m < 4
            · have dm : decide ((d : Int) ≤ 100) = true := by simp; omega
              have hd6 : d < 256 := by omega
              have e9 : IntKind.u8.wrap ((d : Int) + 1) = ((97 + (m + 1) : Nat) : Int) := by simp [IntKind.wrap, IntKind.signed, IntKind.bits]; omega
              have hcv := one_byteT w3 d
              have hst := strB_snocN s d
              have htt : (strOfNums [(d : Int)]).size ≤ 1 := by rw [strOfNums_size]; exact Nat.le_refl _
              generalize strOfNums [(d : Int)] = tt at *
              have HD := hide hdm
              clear hdm
              obtain ⟨v1, hv1⟩ : ∃ v, w3.alloc (.cells #[.int .u8 (d : Int)] 5) = v := ⟨_, rfl⟩
              rw [hv1] at hcv
              obtain ⟨v2, hv2⟩ : ∃ v, v1.alloc (.cells #[.string (strB (s ++ [d]))] 9) = v := ⟨_, rfl⟩
              have hz1 : w3.heap.size + 1 = v1.heap.size := by rw [← hv1]; simp
              have hb1 : Below w3.heap.size w3 v1 := by rw [← hv1]; exact (Below.refl _ _).alloc (Nat.le_refl _) _
              have hb2 : Below w3.heap.size w3 v2 := by rw [← hv2]; exact hb1.alloc hb1.size _
              have hk2 : Blk v2 v1.heap.size #[strV (s ++ [d])] 9 := by rw [← hv2]; exact Blk.newAt rfl _ _
              have hml : ((L.take q).flatMap nxT ++ (nxT s).take m).length + 1 ≤ 1099511627776 := by
                rw [List.length_append, flat_nx, List.length_take, List.length_take, nxT_len]
                have := HNN.out
                omega
              obtain ⟨v', W', hr3, ho3, ha3⟩ := run_appendTx 101 (HMX.out.keep hb2) v1.heap.size 1 (s ++ [d]) hk2 hml (by have h1 := HBY.out.size; have h2 := hb2.size; have h3 := HHH.out; omega)
              have HO3 := hide ho3
              have HB3 : Hid (Below H w1 W') := (HBY.out.trans (hb2.mono (by have h1 := HBY.out.size; have h3 := HHH.out; omega))).trans ha3.below
              clear hb1 hb2 hk2 hml ho3 ha3 hz1
              go_wp2_with (refine wpList_append_run rfl _ _ _ rfl _ _ _ rfl rfl hr3 ?_)
              refine ⟨⟨m + 1, by go_num, hm4, ?_, HB3.out⟩, ?_⟩
              · show OwnTx _ _ _ _
                rw [nxT_take s hm4, ← HD.out, ← List.append_assoc]
                exact HO3.out
              · have h9 := HD.out
                simp [intOf]; omega
            · have dm : decide ((d : Int) ≤ 100) = false := by simp; omega
              obtain rfl : m = 4 := by omega
              have HD := hide hdm
              clear hdm
              go_wp2
              refine ⟨⟨q + 1, by go_num, hqn, ?_, HBY.out⟩, by simp [intOf]; omega⟩
              show OwnTx _ _ _ _
              rw [HTK.out, List.flatMap_append, List.flatMap_singleton]
              exact HMX.out
        · have dq : decide ((q : Int) < (N : Int)) = false := by simp; omega
          have dq2 : decide (q < N) = false := decide_eq_false hqn
          obtain rfl : q = N := by omega
          have HFL : Hid ((L.take q).flatMap nxT = lvT (k + 1)) := by
            show _ = _
            rw [← HNN.out, List.take_length, HLK.out]; rfl
          have hpos : 0 < ((L.take q).flatMap nxT).length := by rw [HFL.out]; exact lvT_pos (by omega)
          have hsum : (txsT k).length + ((L.take q).flatMap nxT).length ≤ 1099511627776 := by
            rw [HFL.out]
            have h1 := txsT_len (show k ≤ 4 by omega)
            have h2 := lvT_len (show k + 1 ≤ 4 by omega)
            omega
          have hov : OwnTx w2 B u3 (txsT k) := HOV.out.keep (HHH.out ▸ HBZ.out)
          obtain ⟨v', W', hr3, ho3, ha3⟩ := run_appendTxs 101 hov HNX.out hpos hsum (by have h1 := HBE.out.size; have h2 := HBZ.out.size; have h3 := HB.out; omega)
          have HOV3 := hide ho3
          have HBW : Hid (Below B w W') := (HBE.out.trans (HBZ.out.mono (by have h1 := HBE.out.size; have h2 := HHH.out; have h3 := HB.out; omega))).trans ha3.below
          obtain ⟨na, nc, rfl⟩ := HNX.out.len
          have HNX' : Hid (OwnTx W' B (.slice na ((L.take q).flatMap nxT).length nc) ((L.take q).flatMap nxT)) := by
            refine OwnG.lower (base := H) (OwnG.other HNX.out fun g hg hlt => ?_) (by have h1 := HBE.out.size; have h2 := HHH.out; have h3 := HB.out; omega)
            refine ha3.block g hlt fun e => ?_
            have hge : H ≤ g := by
              rcases HNX.out with ⟨e1, e2⟩ | ⟨g2, c2, cu2, e1, h1, -⟩
              · rw [e1] at hg; cases hg
              · rw [e1] at hg; cases hg; exact h1
            have hlt2 : g < H := by
              rcases HOV.out with ⟨e1, e2⟩ | ⟨g2, c2, cu2, e1, -, h1, -⟩
              · rw [e1] at e; cases e
              · rw [e1] at e
                have h4 := h1.lt
                have h5 := HHH.out
                injection e with h6
                have h7 : g2 = g := h6
                omega
            omega
          obtain ⟨oa, oc, rfl⟩ := HOV.out.len
          obtain ⟨M, hM⟩ : ∃ M, ((L.take q).flatMap nxT).length = M := ⟨_, rfl⟩
          rw [hM] at hr3 HNX HNX' ⊢
          rw [HFL.out] at HNX' HOV3
          clear hM
          clear ho3 ha3 hov hpos hsum
          go_wp2_with (refine wpList_append_run rfl _ _ _ rfl _ _ _ rfl rfl hr3 ?_)
          refine ⟨⟨k + 1, by go_num, hlt, HOV3, HNX', HBW.out⟩, by simp [intOf]; omega⟩
    · obtain rfl : k = n := by omega
      have hd : decide ((k : Int) < (k : Int)) = false := by simp
      obtain ⟨oa, oc, rfl⟩ := HOV.out.len
      generalize (txsT k).length = M at *
      go_wp2
      go_ret
      exact ⟨_, rfl, HOV.out, HBE.out⟩
end Go.Proofs.YtjcfnmjjkadaeaaGreatDoor
/- least: is a text the least one that something holds of, among those of up to four letters? -/
namespace Go.Proofs.YtjcfnmjjkadaeaaGreatDoor
set_option maxRecDepth 100000
set_option linter.unusedSimpArgs false
set_option linter.unusedVariables false
open Go.RowKit Go.Shelf

theorem find_at {p : List Nat → Bool} : ∀ {l : List (List Nat)} {k : Nat} {s : List Nat}, l[k]? = some s → (∀ t ∈ l.take k, p t = false) → p s = true → l.find? p = some s
  | [], k, s, hs, _, _ => by simp at hs
  | x :: r, 0, s, hs, _, hp => by
    obtain rfl : x = s := by simpa using hs
    rw [List.find?_cons, hp]
  | x :: r, k + 1, s, hs, hno, hp => by
    rw [List.find?_cons, hno x (by simp)]
    exact find_at (by simpa using hs) (fun t ht => hno t (by simp [ht])) hp
/-- What is called, of any text: whether something holds of it. -/
structure HoldsF (f : Nat) (pre boxes : Array Value) (p : List Nat → Bool) (W0 : World) : Prop where
  ent : ∀ args W, (callFunc f args).run Tryz.prog W = .ok (.enter f args) W
  ans : ∀ W, Below W0.heap.size W0 W → ∀ t : List Nat, By t → t.length ≤ 8 → Calls Tryz.prog f (pre.push (.string (strB t)) ++ boxes) W fun e w' => e = .returned (.bool (p t)) ∧ Below W.heap.size W w'
theorem leastB_pos {w : List Nat} {ok : Bool} {p : List Nat → Bool} (h : (ok && !p w) = false) {k : Nat} {s : List Nat} (hs : (txsT 4)[k]? = some s) (hno : ∀ t ∈ (txsT 4).take k, p t = false) (hp : p s = true) : leastB w ok p = (ok && decide (w = s)) := by
  unfold leastB
  rw [h, find_at hs hno hp]
  rfl
theorem leastB_none {w : List Nat} {ok : Bool} {p : List Nat → Bool} (h : (ok && !p w) = false) (hno : ∀ t ∈ txsT 4, p t = false) : leastB w ok p = (!ok || decide (4 < w.length)) := by
  unfold leastB
  have hf : (txsT 4).find? p = none := by
    rw [List.find?_eq_none]
    intro u hu
    rw [hno u hu]; simp
  rw [h, hf]
  rfl
theorem strB_eqT {a b : List Nat} (ha : By a) (hb : By b) : ((strB a).toList == (strB b).toList) = decide (a = b) := by
  rw [ByteArray.toList_eq, ByteArray.toList_eq]
  by_cases e : a = b
  · subst e; simp
  · rw [decide_eq_false e]
    exact beq_eq_false_iff_ne.2 fun h => e (strB_inj ha hb (Go.WideShapes.bytes_inj h))
set_option maxHeartbeats 2000000 in
theorem leastL_any (f : Nat) (pre boxes : Array Value) (p : List Nat → Bool) (t0 : List Nat) (ok : Bool) (w : World) (h0 : By t0) (h8 : t0.length ≤ 8) (hH : HoldsF f pre boxes p w) :
    Calls Tryz.prog 23 #[.string (strB t0), .bool ok, .func (.func f) pre boxes] w fun e w' => e = .returned (.bool (leastB t0 ok p)) ∧ Below w.heap.size w w' := by
  have HH := hide hH.ans
  have hent := hH.ent
  obtain ⟨B, hB⟩ : ∃ B, B = w.heap.size := ⟨_, rfl⟩
  have HB := hide hB
  rw [← hB]
  obtain ⟨s0, hs0⟩ : ∃ s0, strB t0 = s0 := ⟨_, rfl⟩
  have hz0 : s0.size = t0.length := by rw [← hs0]; exact strB_lenT t0
  have hz8 : s0.size ≤ 8 := by omega
  have HS0 := hide hs0
  obtain ⟨res, hres⟩ : ∃ res, res = leastB t0 ok p := ⟨_, rfl⟩
  have HRS := hide hres
  have HZ0 := hide hz0
  have HC0 := hide (hH.ans w (Below.refl _ _) t0 h0 h8)
  rw [hs0] at HC0 ⊢
  rw [← hres]
  have HBY := hide h0
  clear hH hs0 hres hz0 h0
  -- behind the first question
  have HR : Hid (∀ W k s, Below B w W → (ok && !p t0) = false → (txsT 4)[k]? = some s → (∀ t ∈ (txsT 4).take k, p t = false) → p s = true → res = (ok && (s0.toList == (strB s).toList))) := fun W k s _ h hs hno hp => by
    rw [HRS.out, leastB_pos h hs hno hp, ← HS0.out, strB_eqT HBY.out (letT_by ((mem_txsT 4 s).1 (List.mem_of_getElem? hs)).2)]
  have HN : Hid ((ok && !p t0) = false → (∀ t ∈ txsT 4, p t = false) → res = (!ok || decide (4 < s0.size))) := fun h hno => by
    rw [HRS.out, leastB_none h hno, HZ0.out]
  have HF : Hid ((ok && !p t0) = true → res = false) := fun h => by
    rw [HRS.out]; unfold leastB; rw [h]; rfl
  obtain ⟨q0, hq0⟩ : ∃ q, p t0 = q := ⟨_, rfl⟩
  rw [hq0] at HC0 HR HN HF
  clear HRS HS0 HZ0 HBY hq0
  go_enter Tryz.func23, Tryz.ntmps23
  cases ok with
  | true =>
    go_wp2_with fail
    refine HC0.out.mono ?_
    rintro e w1 ⟨rfl, hb1⟩
    have HB1 := hide (HB.out ▸ hb1)
    clear hb1 HC0
    cases q0 with
    | false =>
      have hr := HF.out rfl
      clear HF HN HR
      subst hr
      go_wp2
      go_ret
      exact ⟨rfl, HB1.out⟩
    | true =>
      go_wp2_with fail
      refine (texts_any 4 (by omega) w1).mono ?_
      rintro e w2 ⟨v, rfl, ho, hb2⟩
      have HO := hide ho
      have HB2 := hide (HB1.out.trans (hb2.mono (by have h1 := HB1.out.size; have h3 := HB.out; omega)))
      clear hb2 HF
      obtain ⟨g, cap, rfl, -, hg, -, hc⟩ := OwnG.at ho (by rw [List.length_map]; exact Nat.lt_of_lt_of_le (by decide) (Nat.le_refl _))
      have hl4 : ((txsT 4).map strV).length = 341 := by rw [List.length_map]; decide
      rw [hl4] at HO ⊢
      have HC := hide hc
      clear ho hc hl4
      go_wp2
      go_loopw [18] (fun iv wr => ∃ k : Nat, iv = .int .i64 k ∧ k ≤ 341 ∧ Hid (∀ t ∈ (txsT 4).take k, p t = false) ∧ Hid (Below w2.heap.size w2 wr)) (fun iv _ => 341 - (intOf iv).toNat)
      case atStart => exact ⟨0, rfl, Nat.zero_le _, fun t ht => absurd ht (by simp), Below.refl _ _⟩
      case round =>
        obtain ⟨k, rfl, hk, HNO, HBE⟩ := hrel
        by_cases hlt : k < 341
        · have dk : decide ((k : Int) < 341) = true := by simp; omega
          obtain ⟨s, hs⟩ : ∃ s, (txsT 4)[k]? = some s := ⟨_, List.getElem?_eq_getElem (by rw [show (txsT 4).length = 341 by decide]; exact hlt)⟩
          have hcell : wr.cell? ⟨g, k, none⟩ = some (.string (strB s)) := (World.cell?_of_block (w := w2) (HBE.out.block g hg)).trans (HC.out k _ (by rw [List.getElem?_map, hs]; rfl))
          have hmem := (mem_txsT 4 s).1 (List.mem_of_getElem? hs)
          have HSK := hide hs
          have hsz : B ≤ w2.heap.size := by have h1 := HB2.out.size; have h3 := HB.out; omega
          have HBW := hide (HB2.out.trans (HBE.out.mono hsz))
          have HCK := hide (HH.out wr (HB.out ▸ HBW.out) s (letT_by hmem.2) (by have := hmem.1; omega))
          obtain ⟨pk, hpk⟩ : ∃ pk, p s = pk := ⟨_, rfl⟩
          rw [hpk] at HCK
          have HPK := hide hpk
          obtain ⟨sk, hsk⟩ : ∃ sk, strB s = sk := ⟨_, rfl⟩
          have HSS := hide hsk
          rw [hsk] at HCK hcell
          clear hs hmem hpk hsk hsz
          go_wp2_with fail
          refine HCK.out.mono ?_
          rintro e w3 ⟨rfl, hb3⟩
          have HB3 := hide (HBE.out.trans (hb3.mono HBE.out.size))
          have HBW3 := hide (HBW.out.trans (hb3.mono (by have h1 := HBW.out.size; have h3 := HB.out; omega)))
          clear hb3 HCK hcell
          cases pk with
          | true =>
            have hr := HR.out w3 k s HBW3.out rfl HSK.out HNO.out HPK.out
            rw [HSS.out, Bool.true_and] at hr
            have HRR := hide hr
            clear HR HN hr
            go_wp2
            go_ret
            exact ⟨by rw [HRR.out]; rfl, HBW3.out⟩
          | false =>
            go_wp2
            refine ⟨⟨k + 1, by go_num, hlt, ?_, HB3.out⟩, by simp [intOf]; omega⟩
            intro t ht
            rw [List.take_add_one, HSK.out] at ht
            rcases List.mem_append.1 ht with ht | ht
            · exact HNO.out t ht
            · rcases List.mem_singleton.1 ht with rfl; exact HPK.out
        · have dk : decide ((k : Int) < 341) = false := by simp; omega
          have hr := HN.out rfl (fun t ht => HNO.out t (by rw [List.take_of_length_le (by rw [show (txsT 4).length = 341 by decide]; omega)]; exact ht))
          have hsz : B ≤ w2.heap.size := by have h1 := HB2.out.size; have h3 := HB.out; omega
          have HBW := hide (HB2.out.trans (HBE.out.mono hsz))
          have HRR := hide hr
          clear HR HN hr
          go_wp2
          go_ret
          refine ⟨?_, HBW.out⟩
          rw [HRR.out]
          first | (simp; done) | (simp; omega)
  | false =>
    go_wp2_with fail
    refine (texts_any 4 (by omega) w).mono ?_
    rintro e w2 ⟨v, rfl, ho, hb2⟩
    have HO := hide ho
    have HB2 := hide (show Below B w w2 from HB.out ▸ hb2)
    clear hb2 HF HC0
    obtain ⟨g, cap, rfl, -, hg, -, hc⟩ := OwnG.at ho (by rw [List.length_map]; exact Nat.lt_of_lt_of_le (by decide) (Nat.le_refl _))
    have hl4 : ((txsT 4).map strV).length = 341 := by rw [List.length_map]; decide
    rw [hl4] at HO ⊢
    have HC := hide hc
    clear ho hc hl4
    go_wp2
    go_loopw [18] (fun iv wr => ∃ k : Nat, iv = .int .i64 k ∧ k ≤ 341 ∧ Hid (∀ t ∈ (txsT 4).take k, p t = false) ∧ Hid (Below w2.heap.size w2 wr)) (fun iv _ => 341 - (intOf iv).toNat)
    case atStart => exact ⟨0, rfl, Nat.zero_le _, fun t ht => absurd ht (by simp), Below.refl _ _⟩
    case round =>
      obtain ⟨k, rfl, hk, HNO, HBE⟩ := hrel
      by_cases hlt : k < 341
      · have dk : decide ((k : Int) < 341) = true := by simp; omega
        obtain ⟨s, hs⟩ : ∃ s, (txsT 4)[k]? = some s := ⟨_, List.getElem?_eq_getElem (by rw [show (txsT 4).length = 341 by decide]; exact hlt)⟩
        have hcell : wr.cell? ⟨g, k, none⟩ = some (.string (strB s)) := (World.cell?_of_block (w := w2) (HBE.out.block g hg)).trans (HC.out k _ (by rw [List.getElem?_map, hs]; rfl))
        have hmem := (mem_txsT 4 s).1 (List.mem_of_getElem? hs)
        have HSK := hide hs
        have hsz : B ≤ w2.heap.size := by have h1 := HB2.out.size; have h3 := HB.out; omega
        have HBW := hide (HB2.out.trans (HBE.out.mono hsz))
        have HCK := hide (HH.out wr (HB.out ▸ HBW.out) s (letT_by hmem.2) (by have := hmem.1; omega))
        obtain ⟨pk, hpk⟩ : ∃ pk, p s = pk := ⟨_, rfl⟩
        rw [hpk] at HCK
        have HPK := hide hpk
        obtain ⟨sk, hsk⟩ : ∃ sk, strB s = sk := ⟨_, rfl⟩
        have HSS := hide hsk
        rw [hsk] at HCK hcell
        clear hs hmem hpk hsk hsz
        go_wp2_with fail
        refine HCK.out.mono ?_
        rintro e w3 ⟨rfl, hb3⟩
        have HB3 := hide (HBE.out.trans (hb3.mono HBE.out.size))
        have HBW3 := hide (HBW.out.trans (hb3.mono (by have h1 := HBW.out.size; have h3 := HB.out; omega)))
        clear hb3 HCK hcell
        cases pk with
        | true =>
          have hr := HR.out w3 k s HBW3.out rfl HSK.out HNO.out HPK.out
          rw [Bool.false_and] at hr
          have HRR := hide hr
          clear HR HN hr
          go_wp2
          go_ret
          exact ⟨by rw [HRR.out]; rfl, HBW3.out⟩
        | false =>
          go_wp2
          refine ⟨⟨k + 1, by go_num, hlt, ?_, HB3.out⟩, by simp [intOf]; omega⟩
          intro t ht
          rw [List.take_add_one, HSK.out] at ht
          rcases List.mem_append.1 ht with ht | ht
          · exact HNO.out t ht
          · rcases List.mem_singleton.1 ht with rfl; exact HPK.out
      · have dk : decide ((k : Int) < 341) = false := by simp; omega
        have hr := HN.out rfl (fun t ht => HNO.out t (by rw [List.take_of_length_le (by rw [show (txsT 4).length = 341 by decide]; omega)]; exact ht))
        have hsz : B ≤ w2.heap.size := by have h1 := HB2.out.size; have h3 := HB.out; omega
        have HBW := hide (HB2.out.trans (HBE.out.mono hsz))
        have HRR := hide hr
        clear HR HN hr
        go_wp2
        go_ret
        refine ⟨?_, HBW.out⟩
        rw [HRR.out]
        first | (simp; done) | (simp; omega)
end Go.Proofs.YtjcfnmjjkadaeaaGreatDoor
/- AutoPairs' own functions: texts of one and not of the other, of both, of one alone. -/
namespace Go.Proofs.YtjcfnmjjkadaeaaGreatDoor
set_option maxRecDepth 100000
set_option linter.unusedSimpArgs false
set_option linter.unusedVariables false
open Go.RowKit Go.Shelf

theorem bytesN_strT {l : List Nat} (h : ∀ x ∈ l, x < 256) : bytesN (strB l) = l := by
  simp only [bytesN, strB, strOfNums, List.map_map, Function.comp_def, Int.toNat_natCast]
  have : l.map (fun x => (UInt8.ofNat x).toNat) = l.map id := List.map_congr_left fun x hx => by
    have := h x hx
    simp; omega
  simpa using this
theorem hB_strB {l : Lg} {t : List Nat} (ht : By t) : hB l (strB t) = true ↔ l t := by rw [hB_iff, bytesN_strT ht]
/-- Two shapes in boxes. -/
structure PairB (W0 : World) (cs ct : List Value) (s t : SHP) (bx bt : Nat) : Prop where
  s : ShC W0 cs s
  t : ShC W0 ct t
  bs : Blk W0 bx cs.toArray 24
  bt : Blk W0 bt ct.toArray 24
theorem PairB.keep {W0 W : World} {cs ct : List Value} {s t : SHP} {bx bt : Nat} (h : PairB W0 cs ct s t bx bt) (hb : Below W0.heap.size W0 W) : PairB W cs ct s t bx bt :=
  ⟨h.s.keep hb, h.t.keep hb, h.bs.below hb h.bs.lt, h.bt.below hb h.bt.lt⟩
set_option maxHeartbeats 1000000 in
theorem pair1_any {W : World} {cs ct : List Value} {s t : SHP} {bx bt : Nat} (h : PairB W cs ct s t bx bt) (u : ByteArray) (hu : u.size ≤ 1000) :
    Calls Tryz.prog 28 #[.string u, PT bx, PT bt] W fun e w' => e = .returned (.bool (hB s.lang u && !hB t.lang u)) ∧ Below W.heap.size W w' := by
  obtain ⟨kv, hcs, hrow, -⟩ := h.s.open
  obtain ⟨-, a, cap, rfl, -⟩ := hrow.at
  obtain ⟨kt, hct, hrowt, -⟩ := h.t.open
  obtain ⟨-, at', capt, rfl, -⟩ := hrowt.at
  have H := hide h
  have HI1 := hide (shIn_any s u hu cs W h.s)
  obtain ⟨q1, hq1⟩ : ∃ q, hB s.lang u = q := ⟨_, rfl⟩
  obtain ⟨q2, hq2⟩ : ∃ q, hB t.lang u = q := ⟨_, rfl⟩
  have HI2 : Hid (∀ W', Below W.heap.size W W' → Calls Tryz.prog 24 #[ShVal ct, .string u] W' fun e w' => e = .returned (.bool q2) ∧ Below W'.heap.size W' w') := fun W' hW' => by rw [← hq2]; exact shIn_any t u hu ct W' (h.t.keep hW')
  rw [hq1, hq2]
  rw [hq1] at HI1
  have x0 := h.bs.cell 0; have x1 := h.bs.cell 1; have x2 := h.bs.cell 2; have x3 := h.bs.cell 3; have x4 := h.bs.cell 4
  rw [hcs] at HI1
  rw [hct] at HI2
  rw [hcs] at x0 x1 x2 x3 x4
  simp only [List.getElem?_toArray, List.getElem?_cons_zero, List.getElem?_cons_succ] at x0 x1 x2 x3 x4
  have HCT := hide hct
  unfold ShVal at HI1 HI2
  clear h hrow hrowt hcs hct hq1 hq2
  unfold PT
  go_enter Tryz.func28, Tryz.ntmps28
  cases q1 with
  | false =>
    go_wp2_with fail
    refine HI1.out.mono ?_
    rintro e w1 ⟨rfl, hb1⟩
    have HB1 := hide hb1
    clear hb1 x0 x1 x2 x3 x4 HI1
    go_wp2
    go_ret
    exact ⟨rfl, HB1.out⟩
  | true =>
    go_wp2_with fail
    refine HI1.out.mono ?_
    rintro e w1 ⟨rfl, hb1⟩
    have HB1 := hide hb1
    have hbt := H.out.bt.below hb1 H.out.bt.lt
    rw [HCT.out] at hbt
    have y0 := hbt.cell 0; have y1 := hbt.cell 1; have y2 := hbt.cell 2; have y3 := hbt.cell 3; have y4 := hbt.cell 4
    simp only [List.getElem?_toArray, List.getElem?_cons_zero, List.getElem?_cons_succ] at y0 y1 y2 y3 y4
    have HI3 := hide (HI2.out w1 hb1)
    clear hb1 x0 x1 x2 x3 x4 HI1 hbt
    go_wp2_with fail
    refine HI3.out.mono ?_
    rintro e w2 ⟨rfl, hb2⟩
    have HB2 := hide (HB1.out.trans (hb2.mono HB1.out.size))
    clear hb2 HI3 y0 y1 y2 y3 y4
    go_wp2
    go_ret
    exact ⟨rfl, HB2.out⟩
set_option maxHeartbeats 1000000 in
theorem pair2_any {W : World} {cs ct : List Value} {s t : SHP} {bx bt : Nat} (h : PairB W cs ct s t bx bt) (u : ByteArray) (hu : u.size ≤ 1000) :
    Calls Tryz.prog 29 #[.string u, PT bx, PT bt] W fun e w' => e = .returned (.bool (hB s.lang u && hB t.lang u)) ∧ Below W.heap.size W w' := by
  obtain ⟨kv, hcs, hrow, -⟩ := h.s.open
  obtain ⟨-, a, cap, rfl, -⟩ := hrow.at
  obtain ⟨kt, hct, hrowt, -⟩ := h.t.open
  obtain ⟨-, at', capt, rfl, -⟩ := hrowt.at
  have H := hide h
  have HI1 := hide (shIn_any s u hu cs W h.s)
  obtain ⟨q1, hq1⟩ : ∃ q, hB s.lang u = q := ⟨_, rfl⟩
  obtain ⟨q2, hq2⟩ : ∃ q, hB t.lang u = q := ⟨_, rfl⟩
  have HI2 : Hid (∀ W', Below W.heap.size W W' → Calls Tryz.prog 24 #[ShVal ct, .string u] W' fun e w' => e = .returned (.bool q2) ∧ Below W'.heap.size W' w') := fun W' hW' => by rw [← hq2]; exact shIn_any t u hu ct W' (h.t.keep hW')
  rw [hq1, hq2]
  rw [hq1] at HI1
  have x0 := h.bs.cell 0; have x1 := h.bs.cell 1; have x2 := h.bs.cell 2; have x3 := h.bs.cell 3; have x4 := h.bs.cell 4
  rw [hcs] at HI1
  rw [hct] at HI2
  rw [hcs] at x0 x1 x2 x3 x4
  simp only [List.getElem?_toArray, List.getElem?_cons_zero, List.getElem?_cons_succ] at x0 x1 x2 x3 x4
  have HCT := hide hct
  unfold ShVal at HI1 HI2
  clear h hrow hrowt hcs hct hq1 hq2
  unfold PT
  go_enter Tryz.func29, Tryz.ntmps29
  cases q1 with
  | false =>
    go_wp2_with fail
    refine HI1.out.mono ?_
    rintro e w1 ⟨rfl, hb1⟩
    have HB1 := hide hb1
    clear hb1 x0 x1 x2 x3 x4 HI1
    go_wp2
    go_ret
    exact ⟨rfl, HB1.out⟩
  | true =>
    go_wp2_with fail
    refine HI1.out.mono ?_
    rintro e w1 ⟨rfl, hb1⟩
    have HB1 := hide hb1
    have hbt := H.out.bt.below hb1 H.out.bt.lt
    rw [HCT.out] at hbt
    have y0 := hbt.cell 0; have y1 := hbt.cell 1; have y2 := hbt.cell 2; have y3 := hbt.cell 3; have y4 := hbt.cell 4
    simp only [List.getElem?_toArray, List.getElem?_cons_zero, List.getElem?_cons_succ] at y0 y1 y2 y3 y4
    have HI3 := hide (HI2.out w1 hb1)
    clear hb1 x0 x1 x2 x3 x4 HI1 hbt
    go_wp2_with fail
    refine HI3.out.mono ?_
    rintro e w2 ⟨rfl, hb2⟩
    have HB2 := hide (HB1.out.trans (hb2.mono HB1.out.size))
    clear hb2 HI3 y0 y1 y2 y3 y4
    go_wp2
    go_ret
    exact ⟨rfl, HB2.out⟩
set_option maxHeartbeats 1000000 in
theorem pair3_any {W : World} {cs ct : List Value} {s t : SHP} {bx bt : Nat} (h : PairB W cs ct s t bx bt) (u : ByteArray) (hu : u.size ≤ 1000) :
    Calls Tryz.prog 30 #[.string u, PT bx, PT bt] W fun e w' => e = .returned (.bool (hB s.lang u != hB t.lang u)) ∧ Below W.heap.size W w' := by
  have HL1 := hide h.s.len
  have HL2 := hide h.t.len
  obtain ⟨q1, hq1⟩ : ∃ q, hB s.lang u = q := ⟨_, rfl⟩
  obtain ⟨q2, hq2⟩ : ∃ q, hB t.lang u = q := ⟨_, rfl⟩
  rw [hq1, hq2]
  obtain ⟨C, hC⟩ : ∃ C : World → Prop, C = fun X => Below W.heap.size W X := ⟨_, rfl⟩
  have hcb : ∀ X, C X → Below W.heap.size W X := fun X h => by rw [hC] at h; exact h
  have HG : Hid (Grows C) := fun X X' h hb => by rw [hC] at h ⊢; exact h.trans (hb.mono h.size)
  have HQS : Hid (∀ X, C X → ∀ j u, cs[j]? = some u → X.cell? ⟨bx, 0 + j, none⟩ = some u) := fun X hX j u hu => by
    have hx := h.bs.below (hcb X hX) h.bs.lt
    rw [Nat.zero_add, hx.cell j]
    simpa using hu
  have HQT : Hid (∀ X, C X → ∀ j u, ct[j]? = some u → X.cell? ⟨bt, 0 + j, none⟩ = some u) := fun X hX j u hu => by
    have hx := h.bt.below (hcb X hX) h.bt.lt
    rw [Nat.zero_add, hx.cell j]
    simpa using hu
  have HI1 : Hid (∀ X, C X → Calls Tryz.prog 24 #[ShVal cs, .string u] X fun e w' => e = .returned (.bool q1) ∧ Below X.heap.size X w') := fun X hX => by rw [← hq1]; exact shIn_any s u hu cs X (h.s.keep (hcb X hX))
  have HI2 : Hid (∀ X, C X → Calls Tryz.prog 24 #[ShVal ct, .string u] X fun e w' => e = .returned (.bool q2) ∧ Below X.heap.size X w') := fun X hX => by rw [← hq2]; exact shIn_any t u hu ct X (h.t.keep (hcb X hX))
  have HC6 : Hid (C { W with drawn := W.drawn + 1 }) := by
    rw [hC]
    exact ⟨rfl, rfl, rfl, Nat.le_refl _, fun _ _ => rfl⟩
  have HCB := hide hcb
  clear h hq1 hq2 hC hcb
  unfold PT
  go_enter Tryz.func30, Tryz.ntmps30
  go_wp2
  have hG := HG.out
  have hqS := HQS.out
  have hqT := HQT.out
  have hi1 := HI1.out
  have hi2 := HI2.out
  refine w_lit (C := C) (by kernel_rfl) (by kernel_rfl) HC6.out ?_
  refine w_value (ShVal cs) (by kernel_rfl) (fun w hw => x_loadSh _ _ _ _ _ _ _ bx 0 cs rfl w HL1.out (hqS w hw)) ?_
  simp only [Act.put, List.setIfInBounds_toArray, List.set_cons_succ, List.set_cons_zero]
  refine w_value (.string u) (by kernel_rfl) (fun w hw => x_move _ _ _ _ _ _ _ _ rfl w) ?_
  simp only [Act.put, List.setIfInBounds_toArray, List.set_cons_succ, List.set_cons_zero]
  refine w_call hG 24 #[ShVal cs, .string u] (.bool q1) (by kernel_rfl) (fun w => x_call2 _ _ _ _ _ _ _ _ _ _ _ _ _ rfl rfl rfl (enters_of Tryz.func24 (by kernel_rfl) rfl) w) (fun w hw => hi1 w hw) ?_
  simp only [Act.put, List.setIfInBounds_toArray, List.set_cons_succ, List.set_cons_zero]
  refine w_value (ShVal ct) (by kernel_rfl) (fun w hw => x_loadSh _ _ _ _ _ _ _ bt 0 ct rfl w HL2.out (hqT w hw)) ?_
  simp only [Act.put, List.setIfInBounds_toArray, List.set_cons_succ, List.set_cons_zero]
  refine w_value (.string u) (by kernel_rfl) (fun w hw => x_move _ _ _ _ _ _ _ _ rfl w) ?_
  simp only [Act.put, List.setIfInBounds_toArray, List.set_cons_succ, List.set_cons_zero]
  refine w_call hG 24 #[ShVal ct, .string u] (.bool q2) (by kernel_rfl) (fun w => x_call2 _ _ _ _ _ _ _ _ _ _ _ _ _ rfl rfl rfl (enters_of Tryz.func24 (by kernel_rfl) rfl) w) (fun w hw => hi2 w hw) ?_
  simp only [Act.put, List.setIfInBounds_toArray, List.set_cons_succ, List.set_cons_zero]
  refine w_value (.bool (q1 != q2)) (by kernel_rfl) (fun w hw => x_neqBool _ _ _ _ _ _ _ _ q1 q2 rfl rfl w) ?_
  simp only [Act.put, List.setIfInBounds_toArray, List.set_cons_succ, List.set_cons_zero]
  refine w_value (.bool (q1 != q2)) (by kernel_rfl) (fun w hw => x_assign _ _ _ _ _ _ _ _ rfl w) ?_
  simp only [Act.put, List.setIfInBounds_toArray, List.set_cons_succ, List.set_cons_zero]
  refine w_nil ?_
  intro X hX
  have HX := hide (HCB.out X hX)
  clear hG hqS hqT hi1 hi2
  go_wp2
  go_ret
  exact ⟨rfl, HX.out⟩
theorem pair1_holds {W0 : World} {cs ct : List Value} {s t : SHP} {bx bt : Nat} (h : PairB W0 cs ct s t bx bt) : HoldsF 28 #[] #[PT bx, PT bt] (fun u => hB s.lang (strB u) && !hB t.lang (strB u)) W0 := by
  refine ⟨enters_of Tryz.func28 (by kernel_rfl) rfl, fun W hW u hu hl => ?_⟩
  have e : ((#[] : Array Value).push (.string (strB u)) ++ #[PT bx, PT bt]) = #[.string (strB u), PT bx, PT bt] := by simp
  rw [e]
  exact pair1_any (h.keep hW) (strB u) (by rw [strB_lenT]; omega)
theorem pair2_holds {W0 : World} {cs ct : List Value} {s t : SHP} {bx bt : Nat} (h : PairB W0 cs ct s t bx bt) : HoldsF 29 #[] #[PT bx, PT bt] (fun u => hB s.lang (strB u) && hB t.lang (strB u)) W0 := by
  refine ⟨enters_of Tryz.func29 (by kernel_rfl) rfl, fun W hW u hu hl => ?_⟩
  have e : ((#[] : Array Value).push (.string (strB u)) ++ #[PT bx, PT bt]) = #[.string (strB u), PT bx, PT bt] := by simp
  rw [e]
  exact pair2_any (h.keep hW) (strB u) (by rw [strB_lenT]; omega)
theorem pair3_holds {W0 : World} {cs ct : List Value} {s t : SHP} {bx bt : Nat} (h : PairB W0 cs ct s t bx bt) : HoldsF 30 #[] #[PT bx, PT bt] (fun u => hB s.lang (strB u) != hB t.lang (strB u)) W0 := by
  refine ⟨enters_of Tryz.func30 (by kernel_rfl) rfl, fun W hW u hu hl => ?_⟩
  have e : ((#[] : Array Value).push (.string (strB u)) ++ #[PT bx, PT bt]) = #[.string (strB u), PT bx, PT bt] := by simp
  rw [e]
  exact pair3_any (h.keep hW) (strB u) (by rw [strB_lenT]; omega)
end Go.Proofs.YtjcfnmjjkadaeaaGreatDoor
