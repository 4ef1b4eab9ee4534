/- Texts of this claim put together: ShF, ReP, TxA, TxB, TxC, TxD, TxE, OpenS. -/
import Derived.Test.YtjcfnmjjkadaeaaGreatDoorJoinShE
import Derived.Test.YtjcfnmjjkadaeaaGreatDoorJoinReO
import Derived.Test.YtjcfnmjjkadaeaaGreatDoorJoinMathDfa4
import Derived.Test.YtjcfnmjjkadaeaaGreatDoorJoinShD
/- The document's example, as the statements of layer 3 ask it first. -/
namespace Go.Proofs.YtjcfnmjjkadaeaaGreatDoor
set_option maxRecDepth 100000
set_option linter.unusedSimpArgs false
set_option linter.unusedVariables false
open Go.RowKit

end Go.Proofs.YtjcfnmjjkadaeaaGreatDoor
/- alike: two expressions are one by their parts just where their keys are one; the calls at nil. -/
namespace Go.Proofs.YtjcfnmjjkadaeaaGreatDoor
set_option maxRecDepth 100000
set_option linter.unusedSimpArgs false
set_option linter.unusedVariables false
open Go.RowKit

end Go.Proofs.YtjcfnmjjkadaeaaGreatDoor
/- Has and Cats: a text is one of an expression's, by its parts. -/
namespace Go.Proofs.YtjcfnmjjkadaeaaGreatDoor
set_option maxRecDepth 100000
set_option linter.unusedSimpArgs false
set_option linter.unusedVariables false
open Go.RowKit

/-- Whether a text is one of them. -/
noncomputable def hB (l : Lg) (t : ByteArray) : Bool := @decide (l (bytesN t)) (Classical.propDecidable _)
theorem hB_iff (l : Lg) (t : ByteArray) : hB l t = true ↔ l (bytesN t) := by unfold hB; exact @decide_eq_true_iff _ (Classical.propDecidable _)
theorem hB_true {l : Lg} {t : ByteArray} (h : l (bytesN t)) : hB l t = true := (hB_iff l t).2 h
theorem hB_false {l : Lg} {t : ByteArray} (h : ¬ l (bytesN t)) : hB l t = false := Bool.eq_false_iff.2 fun h' => h ((hB_iff l t).1 h')

/-- The row without its first. -/
theorem ResRow.tail {w : World} {g f c : Nat} {r : RE} {l : List RE} (h : ResRow w (.slice (some ⟨g, f, none⟩) (l.length + 1) c) (r :: l)) : ResRow w (.slice (some ⟨g, if c = 1 then f else f + 1, none⟩) l.length (c - 1)) l := by
  have hc : l.length + 1 ≤ c := h.cap _ _ _ rfl
  obtain ⟨bs, ⟨h0, a, cap, e, h1⟩, h2⟩ := h
  injection e with e1 e2 e3
  subst e1 e3
  refine ⟨fun i => bs (i + 1), ⟨⟨by have := h0.1; simp at this; omega, .of (by omega) (FL.none _) (fun _ _ _ h => h.elim)⟩, _, _, rfl, fun k hk => ?_⟩, fun i k hk => h2 (i + 1) k (by simpa using hk)⟩
  obtain ⟨b, off, e, h3, h4⟩ := h1 (k + 1) (by simp; omega)
  injection e with e; injection e with e5 e6
  subst e5 e6
  rw [if_neg (by omega)]
  exact ⟨g, f + 1, rfl, h3, by rw [← h4]; congr 2; omega⟩

end Go.Proofs.YtjcfnmjjkadaeaaGreatDoor
/- Has: a text is one of an expression's, by its parts. -/
namespace Go.Proofs.YtjcfnmjjkadaeaaGreatDoor
set_option maxRecDepth 100000
set_option linter.unusedSimpArgs false
set_option linter.unusedVariables false
open Go.RowKit

end Go.Proofs.YtjcfnmjjkadaeaaGreatDoor
/- In and cat: a text is one of a shape's, by the page. -/
namespace Go.Proofs.YtjcfnmjjkadaeaaGreatDoor
set_option maxRecDepth 100000
set_option linter.unusedSimpArgs false
set_option linter.unusedVariables false
open Go.RowKit

theorem ShC.len {w : World} {cs : List Value} {s : SHP} (h : ShC w cs s) : cs.length = 5 := by
  obtain ⟨v, rfl, -⟩ := h.open; rfl
theorem ShsRow.first {w : World} {v : Value} {s : SHP} {l : List SHP} (h : ShsRow w v (s :: l)) : ∃ g f c, v = .slice (some ⟨g, f, none⟩) (l.length + 1) c := by
  obtain ⟨-, a, c, rfl, q⟩ := h.at
  obtain ⟨b, off, kv, rfl, -⟩ := q 0 (by simp)
  exact ⟨b, off, c, rfl⟩

abbrev InAt (s : SHP) (t : ByteArray) : Prop := ∀ (cs : List Value) (w : World), ShC w cs s → Calls Tryz.prog 24 #[ShVal cs, .string t] w fun e w' => e = .returned (.bool (hB s.lang t)) ∧ Below w.heap.size w w'

end Go.Proofs.YtjcfnmjjkadaeaaGreatDoor
/- In: a text is one of a shape's, by the page. -/
namespace Go.Proofs.YtjcfnmjjkadaeaaGreatDoor
set_option maxRecDepth 100000
set_option linter.unusedSimpArgs false
set_option linter.unusedVariables false
open Go.RowKit

def inC (s : SHP) (a : Option Addr) (c : Nat) : Array Value := #[.int .i64 s.op, .int .u8 s.lo, .int .u8 s.hi, .string s.text, .slice a s.kids.length c]
structure OneS (w : World) (B : Nat) (s : SHP) (a : Option Addr) (c : Nat) (W : World) : Prop where
  below : Below B w W
  x : Blk W B (inC s a c) 24
theorem OneS.step {w : World} {B : Nat} {s : SHP} {a : Option Addr} {c : Nat} {W W' : World} (h : OneS w B s a c W) (hb : Below W.heap.size W W') : OneS w B s a c W' :=
  ⟨h.below.trans (hb.mono (by have := h.x.lt; omega)), h.x.below hb h.x.lt⟩

theorem sl7 {o : Int} {l u : Nat} {tx : ByteArray} {ks : List SHP} (h : (SHP.mk o l u tx ks).k = 7) (t : List Nat) : (SHP.mk o l u tx ks).lang t ↔ (∃ m, (ks.map SHP.lang)[0]? = some m ∧ m t) ∧ ¬ ∃ m, (ks.map SHP.lang)[1]? = some m ∧ m t := by
  rw [SHP.lang_mk, h]; exact Iff.rfl
end Go.Proofs.YtjcfnmjjkadaeaaGreatDoor
/- In: many, one without another one; the whole call. -/
namespace Go.Proofs.YtjcfnmjjkadaeaaGreatDoor
set_option maxRecDepth 100000
set_option linter.unusedSimpArgs false
set_option linter.unusedVariables false
open Go.RowKit

theorem hB7 {o : Int} {l u : Nat} {tx : ByteArray} {ks : List SHP} (h : (SHP.mk o l u tx ks).k = 7) (t : ByteArray) (p q : Lg) (h0 : (ks.map SHP.lang)[0]? = some p) (h1 : (∃ m, (ks.map SHP.lang)[1]? = some m ∧ m (bytesN t)) ↔ q (bytesN t)) :
    hB (SHP.mk o l u tx ks).lang t = (hB p t && !hB q t) := by
  have hl := sl7 h (bytesN t)
  rw [h0, h1] at hl
  cases h2 : hB p t with
  | false =>
    refine hB_false fun h => ?_
    obtain ⟨⟨m, e, h3⟩, -⟩ := hl.1 h
    injection e with e
    subst e
    rw [hB_true h3] at h2; cases h2
  | true =>
    cases h3 : hB q t with
    | false => exact hB_true (hl.2 ⟨⟨p, rfl, (hB_iff _ _).1 h2⟩, fun h => by rw [hB_true h] at h3; cases h3⟩)
    | true => exact hB_false fun h => (hl.1 h).2 ((hB_iff _ _).1 h3)
end Go.Proofs.YtjcfnmjjkadaeaaGreatDoor
/- Shapes that came in. -/
namespace Go.Proofs.YtjcfnmjjkadaeaaGreatDoor
set_option maxRecDepth 100000
open Go.ChangeShapes Go.WideShapes Go.ChangeAt Go.WideMaps Go.WideElems Go.RowKit

theorem open_shape {H : Type} {enc : TypeId × Value → H} {w : World} {r : Reach} {b0 base : Nat} {sp : Nat → Bool} {held : Bool} {v : Value} {d : DataW H} {p : List MemPlace}
    (hv : Value.okWide Tryz.prog w r b0 24 v) (h : DataW.Trod enc Tryz.prog w base sp held 24 v d p) : ∃ s cs, v = ShVal cs ∧ ShC w cs s := by
  obtain ⟨cs, rfl, -⟩ := okWide_struct Tryz.underlying24 hv
  obtain ⟨fuel, hf⟩ := h
  obtain ⟨s, hs⟩ := open_shapeF fuel _ _ hf
  exact ⟨s, cs.toList, by simp [ShVal], hs⟩
end Go.Proofs.YtjcfnmjjkadaeaaGreatDoor
