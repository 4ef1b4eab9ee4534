/- Texts of this claim put together: LawHead4, RdL. -/
import Derived.Test.YthhfpjehamhcbaaGreatDoorJoinRdI
import Derived.Test.YthhfpjehamhcbaaGreatDoorJoinTrJ
import Derived.Test.YthhfpjehamhcbaaGreatDoorJoinRdK
/- The document's example, as the statements of layer 4 ask it first. -/
namespace Go.Proofs.YthhfpjehamhcbaaGreatDoor
set_option maxRecDepth 100000
set_option linter.unusedSimpArgs false
set_option linter.unusedVariables false
open Go.RowKit Go.Shelf

set_option maxHeartbeats 1000000 in
theorem head4_any (w : World) (hT : TabAt w) :
    Calls Tryz.prog 10 #[] w fun e w' => e = .returned (.bool true) ∧ Below w.heap.size w w' := by
  have hr := read_any exS w (by decide) hT
  have HR := hide hr
  have HT := hide hT
  clear hr hT
  unfold exS at HR
  go_enter Tryz.func10, Tryz.ntmps10
  go_wp2_with fail
  refine HR.out.mono ?_
  intro e w1 hp
  rw [show (⟨#[40, 97, 124, 98, 41, 42, 99, 45, 97, 98, 99]⟩ : ByteArray) = exS from rfl] at hp
  unfold ReadPost at hp
  rw [exS_b, ex_read] at hp
  obtain ⟨b, rfl, hR, hb⟩ := hp.1 ex_err
  have HB := hide hb
  have HRe := hide hR
  clear hp hR hb HR
  have ho := textOf_any exR b w1 ex_wf HRe.out (by rw [ex_txt]; simp) (HT.out.agree (Agree.of_all (K := fun _ => True) HB.out) trivial)
  rw [exT_b] at ho
  have HO := hide ho
  clear ho
  unfold PT at HO ⊢
  go_wp2_with fail
  refine HO.out.mono ?_
  rintro e w2 ⟨rfl, hb2⟩
  have HB2 := hide (HB.out.trans (hb2.mono HB.out.size))
  clear hb2 HO HRe
  unfold exT
  go_wp2
  go_ret
  exact ⟨rfl, HB2.out⟩
end Go.Proofs.YthhfpjehamhcbaaGreatDoor
/- Read where it reads, where it does not; texts put together. -/
namespace Go.Proofs.YthhfpjehamhcbaaGreatDoor
set_option maxRecDepth 100000
set_option linter.unusedSimpArgs false
set_option linter.unusedVariables false
open Go.RowKit Go.Shelf

/-- What Read answers where it reads. -/
theorem read_ok (s : ByteArray) (l : List Nat) (r : RE) (st : St) (hs : bytesN s = l) (hl : s.size ≤ 65536) (hr : readQ l = (r, st) ∧ (rdEnd l).err = 0) (w : World) (hT : TabAt w) :
    Calls Tryz.prog 15 #[.string s] w fun e w' => ∃ b, e = .returned (.tuple #[PT b, .int .i64 (0 : Nat), .int .i64 (0 : Nat)]) ∧ ReAt w' b r ∧ Below w.heap.size w w' := by
  refine (read_any s w hl hT).mono ?_
  intro e w' hp
  unfold ReadPost at hp
  rw [hs, hr.1] at hp
  exact hp.1 hr.2
theorem read_bad (s : ByteArray) (l : List Nat) (er : Nat) (hs : bytesN s = l) (hl : s.size ≤ 65536) (hr : (rdEnd l).err = er) (h0 : er ≠ 0) (w : World) (hT : TabAt w) :
    Calls Tryz.prog 15 #[.string s] w fun e w' => ∃ wh : Nat, e = .returned (.tuple #[.pointer none, .int .i64 er, .int .i64 wh]) ∧ Below w.heap.size w w' := by
  refine (read_any s w hl hT).mono ?_
  intro e w' hp
  unfold ReadPost at hp
  rw [hs, hr] at hp
  exact ⟨_, hp.2 h0⟩
theorem byteW_lt : ∀ c < 256, ∀ x ∈ byteW c, x < 256 := by decide +kernel
theorem bytesN_strB {l : List Nat} (h : ∀ x ∈ l, x < 256) : bytesN (strB l) = l := by
  simp only [bytesN, strB, strOfNums, List.map_map, Function.comp_def, Int.toNat_natCast]
  have : l.map (fun x => (UInt8.ofNat x).toNat) = l.map id := List.map_congr_left fun x hx => by
    have := h x hx
    simp; omega
  simpa using this
theorem strB_size (l : List Nat) : (strB l).size = l.length := by simp [strB, strOfNums, ByteArray.size]
theorem strB_append (a b : List Nat) : strB (a ++ b) = strB a ++ strB b := by
  apply ByteArray.ext
  simp [strB, strOfNums]
end Go.Proofs.YthhfpjehamhcbaaGreatDoor
