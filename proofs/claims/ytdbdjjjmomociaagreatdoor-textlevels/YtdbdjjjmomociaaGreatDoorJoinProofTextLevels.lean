/- TextLevels answers true for all rows of numbers: letters with signs between them, and no parentheses, are read as what is put together by how close the signs hold, from the left on. Conditions: the table of math/bits holds what its initialiser lays (the card ties that to the program's text). -/
/- Texts of this claim put together: LawTextLevels, ProofTextLevels. -/
import Derived.Test.YtdbdjjjmomociaaGreatDoorJoinLvD
import Derived.Test.YtdbdjjjmomociaaGreatDoorJoinFlowR
import Derived.Test.YtdbdjjjmomociaaGreatDoorJoinMathSame
import Derived.Test.YtdbdjjjmomociaaGreatDoorJoinOpen
import Derived.Test.YtdbdjjjmomociaaGreatDoorCards
import Derived.Test.YtdbdjjjmomociaaGreatDoorTie
/- TextLevels: without parentheses what holds closer is put together first. -/
namespace Go.Proofs.YtdbdjjjmomociaaGreatDoor
set_option maxRecDepth 100000
set_option linter.unusedSimpArgs false
set_option linter.unusedVariables false
open Go.RowKit Go.Shelf

/-- A slice of ints that came in, with what they are. -/
def IntFn (w : World) (v : Value) (n : Nat) (z : Nat → Int) : Prop := n ≤ 9223372036854775807 ∧ ∃ a cap, v = .slice a n cap ∧ ∀ k, k < n → ∃ b off, a = some ⟨b, off, none⟩ ∧ b < w.heap.size ∧ w.cell? ⟨b, off + k, none⟩ = some (.int .i64 (z k))
theorem IntFn.keep {w w' : World} {v : Value} {n : Nat} {z : Nat → Int} (h : IntFn w v n z) (hb : Below w.heap.size w w') : IntFn w' v n z := by
  obtain ⟨h0, a, cap, rfl, h1⟩ := h
  refine ⟨h0, a, cap, rfl, fun k hk => ?_⟩
  obtain ⟨b, off, e, hlt, hc⟩ := h1 k hk
  exact ⟨b, off, e, Nat.lt_of_lt_of_le hlt hb.size, (World.cell?_of_block (w := w) (hb.block b hlt)).trans hc⟩
section
open Go.ChangeShapes Go.WideShapes Go.ChangeAt Go.WideMaps Go.WideElems
theorem cellsIL : Tryz.prog.cellsOf 3 = 1 := by kernel_rfl
theorem open_intfn {H : Type} {enc : TypeId × Value → H} {w : World} {r : Reach} {b0 base : Nat} {sp : Nat → Bool} {held : Bool} {v : Value} {d : DataW H} {p : List MemPlace}
    (hv : Value.okWide Tryz.prog w r b0 40 v) (h : DataW.Trod enc Tryz.prog w base sp held 40 v d p) : ∃ n z, IntFn w v n z := by
  obtain ⟨a, len, cap, rfl⟩ := okWide_slice Tryz.underlying40 hv
  obtain ⟨fuel, hf⟩ := h
  rcases open_ints Tryz.underlying40 Tryz.underlying3 cellsIL hf with ⟨hcs, _⟩ | ⟨x, l, c, zs, hcs, _, hl, hm, hz, _, hcell, hwz⟩
  · simp [Value.cells] at hcs
    obtain ⟨rfl, rfl, rfl⟩ := hcs
    exact ⟨0, fun _ => 0, by omega, none, 0, rfl, fun k hk => by omega⟩
  · simp [Value.cells] at hcs
    obtain ⟨rfl, rfl, rfl⟩ := hcs
    have hlen : len ≤ zs.length := by rw [hz]; split <;> omega
    unfold maxLen at hm
    refine ⟨len, fun k => zs.getD k 0, by omega, some x, cap, rfl, fun k hk => ?_⟩
    obtain ⟨b, off, rfl, hc⟩ := ints_at hcell (show 0 < zs.length by omega)
    have := hc k (by omega)
    refine ⟨b, off, rfl, World.block_lt_of_cell? _ _ this, ?_⟩
    rw [this]
end
theorem i64_and3L (n : Int) : bits .and .i64 n 3 = n % 4 := by
  have h3 : (BitVec.ofInt 64 3).toNat = 2 ^ 2 - 1 := by decide
  have key : (BitVec.ofInt 64 n &&& BitVec.ofInt 64 3).toNat = (n % ((2 ^ 64 : Nat) : Int)).toNat % 2 ^ 2 := by
    rw [BitVec.toNat_and, BitVec.toNat_ofInt, h3, Nat.and_two_pow_sub_one_eq_mod]
  show IntKind.i64.wrap ((BitVec.ofInt 64 n &&& BitVec.ofInt 64 3).toNat : Nat) = n % 4
  rw [key, IntKind.wrap_i64]
  omega
def opsL (n : Nat) (z : Nat → Int) : List Nat := (List.range n).map fun k => (z k % 4).toNat
theorem opsL_len (n : Nat) (z : Nat → Int) : (opsL n z).length = n := by simp [opsL]
theorem opsL_drop (n : Nat) (z : Nat → Int) (k : Nat) (h : k < n) : (opsL n z).drop k = (z k % 4).toNat :: (opsL n z).drop (k + 1) := by
  have hl : k < (opsL n z).length := by rw [opsL_len]; exact h
  rw [List.drop_eq_getElem_cons hl]
  congr 1
  simp [opsL]
theorem x_callV1 (ρ : Operand → Value) (d : Option Tmp) (f : FuncId) (c x : Operand) (t t1 : TypeId) (pos : String) (af : Array Edge) (g : Option (Nat × Bool)) (u : Value) (hc : ρ c = .func (.func f) #[] #[]) (hx : ρ x = u) (hf : ∀ args w, (callFunc f args).run Tryz.prog w = .ok (.enter f args) w) (w : World) :
    (execOp ρ { dst := d, op := .call { callee := .value c, args := #[x], argTypes := #[t1] }, type := t, pos := pos, after := af, guard := g }).run Tryz.prog w = .ok (.enter f #[u]) w := by
  simp [go_sem, hc, hx, hf]
def sgC : Array Value := #[.string ⟨#[124]⟩, .string ⟨#[45]⟩, .string ⟨#[38]⟩, .string ⟨#[]⟩]
theorem sgC_at : ∀ o, o < 4 → sgC[o]? = some (.string (strB (lvS o))) := by
  intro o ho
  match o, ho with
  | 0, _ => rfl
  | 1, _ => rfl
  | 2, _ => rfl
  | 3, _ => rfl
theorem x_build4L (a0 : Act) (d : Option Tmp) (t : TypeId) (pos : String) (af : Array Edge) (g : Option (Nat × Bool)) (w : World) :
    (execOp (Act.eval a0) { dst := d, op := .buildSlice 51 4 #[(0, .const (.string ⟨#[124]⟩)), (1, .const (.string ⟨#[45]⟩)), (2, .const (.string ⟨#[38]⟩)), (3, .const (.string ⟨#[]⟩))], type := t, pos := pos, after := af, guard := g }).run Tryz.prog w = .ok (.value (.slice (some ⟨w.heap.size, 0, none⟩) 4 4)) (w.alloc (.cells sgC 9)) := by
  unfold sgC
  simp [go_sem]
theorem x_idxL (ρ : Operand → Value) (d : Option Tmp) (x y : Operand) (t : TypeId) (pos : String) (af : Array Edge) (g : Option (Nat × Bool)) (b : Nat) (o : Nat) (hx : ρ x = .slice (some ⟨b, 0, none⟩) 4 4) (hy : ρ y = .int .i64 (o : Int)) (ho : o < 4) (w : World) :
    (execOp ρ { dst := d, op := .indexAddr 51 x y, type := t, pos := pos, after := af, guard := g }).run Tryz.prog w = .ok (.value (.pointer (some ⟨b, o, none⟩))) w := by
  simp [go_sem, hx, hy, ho]
  intro h; omega
theorem x_loadL (ρ : Operand → Value) (d : Option Tmp) (x : Operand) (t : TypeId) (pos : String) (af : Array Edge) (g : Option (Nat × Bool)) (b o : Nat) (ho : o < 4) (hx : ρ x = .pointer (some ⟨b, o, none⟩)) (w : World) (hB : Blk w b sgC 9) :
    (execOp ρ { dst := d, op := .load 9 x, type := t, pos := pos, after := af, guard := g }).run Tryz.prog w = .ok (.value (.string (strB (lvS o)))) w := by
  have hc : w.cell? ⟨b, o, none⟩ = some (.string (strB (lvS o))) := (hB.cell o).trans (sgC_at o ho)
  simp [go_sem, hx, hc]
theorem x_incL (ρ : Operand → Value) (d : Option Tmp) (x : Operand) (t : TypeId) (pos : String) (af : Array Edge) (g : Option (Nat × Bool)) (k : Nat) (hx : ρ x = .int .i64 (k : Int)) (hy : ρ (.const (.int .i64 1)) = .int .i64 1) (hk : k ≤ 1000) (w : World) :
    (execOp ρ { dst := d, op := .binOp .add 3 x (.const (.int .i64 1)) 3, type := t, pos := pos, after := af, guard := g }).run Tryz.prog w = .ok (.value (.int .i64 ((k : Int) + 1))) w := by
  have e : wrap64 ((k : Int) + 1) = (k : Int) + 1 := by unfold wrap64; omega
  have e' : IntKind.i64.wrap ((k : Int) + 1) = (k : Int) + 1 := by rw [IntKind.wrap_i64]; omega
  simp [go_sem, hx, hy, e, e']
theorem x_cvL (ρ : Operand → Value) (d : Option Tmp) (x : Operand) (t : TypeId) (pos : String) (af : Array Edge) (g : Option (Nat × Bool)) (k : Nat) (hx : ρ x = .int .i64 ((k : Int) + 1)) (hk : k ≤ 100) (w : World) :
    (execOp ρ { dst := d, op := .convert 3 5 x, type := t, pos := pos, after := af, guard := g }).run Tryz.prog w = .ok (.value (.int .u8 ((k : Int) + 1))) w := by
  have e : IntKind.u8.wrap ((k : Int) + 1) = (k : Int) + 1 := by simp [IntKind.wrap, IntKind.signed, IntKind.bits]; omega
  simp [go_sem, hx, e]
theorem x_97L (ρ : Operand → Value) (d : Option Tmp) (x : Operand) (t : TypeId) (pos : String) (af : Array Edge) (g : Option (Nat × Bool)) (k dd : Nat) (hx : ρ x = .int .u8 ((k : Int) + 1)) (hy : ρ (.const (.int .u8 97)) = .int .u8 97) (hd : dd = 97 + (k + 1)) (hk : k ≤ 100) (w : World) :
    (execOp ρ { dst := d, op := .binOp .add 5 (.const (.int .u8 97)) x 5, type := t, pos := pos, after := af, guard := g }).run Tryz.prog w = .ok (.value (.int .u8 (dd : Int))) w := by
  have e : IntKind.u8.wrap (97 + ((k : Int) + 1)) = (dd : Int) := by simp [IntKind.wrap, IntKind.signed, IntKind.bits]; omega
  simp [go_sem, hx, hy, e]
theorem x_byteL (ρ : Operand → Value) (d : Option Tmp) (x : Operand) (t : TypeId) (pos : String) (af : Array Edge) (g : Option (Nat × Bool)) (c : Int) (w : World) (hx : ρ x = .int .u8 c) :
    (execOp ρ { dst := d, op := .buildSlice 52 1 #[(0, x)], type := t, pos := pos, after := af, guard := g }).run Tryz.prog w = .ok (.value (.slice (some ⟨w.heap.size, 0, none⟩) 1 1)) (w.alloc (.cells #[.int .u8 c] 5)) := by
  simp [go_sem, hx]
theorem x_strL (ρ : Operand → Value) (d : Option Tmp) (x : Operand) (t : TypeId) (pos : String) (af : Array Edge) (g : Option (Nat × Bool)) (b n : Nat) (hx : ρ x = .slice (some ⟨b, 0, none⟩) 1 1) (w : World) (hB : Blk w b #[.int .u8 (n : Int)] 5) :
    (execOp ρ { dst := d, op := .convert 52 9 x, type := t, pos := pos, after := af, guard := g }).run Tryz.prog w = .ok (.value (.string (strB [n]))) w := by
  have h : (convert 52 9 (.slice (some ⟨b, 0, none⟩) 1 1)).run Tryz.prog w = .ok (.string (strOfNums [(n : Int)])) w := by
    refine run_convert_bytes_arg _ 52 5 Tryz.underlying52 Tryz.underlying5 _ 0 1 1 [(n : Int)] rfl ?_ 9 Tryz.underlying9
    intro i hi
    rw [hB.cell]
    match i, hi with
    | 0, _ => rfl
  simp [go_sem, hx, h]
  rfl
theorem x_addL (ρ : Operand → Value) (d : Option Tmp) (x y : Operand) (t : TypeId) (pos : String) (af : Array Edge) (g : Option (Nat × Bool)) (u v : ByteArray) (hx : ρ x = .string u) (hy : ρ y = .string v) (hs : u.size + v.size ≤ 1000000) (w : World) :
    (execOp ρ { dst := d, op := .binOp .add 9 x y 9, type := t, pos := pos, after := af, guard := g }).run Tryz.prog w = .ok (.value (.string (u ++ v))) w := by
  simp [go_sem, hx, hy]
  omega
set_option maxHeartbeats 4000000 in
theorem textLevels_any (v : Value) (n : Nat) (z : Nat → Int) (w : World) (hv : IntFn w v n z) (hT : TabAt w) :
    Calls Tryz.prog 5 #[v] w fun e w' => e = .returned (.bool true) ∧ Below w.heap.size w w' := by
  have HV := hide hv
  have HT := hide hT
  obtain ⟨hn, a, cap, rfl, -⟩ := hv
  clear hT
  go_enter Tryz.func5, Tryz.ntmps5
  go_wp2_with fail
  refine (head4_any w HT.out).mono ?_
  rintro e w1 ⟨rfl, hb1⟩
  have HB1 := hide hb1
  have HT1 := hide (HT.out.pastL hb1)
  have HV1 := hide (HV.out.keep hb1)
  clear hb1 HV HT
  by_cases h12 : 12 < n
  · have hd : decide ((12 : Int) < n) = true := decide_eq_true (by omega)
    go_wp2
    go_ret
    exact ⟨rfl, HB1.out⟩
  have hd : decide ((12 : Int) < n) = false := decide_eq_false (by omega)
  have HLT := hide (lvLetter_any 0 (by omega) w1)
  go_wp2_with fail
  refine HLT.out.mono ?_
  rintro e w2 ⟨c0, rfl, hc0, hb2⟩
  obtain ⟨hI, hbI⟩ := lv_init hb2 hc0
  obtain ⟨w3, hw3⟩ : ∃ X, X = wI w2 c0 := ⟨_, rfl⟩
  rw [← hw3] at hI hbI
  have ew := hw3.symm
  unfold wI at ew
  obtain ⟨b, hb⟩ : ∃ b, b = bI w2.heap.size := ⟨_, rfl⟩
  have e3 : w2.heap.size + 1 + 1 + 1 + 1 + 1 + 1 + 1 = b 3 := by rw [hb]; rfl
  have e2 : w2.heap.size + 1 + 1 + 1 + 1 + 1 = b 2 := by rw [hb]; rfl
  have e0 : w2.heap.size + 1 + 1 + 1 = b 0 := by rw [hb]; rfl
  have e1 : w2.heap.size + 1 = b 1 := by rw [hb]; rfl
  have HE3 := hide e3
  have HE2 := hide e2
  have HE0 := hide e0
  have HE1 := hide e1
  rw [← hb] at hI
  have HI := hide hI
  clear hI hbI hw3 hc0 hb2 HLT hb e0 e1 e2 e3
  unfold PT
  go_wp2
  rw [HE3.out, HE2.out, HE0.out, HE1.out]
  clear ew HE3 HE2 HE0 HE1
  obtain ⟨os, hos⟩ : ∃ os, os = opsL n z := ⟨_, rfl⟩
  obtain ⟨R, hR⟩ : ∃ R, R = lvF 1 os [] [] [] [lvL 0] := ⟨_, rfl⟩
  have HOS := hide hos
  have HR := hide hR
  have HLEN : Hid (os.length = n) := by rw [hos]; exact opsL_len n z
  have HRD : Hid ((∃ st, readQ (97 :: lvT 1 os) = (R, st)) ∧ (rdEnd (97 :: lvT 1 os)).err = 0) := by rw [hR]; exact lv_read os (by rw [HLEN.out]; omega)
  clear hos hR
  go_loopw [4, 29] (fun s c wr => ∃ (k : Nat) (T : List Nat) (vv : Nat → Value) (L : Nat → List RE), k ≤ n ∧ c = .int .i64 k ∧ s = .string (strB T) ∧ T.length ≤ 2 * k + 1 ∧ Hid (∀ x ∈ T, x < 256) ∧ Hid (T ++ lvT (k + 1) (os.drop k) = 97 :: lvT 1 os) ∧ Hid (LvS w1 b vv L wr) ∧ Hid (lvF (k + 1) (os.drop k) (L 3) (L 2) (L 0) (L 1) = R) ∧ Hid (phi L ≤ 1 + 6 * k)) (fun _ c _ => n - (intOf c).toNat)
  case atStart =>
    refine ⟨0, [97], vI w2.heap.size, LI, by omega, rfl, rfl, by decide, ?_, rfl, HI, ?_, ?_⟩
    · show ∀ x ∈ [97], x < 256; decide
    · show lvF 1 os [] [] [] [lvL 0] = R; exact HR.out.symm
    · show cntL [] + cntL [lvL 0] + cntL [] + cntL [] + 2 * 0 ≤ 1
      rw [cntL_one, lvL_cnt]; decide
  case round =>
    obtain ⟨k, T, vv, L, hk, rfl, rfl, hTl, HTX, HTT, HL, HF, HP⟩ := hrel
    obtain ⟨sT, hsT⟩ : ∃ sT, sT = strB T := ⟨_, rfl⟩
    have hsz : sT.size ≤ 26 := by rw [hsT, strB_size]; omega
    have HST := hide hsT
    rw [← hsT]
    clear hsT
    by_cases hlt : k < n
    · have hkd : decide ((k : Int) < n) = true := decide_eq_true (by omega)
      obtain ⟨-, a', cap', e1, g1⟩ := HV1.out.keep HL.out.below
      obtain ⟨rfl, rfl⟩ : a = a' ∧ cap = cap' := by cases e1; exact ⟨rfl, rfl⟩
      obtain ⟨vb, voff, rfl, -, hcz⟩ := g1 k hlt
      clear g1 e1
      obtain ⟨o, ho, hoz⟩ : ∃ o : Nat, o < 4 ∧ bits .and .i64 (z k) 3 = (o : Int) := ⟨(z k % 4).toNat, by omega, by rw [i64_and3L]; omega⟩
      have HOD : Hid (os.drop k = o :: os.drop (k + 1)) := by
        show _ = _
        have : o = (z k % 4).toNat := by rw [i64_and3L] at hoz; omega
        rw [HOS.out, this]; exact opsL_drop n z k hlt
      have HO4 := hide ho
      have hphi := HP.out
      have HCL := hide (close_any o ho w1 b vv L wr HL.out HT1.out (by unfold phi at hphi; omega))
      clear hphi
      unfold PT at HCL
      go_wp2_with fail
      refine HCL.out.mono ?_
      rintro e w4 ⟨v4, rfl, hL4⟩
      obtain ⟨L4, hLL4⟩ : ∃ X, X = clsL o L := ⟨_, rfl⟩
      rw [← hLL4] at hL4
      have HL4 := hide hL4
      have HLL4 := hide hLL4
      clear hL4 hLL4 HCL
      obtain ⟨d, hdd⟩ : ∃ d : Nat, d = 97 + (k + 1) := ⟨_, rfl⟩
      have HD := hide hdd
      have HLS : Hid ((strB (lvS o)).size ≤ 1) := by
        show _ ≤ _
        rw [strB_size]
        unfold lvS
        repeat' split
        all_goals simp
      clear hdd
      go_wp2_with fail
      refine flowB [.val (.string sT), .blk sgC 9, .val (.int .i64 (o : Int)), .ptr sgC 9 o, .val (.string (strB (lvS o))), .val (.string (sT ++ strB (lvS o))), .val (.int .i64 (k : Int)), .val (.int .i64 ((k : Int) + 1)), .val (.int .u8 ((k : Int) + 1)), .val (.int .u8 (d : Int)), .blk #[.int .u8 (d : Int)] 5, .val (.string (strB [d])), .val (.string (sT ++ strB (lvS o) ++ strB [d])), .val (.string (sT ++ strB (lvS o) ++ strB [d]))] (by kernel_rfl) (by kernel_rfl) (by kernel_rfl) (by kernel_rfl) ?_ ?_
      · refine ⟨?_, ?_, ?_, ?_, ?_, ?_, ?_, ?_, ?_, ?_, ?_, ?_, ?_, ?_, trivial⟩
        · intro a w hb hk hd
          have e4 : a.eval (.tmp 4) = .string sT := ev ((hk 4 (by kernel_rfl)).trans rfl)
          refine ⟨rfl, fun kk hK => ?_⟩
          exact wp_val (x_move _ _ _ _ _ _ _ _ e4 w) (hK _ _ rfl (Below.refl _ _))
        · intro a w hb hk hd
          refine ⟨rfl, fun kk hK => ?_⟩
          exact wp_val (x_build4L _ _ _ _ _ _ w) (hK _ _ ⟨w.heap.size, rfl, Blk.new w _ _⟩ ((Below.refl _ _).alloc (Nat.le_refl _) _))
        · intro a w hb hk hd
          have e11 : a.eval (.tmp 11) = .int .i64 (o : Int) := ev ((hk 11 (by kernel_rfl)).trans rfl)
          refine ⟨rfl, fun kk hK => ?_⟩
          exact wp_val (x_move _ _ _ _ _ _ _ _ e11 w) (hK _ _ rfl (Below.refl _ _))
        · intro a w hb hk hd
          obtain ⟨u40, s40, d40⟩ := hd 1 (by kernel_rfl)
          obtain ⟨b40, q40, r40⟩ : ∃ b, u40 = .slice (some ⟨b, 0, none⟩) (sgC).size (sgC).size ∧ Blk w b sgC 9 := s40
          subst q40
          have e40 := ev (d40 _ _ rfl rfl)
          obtain ⟨u41, s41, d41⟩ := hd 2 (by kernel_rfl)
          have s41 : u41 = .int .i64 (o : Int) := s41
          subst s41
          have e41 := ev (d41 _ _ rfl rfl)
          refine ⟨rfl, fun kk hK => ?_⟩
          exact wp_val (x_idxL _ _ _ _ _ _ _ _ _ o e40 e41 HO4.out w) (hK _ _ ⟨b40, rfl, r40⟩ (Below.refl _ _))
        · intro a w hb hk hd
          obtain ⟨u42, s42, d42⟩ := hd 3 (by kernel_rfl)
          obtain ⟨b42, q42, r42⟩ : ∃ b, u42 = .pointer (some ⟨b, o, none⟩) ∧ Blk w b sgC 9 := s42
          subst q42
          have e42 := ev (d42 _ _ rfl rfl)
          refine ⟨rfl, fun kk hK => ?_⟩
          exact wp_val (x_loadL _ _ _ _ _ _ _ b42 o HO4.out e42 w r42) (hK _ _ rfl (Below.refl _ _))
        · intro a w hb hk hd
          obtain ⟨u39, s39, d39⟩ := hd 0 (by kernel_rfl)
          have s39 : u39 = .string sT := s39
          subst s39
          have e39 := ev (d39 _ _ rfl rfl)
          obtain ⟨u43, s43, d43⟩ := hd 4 (by kernel_rfl)
          have s43 : u43 = .string (strB (lvS o)) := s43
          subst s43
          have e43 := ev (d43 _ _ rfl rfl)
          refine ⟨rfl, fun kk hK => ?_⟩
          exact wp_val (x_addL _ _ _ _ _ _ _ _ _ _ e39 e43 (by have := HLS.out; omega) w) (hK _ _ rfl (Below.refl _ _))
        · intro a w hb hk hd
          have e10 : a.eval (.tmp 10) = .int .i64 (k : Int) := ev ((hk 10 (by kernel_rfl)).trans rfl)
          refine ⟨rfl, fun kk hK => ?_⟩
          exact wp_val (x_move _ _ _ _ _ _ _ _ e10 w) (hK _ _ rfl (Below.refl _ _))
        · intro a w hb hk hd
          obtain ⟨u45, s45, d45⟩ := hd 6 (by kernel_rfl)
          have s45 : u45 = .int .i64 (k : Int) := s45
          subst s45
          have e45 := ev (d45 _ _ rfl rfl)
          refine ⟨rfl, fun kk hK => ?_⟩
          exact wp_val (x_incL _ _ _ _ _ _ _ k e45 rfl (by omega) w) (hK _ _ rfl (Below.refl _ _))
        · intro a w hb hk hd
          obtain ⟨u46, s46, d46⟩ := hd 7 (by kernel_rfl)
          have s46 : u46 = .int .i64 ((k : Int) + 1) := s46
          subst s46
          have e46 := ev (d46 _ _ rfl rfl)
          refine ⟨rfl, fun kk hK => ?_⟩
          exact wp_val (x_cvL _ _ _ _ _ _ _ k e46 (by omega) w) (hK _ _ rfl (Below.refl _ _))
        · intro a w hb hk hd
          obtain ⟨u47, s47, d47⟩ := hd 8 (by kernel_rfl)
          have s47 : u47 = .int .u8 ((k : Int) + 1) := s47
          subst s47
          have e47 := ev (d47 _ _ rfl rfl)
          refine ⟨rfl, fun kk hK => ?_⟩
          exact wp_val (x_97L _ _ _ _ _ _ _ k d e47 rfl HD.out (by omega) w) (hK _ _ rfl (Below.refl _ _))
        · intro a w hb hk hd
          obtain ⟨u48, s48, d48⟩ := hd 9 (by kernel_rfl)
          have s48 : u48 = .int .u8 (d : Int) := s48
          subst s48
          have e48 := ev (d48 _ _ rfl rfl)
          refine ⟨rfl, fun kk hK => ?_⟩
          exact wp_val (x_byteL _ _ _ _ _ _ _ _ w e48) (hK _ _ ⟨w.heap.size, rfl, Blk.new w _ _⟩ ((Below.refl _ _).alloc (Nat.le_refl _) _))
        · intro a w hb hk hd
          obtain ⟨u49, s49, d49⟩ := hd 10 (by kernel_rfl)
          obtain ⟨b49, q49, r49⟩ : ∃ b, u49 = .slice (some ⟨b, 0, none⟩) (#[.int .u8 (d : Int)]).size (#[.int .u8 (d : Int)]).size ∧ Blk w b #[.int .u8 (d : Int)] 5 := s49
          subst q49
          have e49 := ev (d49 _ _ rfl rfl)
          refine ⟨rfl, fun kk hK => ?_⟩
          exact wp_val (x_strL _ _ _ _ _ _ _ _ d e49 w r49) (hK _ _ rfl (Below.refl _ _))
        · intro a w hb hk hd
          obtain ⟨u44, s44, d44⟩ := hd 5 (by kernel_rfl)
          have s44 : u44 = .string (sT ++ strB (lvS o)) := s44
          subst s44
          have e44 := ev (d44 _ _ rfl rfl)
          obtain ⟨u50, s50, d50⟩ := hd 11 (by kernel_rfl)
          have s50 : u50 = .string (strB [d]) := s50
          subst s50
          have e50 := ev (d50 _ _ rfl rfl)
          refine ⟨rfl, fun kk hK => ?_⟩
          exact wp_val (x_addL _ _ _ _ _ _ _ _ _ _ e44 e50 (by have := HLS.out; rw [ByteArray.size_append, strB_size [d], List.length_singleton]; omega) w) (hK _ _ rfl (Below.refl _ _))
        · intro a w hb hk hd
          obtain ⟨u51, s51, d51⟩ := hd 12 (by kernel_rfl)
          have s51 : u51 = .string (sT ++ strB (lvS o) ++ strB [d]) := s51
          subst s51
          have e51 := ev (d51 _ _ rfl rfl)
          refine ⟨rfl, fun kk hK => ?_⟩
          exact wp_val (x_assign _ _ _ _ _ _ _ _ e51 w) (hK _ _ rfl (Below.refl _ _))
      · intro vs wz hlz hbz hRz
        match vs, hlz with
        | [z0, z1, z2, z3, z4, z5, z6, z7, z8, z9, z10, z11, z12, z13], _ =>
          obtain rfl : z0 = .string sT := hRz 0 _ rfl
          obtain rfl : z2 = .int .i64 (o : Int) := hRz 2 _ rfl
          obtain rfl : z4 = .string (strB (lvS o)) := hRz 4 _ rfl
          obtain rfl : z5 = .string (sT ++ strB (lvS o)) := hRz 5 _ rfl
          obtain rfl : z6 = .int .i64 (k : Int) := hRz 6 _ rfl
          obtain rfl : z7 = .int .i64 ((k : Int) + 1) := hRz 7 _ rfl
          obtain rfl : z8 = .int .u8 ((k : Int) + 1) := hRz 8 _ rfl
          obtain rfl : z9 = .int .u8 (d : Int) := hRz 9 _ rfl
          obtain rfl : z11 = .string (strB [d]) := hRz 11 _ rfl
          obtain rfl : z12 = .string (sT ++ strB (lvS o) ++ strB [d]) := hRz 12 _ rfl
          obtain rfl : z13 = .string (sT ++ strB (lvS o) ++ strB [d]) := hRz 13 _ rfl
          simp only [lay, List.map_cons, List.map_nil, Act.put, List.setIfInBounds_toArray, List.set_cons_succ, List.set_cons_zero]
          have HL5 := hide (HL4.out.step hbz)
          clear HL4
          go_wp2_with fail
          have hD := HL5.out.step (W' := { wz with drawn := wz.drawn + 1 }) ⟨rfl, rfl, rfl, Nat.le_refl _, fun _ _ => rfl⟩
          have hl1 : (L4 1).length ≤ 1000 := by
            have h1 := phi_cls o L
            have h2 := HP.out
            have h3 := cntL_len (L4 1)
            rw [← HLL4.out] at h1
            unfold phi cntT at h1 h2
            omega
          refine wp_region_noPanic (wp_region_held (S := fun _ => True) (by kernel_rfl) ?_)
          show wpAnyH _ _ _ _ _ 8 #[false, false, false, false, false, false, false, false] _ _
          generalize ({ wz with drawn := wz.drawn + 1 } : World) = V at hD ⊢
          refine h_take 1 (.func (.func 17) #[] #[]) rfl (by kernel_rfl) (by kernel_rfl) (by kernel_rfl) rfl (fun w hw => x_move _ _ _ _ _ _ _ _ rfl w) trivial ?_
          simp only [Act.put, List.setIfInBounds_toArray, List.set_cons_succ, List.set_cons_zero]
          refine h_take 2 (.int .i64 (k : Int)) rfl (by kernel_rfl) (by kernel_rfl) (by kernel_rfl) rfl (fun w hw => x_move _ _ _ _ _ _ _ _ rfl w) trivial ?_
          simp only [Act.put, List.setIfInBounds_toArray, List.set_cons_succ, List.set_cons_zero]
          refine h_take 3 (.int .i64 ((k : Int) + 1)) rfl (by kernel_rfl) (by kernel_rfl) (by kernel_rfl) rfl (fun w hw => x_incL _ _ _ _ _ _ _ k rfl rfl (by omega) w) trivial ?_
          simp only [Act.put, List.setIfInBounds_toArray, List.set_cons_succ, List.set_cons_zero]
          refine h_lca 0 4 5 (v4 1) 17 #[.int .i64 ((k : Int) + 1)] (fun V' => LvS w1 b v4 L4 V') (fun u V' => (∃ c, u = PT c ∧ ReAt V' c (lvL (k + 1))) ∧ LvS w1 b v4 L4 V') (fun V' => .slice (some ⟨V'.heap.size, 0, none⟩) 1 1) (fun u V' => V'.alloc (.cells #[u] 23)) rfl rfl rfl (by kernel_rfl) (by kernel_rfl) (by kernel_rfl) (by kernel_rfl) (by kernel_rfl) (by kernel_rfl) (fun _ => rfl) (fun _ => rfl) (fun _ => rfl)
            (fun w hw => x_loadV _ _ _ _ _ _ _ (b 1) _ rfl w (hw.cell 1 (by decide))) (fun u w hw => x_loadV _ _ _ _ _ _ _ (b 1) _ rfl w (hw.cell 1 (by decide))) (fun u x w hw => x_loadV _ _ _ _ _ _ _ (b 1) _ rfl w (hw.cell 1 (by decide)))
            (fun w => x_callV1 _ _ _ _ _ _ _ _ _ _ _ rfl rfl (enters_of Tryz.func17 (by kernel_rfl) rfl) w) (fun w => x_callV1 _ _ _ _ _ _ _ _ _ _ _ rfl rfl (enters_of Tryz.func17 (by kernel_rfl) rfl) w)
            (fun u w ⟨⟨c, e, _⟩, _⟩ => by subst e; exact x_build1R _ _ _ _ _ _ _ c rfl w) (fun u w ⟨⟨c, e, _⟩, _⟩ => by subst e; exact x_build1R _ _ _ _ _ _ _ c rfl w) (fun u w ⟨⟨c, e, _⟩, _⟩ => by subst e; exact x_build1R _ _ _ _ _ _ _ c rfl w)
            ((lvLetter_any (k + 1) (by omega) V).mono fun e V' ⟨c, h1, h2, h3⟩ => ⟨_, h1, ⟨c, rfl, h2⟩, hD.step h3⟩) (fun u V' hh => hh.2) (fun u V' hh => hh.2.step ((Below.refl _ _).alloc (Nat.le_refl _) _)) (fun V' hh => trivial) hD (fun u x => rfl) (fun u x => rfl) rfl rfl ?_
          rintro u V1 ⟨⟨c, rfl, hrc⟩, hL1⟩
          simp only [Act.put, List.setIfInBounds_toArray, List.set_cons_succ, List.set_cons_zero]
          have hb2 := (Below.refl V1.heap.size V1).alloc (Nat.le_refl _) (.cells #[PT c] 23)
          obtain ⟨vn, V3, hr3, hL3, ⟨sa, sn, sk, rfl⟩, hB3⟩ := (hL1.step hb2).push 1 (by decide) 47 V1.heap.size c (lvL (k + 1)) (Blk.newAt rfl _ _) (hrc.keep hb2) (wf_one _) hl1
          refine h_oper 6 rfl (by kernel_rfl) rfl (wp_append_run _ _ _ rfl _ _ _ rfl rfl hr3 ⟨trivial, ?_⟩)
          simp only [Act.put, List.setIfInBounds_toArray, List.set_cons_succ, List.set_cons_zero]
          refine h_step 7 _ rfl (by kernel_rfl) rfl (x_storeV _ _ _ _ _ _ _ _ (b 1) _ _ _ _ rfl rfl V3 (hB3 1 (by decide))) trivial ?_
          simp only [Act.put, List.setIfInBounds_toArray, List.set_cons_succ, List.set_cons_zero]
          refine wpAnyH_done (by kernel_rfl) ?_ _
          refine NoPanic.normal ?_
          have HL6 := hide hL3
          clear hD hrc hL1 hb2 hr3 hB3 hL3 hl1 HL5
          generalize V3.setCell ⟨b 1, 0, none⟩ (.slice sa sn sk) = V4 at HL6 ⊢
          go_wp2
          refine ⟨⟨k + 1, T ++ lvS o ++ [d], _, pushC L4 (lvL (k + 1)), by omega, by go_num, ?_, ?_, ?_, ?_, HL6, ?_, ?_⟩, by simp [intOf]; omega⟩
          · rw [HST.out, strB_append, strB_append]
          · rw [List.length_append, List.length_append, List.length_singleton]
            have : (lvS o).length ≤ 1 := by have := HLS.out; rwa [strB_size] at this
            omega
          · show ∀ x ∈ T ++ lvS o ++ [d], x < 256
            intro x hx
            rcases List.mem_append.1 hx with hx | hx
            · rcases List.mem_append.1 hx with hx | hx
              · exact HTX.out x hx
              · unfold lvS at hx
                repeat' split at hx
                all_goals simp at hx
                all_goals omega
            · rw [List.mem_singleton] at hx
              have := HD.out
              omega
          · show T ++ lvS o ++ [d] ++ lvT (k + 1 + 1) (os.drop (k + 1)) = 97 :: lvT 1 os
            rw [← HTT.out, HOD.out, HD.out]
            show _ = T ++ (lvS o ++ (97 + (k + 1)) :: lvT (k + 1 + 1) (os.drop (k + 1)))
            simp
          · show lvF (k + 1 + 1) (os.drop (k + 1)) _ _ _ _ = R
            rw [← HF.out, HOD.out, lvF_step (k + 1) o _ HO4.out L, HLL4.out]
          · show phi _ ≤ _
            have h1 := phi_cls o L
            have h2 := HP.out
            have h3 := phi_push L4 (k + 1)
            rw [← HLL4.out] at h1
            omega
    · obtain rfl : k = n := by omega
      have hkd : decide ((k : Int) < (k : Int)) = false := decide_eq_false (by omega)
      have hdr : os.drop k = [] := List.drop_eq_nil_of_le (by rw [HLEN.out]; omega)
      have HTE : Hid (T = 97 :: lvT 1 os) := by
        have := HTT.out
        rw [hdr] at this
        show T = _
        rw [← this]
        show T = T ++ []
        simp
      have HFE : Hid (rAny (clsL 0 L 3) = R) := by
        have := HF.out
        rw [hdr] at this
        exact this
      clear hdr
      have hphi := HP.out
      have HCL := hide (close_any 0 (by decide) w1 b vv L wr HL.out HT1.out (by unfold phi at hphi; omega))
      clear hphi
      unfold PT at HCL
      go_wp2_with fail
      refine HCL.out.mono ?_
      rintro e w4 ⟨v4, rfl, hL4⟩
      have HL4 := hide hL4
      clear hL4 HCL
      obtain ⟨st, hrq⟩ := HRD.out.1
      have HRO := hide (read_ok sT (97 :: lvT 1 os) R st (by rw [HST.out, bytesN_strB HTX.out]; exact HTE.out) (by omega) ⟨hrq, HRD.out.2⟩ w4 (HT1.out.pastL HL4.out.below))
      clear hrq
      go_wp2_with fail
      refine HRO.out.mono ?_
      rintro e w5 ⟨rb, rfl, hr, hb5⟩
      have HRR := hide hr
      have HL5 := hide (HL4.out.step hb5)
      clear hr hb5 HRO HL4
      have hl3 : cntL (clsL 0 L 3) ≤ 900 := by
        have h1 := phi_cls 0 L
        have h2 := HP.out
        unfold phi cntT at h1
        unfold phi at h2
        unfold phi cntT at *
        omega
      have hlen3 : (clsL 0 L 3).length ≤ 1000 := by have := cntL_len (clsL 0 L 3); omega
      obtain ⟨q1, q2, q3, q4⟩ := ls_bounds (l := clsL 0 L 3) (by omega)
      have hwf := HL5.out.wf 3 (by decide)
      have hany := any_re (clsL 0 L 3) (v4 3) w5 (HL5.out.res 3 (by decide) hlen3) hwf q1 q3 (HT1.out.pastL HL5.out.below)
      rw [HFE.out] at hany
      have HWR : Hid (Wf R) := by rw [← HFE.out]; exact wf_any hwf
      have HANY := hide hany
      have c3 := HL5.out.cell 3 (by decide)
      clear hany hwf q1 q2 q3 q4 hlen3 hl3
      unfold PT at HANY ⊢
      go_wp2_with fail
      refine HANY.out.mono ?_
      rintro e w6 ⟨qb, rfl, hq, hb6⟩
      have HQ := hide hq
      have HR6 := hide (HRR.out.keep hb6)
      have HL6 := hide (HL5.out.step hb6)
      clear hq hb6 HANY HL5 c3
      have hsm := same_re R R rb qb w6 HWR.out.k HWR.out.k HR6.out HQ.out (HT1.out.pastL HL6.out.below)
      rw [lexN_self] at hsm
      have HSM := hide hsm
      clear hsm
      unfold PT at HSM
      go_wp2_with fail
      refine HSM.out.mono ?_
      rintro e w7 ⟨rfl, hm7⟩
      have HB7 := hide (HB1.out.trans ((HL6.out.below.trans (hm7.below.mono HL6.out.below.size)).mono HB1.out.size))
      clear hm7 HSM
      go_wp2
      go_ret
      exact ⟨rfl, HB7.out⟩
theorem textLevels_all (v : Value) (w : World) (hv : ∃ n z, IntFn w v n z) (hT : TabAt w) :
    Calls Tryz.prog 5 #[v] w fun e w' => e = .returned (.bool true) ∧ Below w.heap.size w w' := by
  obtain ⟨n, z, h⟩ := hv
  exact textLevels_any v n z w h hT
end Go.Proofs.YtdbdjjjmomociaaGreatDoor
/- TextLevels answers true for all rows of numbers: letters with signs between them, and no parentheses, are read as what is put together by how close the signs hold, from the left on. Conditions: the table of math/bits holds what its initialiser lays (the card ties that to the program's text). -/
namespace Go.Proofs.YtdbdjjjmomociaaGreatDoor
set_option maxRecDepth 100000
open Go.ChangeShapes Go.WideShapes Go.ChangeAt Go.WideMaps Go.WideElems Go.RowKit

set_option maxRecDepth 100000 in
theorem textLevels_lifted (os : Os) (started : os.Started) (H : Type) (enc : TypeId × Value → H) :
    ReturnsInHanded {} Tryz.checked os 5 .any (fun w args => (Rows.textLevelsSpec.pre enc Tryz.prog Tryz.f5 [] false w args ∧ laidMetH Tryz.prog [("math/bits.deBruijn64tab", Rows.laid_math_bits_deBruijn64tab)] w) ∧ sizedMet enc Tryz.prog Tryz.f5 (OpenSpec.ofChange Rows.textLevelsSpec) false w args)
      (Rows.textLevelsSpec.post enc Tryz.prog Tryz.f5 false true false false) := by
  refine returnsInHanded_of_change_and (C := Tryz.checked) (X := fun w _ => laidMetH Tryz.prog [("math/bits.deBruijn64tab", Rows.laid_math_bits_deBruijn64tab)] w) (fun _ _ _ hh h => h.of_heap hh) own started (by kernel_rfl) Tryz.func5
    (ChangeSpec.witness_shaped (enc := enc) (C := Tryz.checked) (os := os) (X := fun w _ => laidMetH Tryz.prog [("math/bits.deBruijn64tab", Rows.laid_math_bits_deBruijn64tab)] w) false (World.doorLaid Tryz.prog 400 os)
      #[.slice none 0 0] 8 rfl (World.shaped_of_RefB (by kernel_rfl) (by kernel_rfl)) (by kernel_rfl) (by kernel_rfl) (by kernel_rfl) (door_met os _)) ?_
  intro W base args ds gs before hval0 hW _ _ hL _
  have hval : ∀ (j : Nat) t v, Tryz.f5.params[j]? = some t → args[j]? = some v → Value.okWide Tryz.prog W .any base t v := hval0
  have hW' := hW
  obtain ⟨p, q, hA0, hV, rfl, hfz, hnd⟩ := hW
  have hA : DataW.TrodAll enc Tryz.prog W 0 (fun _ => true) true Tryz.f5.params.toList args.toList ds p := hA0
  rw [Tryz.params5] at hA hval
  obtain ⟨v0, d0, rfl, rfl, h0⟩ := trodAll_one hA
  obtain ⟨rfl, rfl⟩ := trodVars_none hV
  have k0 := h0
  have lt0 : ∀ x ∈ p, x.block < W.heap.size := by obtain ⟨m, hm⟩ := k0; exact DataW.trod_lt m _ _ _ hm
  obtain ⟨z0, hz0⟩ := open_intfn (hval 0 40 v0 rfl rfl) h0
  have hT := tab_of_laid hL
  clear hA0 hval0
  refine (textLevels_all v0 W ⟨z0, hz0⟩ hT).mono fun e W' ⟨he, hb⟩ => ?_
  subst he
  exact ⟨_, rfl, _, _, _, [], _, [], hW', trodAll_mk1 (shut_bool Tryz.underlying4 _), trodAll_mk1 (Below.trod laidOut (by kernel_rfl) (of_decide_eq_true (by kernel_rfl)) k0 hb lt0), rfl, hb.frame _, fun h => by cases h⟩

theorem textLevels_said : Rows.TextLevelsSaid :=
  OpenClaim.holds_of_wide 5 Tryz.f5 rfl rfl rfl rfl rfl rfl rfl ⟨rfl, rfl, rfl, rfl, rfl⟩ rfl rfl rfl rfl rfl (by kernel_rfl) Tryz.func5 (by kernel_rfl)
    (of_decide_eq_true (by kernel_rfl)) (by unfold Func.isWrapper; first | (rw [if_pos (by decide +kernel)]; kernel_rfl) | (rw [if_neg (by decide +kernel)]; exact ⟨rfl, rfl⟩))
    (fun os started H enc _ => textLevels_lifted os started H enc)

theorem textLevels_card : Rows.TextLevelsCardSaid :=
  Claim7.holds_tied_plain_at .later [] [.data] true Rows.textLevelsCard.stood.harness false
    textLevels_said (fun _ h => by cases h) (by kernel_rfl) (fun _ h => by cases h) textLevels_row_tie rfl ⟨rfl, rfl⟩ (by kernel_rfl) rfl
    (fun f fn hf hfn => by
      obtain rfl : f = 5 := Option.some.inj ((show Tryz.prog.funcNamed "periscope/periscopelaw04.TextLevels" = some 5 by kernel_rfl).symm.trans hf) |>.symm
      obtain rfl : fn = Tryz.f5 := (Option.some.inj (Tryz.func5.symm.trans hfn)).symm
      exact ⟨by kernel_rfl, fun j t ht => by
        rw [Tryz.params5] at ht
        have hm : t ∈ [40] := by simpa using Array.mem_of_getElem? ht
        have hall : ([40].all fun u => !Tryz.prog.wantsStandIn u) = true := by kernel_rfl
        exact (show Tryz.prog.wantsStandIn t = false by simpa using List.all_eq_true.1 hall t hm)⟩)
    (by kernel_rfl)
#print axioms textLevels_card
end Go.Proofs.YtdbdjjjmomociaaGreatDoor
