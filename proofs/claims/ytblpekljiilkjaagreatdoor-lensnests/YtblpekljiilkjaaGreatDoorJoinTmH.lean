/- Texts of this claim put together: TmG, TmH. -/
import Derived.Test.YtblpekljiilkjaaGreatDoorJoinTmF
import Derived.Test.YtblpekljiilkjaaGreatDoorJoinPlB
/- What a plan makes: its expressions, texts and ops. -/
namespace Go.Proofs.YtblpekljiilkjaaGreatDoor
set_option maxRecDepth 100000
set_option linter.unusedSimpArgs false
set_option linter.unusedVariables false
open Go.RowKit Go.Shelf

theorem i64_and1 (n : Int) : bits .and .i64 n 1 = n % 2 := by
  have h1 : (BitVec.ofInt 64 1).toNat = 2 ^ 1 - 1 := by decide
  have key : (BitVec.ofInt 64 n &&& BitVec.ofInt 64 1).toNat = (n % ((2 ^ 64 : Nat) : Int)).toNat % 2 ^ 1 := by
    rw [BitVec.toNat_and, BitVec.toNat_ofInt, h1, Nat.and_two_pow_sub_one_eq_mod]
  show IntKind.i64.wrap ((BitVec.ofInt 64 n &&& BitVec.ofInt 64 1).toNat : Nat) = n % 2
  rw [key, IntKind.wrap_i64]
  omega
/-- Few expressions. -/
def exprL : List RE := [rWord [97], rWord [98], rWord [97, 98], rMany (rWord [97]), rAny [rWord [97], rWord [98]], rMany (rAny [rWord [97], rWord [98]]), rThen [rWord [97], rMany (rWord [98])], rEmpty, rWord [59]]
/-- As an unsigned number. -/
def uN (n : Int) : Nat := (n % 18446744073709551616).toNat
def exprN (n : Int) : RE := exprL.getD (uN n % 9) rNothing
/-- Few texts. -/
def textL : List ByteArray := [⟨#[]⟩, ⟨#[97]⟩, ⟨#[98]⟩, ⟨#[97, 98]⟩, ⟨#[120, 59, 121]⟩, ⟨#[34, 113, 34]⟩, ⟨#[10]⟩]
def textN (n : Int) : ByteArray := textL.getD (uN n % 7) ⟨#[]⟩
def keyN (n : Int) : ByteArray := if n % 2 = 0 then ⟨#[107]⟩ else ⟨#[99, 111, 108, 111, 114]⟩
def plO (op : Int) : Nat := 2 + uN op % 16
theorem plO_range (op : Int) : 2 ≤ plO op ∧ plO op ≤ 17 := by unfold plO; omega
def hasRe (o : Nat) : Bool := o == 2 || o == 16 || o == 3 || o == 4 || o == 5 || o == 17
def tmOf (op wd num : Int) (ks : List TM) : TM :=
  .mk (plO op) (if plO op = 3 then keyN num else ⟨#[]⟩) (if plO op = 4 ∨ plO op = 6 ∨ plO op = 17 then textN num else ⟨#[]⟩) (if plO op = 4 then textN (num.tdiv 7) else if plO op = 5 then textN num else ⟨#[]⟩)
    (if hasRe (plO op) then some (exprN wd) else none) (if kidsO (plO op) = 2 then [ks.getD 0 hdA, ks.getD 1 hdA] else if kidsO (plO op) = 1 then [ks.getD 0 hdA] else [])
/-- The term that a plan makes. -/
def PL.tm : PL → TM
  | .mk op wd num ks => tmOf op wd num (ks.map fun k => k.tm)
theorem PL.tm_mk (op wd num : Int) (ks : List PL) : (PL.mk op wd num ks).tm = tmOf op wd num (ks.map PL.tm) := by rw [PL.tm]

def r1w (c : Nat) : RE := .mk 2 (setOf [c]) []
theorem word1 (c : Nat) (h : setOf [c] ≠ 0#256) : rWord [c] = r1w c := by
  have e : rOne (setOf [c]) = r1w c := by unfold rOne; rw [if_neg h]; rfl
  show rThen [rOne (setOf [c])] = r1w c
  rw [e]
  rfl
theorem n97 : setOf [97] ≠ 0#256 := by decide +kernel
theorem n98 : setOf [98] ≠ 0#256 := by decide +kernel
theorem n59 : setOf [59] ≠ 0#256 := by decide +kernel
theorem nab : setOf [97] ||| setOf [98] ≠ 0#256 := by decide +kernel
theorem word2 : rWord [97, 98] = .mk 3 0#256 [r1w 97, r1w 98] := by
  have ea : rOne (setOf [97]) = r1w 97 := by unfold rOne; rw [if_neg n97]; rfl
  have eb : rOne (setOf [98]) = r1w 98 := by unfold rOne; rw [if_neg n98]; rfl
  show rThen [rOne (setOf [97]), rOne (setOf [98])] = _
  rw [ea, eb]
  rfl
theorem anyab : rAny [r1w 97, r1w 98] = .mk 2 (setOf [97] ||| setOf [98]) [] := by
  have hf : flatL 4 [r1w 97, r1w 98] = [r1w 97, r1w 98] := by simp [flatL, r1w, RE.op]
  have hk : orKeep [r1w 97, r1w 98] = [] := by simp [orKeep, r1w, RE.op]
  have hs : orSet [r1w 97, r1w 98] = setOf [97] ||| setOf [98] := by
    simp only [orSet, List.foldl_cons, List.foldl_nil, r1w, RE.op, RE.set, if_true]
    decide +kernel
  unfold rAny
  simp only [hf, hk, hs, nab, if_false, List.nil_append]
  rw [if_neg (by simp), show ordL [rOne (setOf [97] ||| setOf [98])] = [rOne (setOf [97] ||| setOf [98])] from rfl]
  show rOne _ = _
  unfold rOne
  rw [if_neg nab]
theorem many2 (s : BitVec 256) : rMany (.mk 2 s []) = .mk 5 0#256 [.mk 2 s []] := by
  unfold rMany
  rw [if_neg (by simp [RE.op]), if_neg (by simp [RE.op])]
theorem exprL_mk : exprL = [r1w 97, r1w 98, .mk 3 0#256 [r1w 97, r1w 98], .mk 5 0#256 [r1w 97], .mk 2 (setOf [97] ||| setOf [98]) [], .mk 5 0#256 [.mk 2 (setOf [97] ||| setOf [98]) []], .mk 3 0#256 [r1w 97, .mk 5 0#256 [r1w 98]], .mk 1 0#256 [], r1w 59] := by
  unfold exprL
  rw [word1 97 n97, word1 98 n98, word1 59 n59, word2, anyab, many2, show rMany (r1w 97) = .mk 5 0#256 [r1w 97] from many2 _, show rMany (r1w 98) = .mk 5 0#256 [r1w 98] from many2 _]
  rfl
theorem tx1 (s : BitVec 256) : (RE.mk 2 s []).txt = classW s := by rw [RE.txt_mk, opT_2]
theorem txs : exprL.map RE.txt = [[97], [98], [97, 98], [97, 42], [91, 97, 45, 98, 93], [91, 97, 45, 98, 93, 42], [97, 98, 42], [40, 41], [59]] := by
  rw [exprL_mk]
  have ca : classW (setOf [97]) = [97] := by decide +kernel
  have cb : classW (setOf [98]) = [98] := by decide +kernel
  have cc : classW (setOf [59]) = [59] := by decide +kernel
  have cab : classW (setOf [97] ||| setOf [98]) = [91, 97, 45, 98, 93] := by decide +kernel
  simp only [List.map_cons, List.map_nil, r1w, RE.txt_mk, opT_1, opT_2, opT_3, opT_5, kidL, ca, cb, cc, cab, RE.op]
  decide +kernel
theorem expr_len : ∀ r ∈ exprL, r.txt.length ≤ 6 := by
  intro r hr
  have h : r.txt ∈ exprL.map RE.txt := List.mem_map.2 ⟨r, hr, rfl⟩
  rw [txs] at h
  have : ∀ l ∈ ([[97], [98], [97, 98], [97, 42], [91, 97, 45, 98, 93], [91, 97, 45, 98, 93, 42], [97, 98, 42], [40, 41], [59]] : List (List Nat)), l.length ≤ 6 := by decide
  exact this _ h
theorem expr_wf : ∀ r ∈ exprL, Wf r := by
  have ha := wf_word [97]
  have hb := wf_word [98]
  have hab : Wf (rAny [rWord [97], rWord [98]]) := wf_any (by intro r hr; simp at hr; rcases hr with rfl | rfl; exact ha; exact hb)
  intro r hr
  simp [exprL] at hr
  rcases hr with rfl | rfl | rfl | rfl | rfl | rfl | rfl | rfl | rfl
  · exact ha
  · exact hb
  · exact wf_word _
  · exact wf_many ha
  · exact hab
  · exact wf_many hab
  · exact wf_then (by intro r hr; simp at hr; rcases hr with rfl | rfl; exact ha; exact wf_many hb)
  · exact wf_empty
  · exact wf_word _
theorem exprN_mem (n : Int) : exprN n ∈ exprL := by
  unfold exprN
  have h : uN n % 9 < exprL.length := by show _ < 9; omega
  rw [List.getD_eq_getElem?_getD, List.getElem?_eq_getElem h]
  exact List.getElem_mem h
theorem textN_len (n : Int) : (textN n).size ≤ 3 := by
  unfold textN
  have h : uN n % 7 < textL.length := by show _ < 7; omega
  rw [List.getD_eq_getElem?_getD, List.getElem?_eq_getElem h]
  have : ∀ t ∈ textL, t.size ≤ 3 := by decide +kernel
  exact this _ (List.getElem_mem h)
theorem keyN_len (n : Int) : (keyN n).size ≤ 5 := by unfold keyN; split <;> decide
theorem hdA_wf : WfT hdA := by
  refine .mk _ _ _ _ _ _ (by omega) (by decide) (by decide) (by decide) (fun q h => ?_) (by decide) (fun k hk => by cases hk)
  cases h
  exact ⟨rA_wf, by rw [rA_txt]; decide⟩
theorem getD_wf {ks : List TM} (h : ∀ k ∈ ks, WfT k) (i : Nat) : WfT (ks.getD i hdA) := by
  rw [List.getD_eq_getElem?_getD]
  cases e : ks[i]? with
  | none => exact hdA_wf
  | some k => exact h k (List.mem_of_getElem? e)
theorem tmOf_wf (op wd num : Int) (ks : List TM) (h : ∀ k ∈ ks, WfT k) : WfT (tmOf op wd num ks) := by
  have z : (⟨#[]⟩ : ByteArray).size = 0 := rfl
  have hk := keyN_len num
  have ht := textN_len num
  have ht7 := textN_len (num.tdiv 7)
  refine .mk _ _ _ _ _ _ (plO_range op) ?_ ?_ ?_ ?_ ?_ ?_
  · split <;> omega
  · split <;> omega
  · split
    · omega
    · split <;> omega
  · intro q hq
    split at hq
    · cases hq
      exact ⟨expr_wf _ (exprN_mem wd), by have := expr_len _ (exprN_mem wd); omega⟩
    · cases hq
  · split
    · rename_i e; rw [e]; rfl
    · split
      · rename_i e; rw [e]; rfl
      · rename_i h2 h1
        have : kidsO (plO op) = 0 := by
          unfold kidsO at *
          repeat' split at *
          all_goals first | rfl | omega
        rw [this]; rfl
  · intro k hk
    split at hk
    · simp at hk
      rcases hk with rfl | rfl
      · exact getD_wf h 0
      · exact getD_wf h 1
    · split at hk
      · simp at hk
        subst hk
        exact getD_wf h 0
      · cases hk
theorem PL.tm_wf (s : PL) : WfT s.tm := by
  refine PL.ind (P := fun s => WfT s.tm) ?_ s
  intro o l u ks ih
  rw [PL.tm_mk]
  refine tmOf_wf _ _ _ _ fun k hk => ?_
  obtain ⟨x, hx, rfl⟩ := List.mem_map.1 hk
  exact ih x hx
/-- How long the text is. -/
theorem inT_len (l m : Nat) (t : List Nat) : (inT l m t).length ≤ t.length + 2 := by
  unfold inT; split <;> simp
theorem tsep_len (o : Nat) : (tsep o).length ≤ 3 := by
  unfold tsep
  split
  · decide
  · split
    · decide
    · split <;> decide
theorem wordT_len (o : Nat) : (wordT o).length ≤ 5 := by
  by_cases h : o < 18
  · have key : ∀ o < 18, (wordT o).length ≤ 5 := by decide +kernel
    exact key o h
  · unfold wordT
    rw [if_neg (by omega), if_neg (by omega), if_neg (by omega), if_neg (by omega), if_neg (by omega), if_neg (by omega), if_neg (by omega), if_neg (by omega), if_neg (by omega), if_neg (by omega), if_neg (by omega), if_neg (by omega)]
    decide
theorem bN_len' (s : ByteArray) : (bytesN s).length = s.size := bN_len s
theorem leaf_len (o : Nat) (n t b : ByteArray) (r : Option RE) (hn : n.size ≤ 5) (ht : t.size ≤ 3) (hb : b.size ≤ 3) (hr : (reT r).length ≤ 6) : (wordT o ++ restT o n t b r).length ≤ 60 := by
  have h1 := quoteT_len t
  have h2 := quoteT_len b
  have h3 := bN_len' n
  have h4 := wordT_len o
  have h5 : (argT r).length ≤ 8 := by unfold argT; simp; omega
  unfold restT
  simp only [List.length_append]
  have q1 : (if o = 3 then [32] ++ bytesN n else []).length ≤ 6 := by split <;> simp <;> omega
  have q2 : (if o = 6 then [] else [32] ++ argT r).length ≤ 9 := by split <;> simp <;> omega
  have q3 : (if o = 4 ∨ o = 6 ∨ o = 17 then [32] ++ quoteT t else []).length ≤ 15 := by split <;> simp <;> omega
  have q4 : (if o = 4 ∨ o = 5 then [32] ++ quoteT b else []).length ≤ 15 := by split <;> simp <;> omega
  omega
theorem hdA_len : hdA.txt.length ≤ 60 := by
  unfold hdA
  rw [TM.txt_mk, tmT_leaf _ _ _ _ _ _ (by decide)]
  exact leaf_len _ _ _ _ _ (by decide) (by decide) (by decide) (by simp [reT, rA_txt])
theorem tm_len (s : PL) : s.tm.txt.length ≤ 200 * s.nodes := by
  refine PL.ind (P := fun s => s.tm.txt.length ≤ 200 * s.nodes) ?_ s
  intro op wd num ks ih
  rw [PL.tm_mk, PL.nodes_mk]
  have hz : (⟨#[]⟩ : ByteArray).size = 0 := rfl
  have hg : ∀ i, ((ks.map PL.tm).getD i hdA).txt.length ≤ 60 + 200 * ((ks.map PL.nodes).getD i 0) := fun i => by
    rw [List.getD_eq_getElem?_getD, List.getD_eq_getElem?_getD, List.getElem?_map, List.getElem?_map]
    cases e : ks[i]? with
    | none => have := hdA_len; simpa using this
    | some k => have := ih k (List.mem_of_getElem? e); simp only [Option.map_some, Option.getD_some]; omega
  have hs : (ks.map PL.nodes).getD 0 0 + (ks.map PL.nodes).getD 1 0 ≤ (ks.map PL.nodes).sum := by
    match ks with
    | [] => simp
    | [a] => simp
    | a :: b :: r => simp [Nat.add_assoc]
  unfold tmOf
  rw [TM.txt_mk]
  have ho := plO_range op
  generalize plO op = o at *
  cases hlf : leafO o with
  | true =>
    rw [tmT_leaf _ _ _ _ _ _ hlf]
    have := leaf_len o (if o = 3 then keyN num else ⟨#[]⟩) (if o = 4 ∨ o = 6 ∨ o = 17 then textN num else ⟨#[]⟩) (if o = 4 then textN (num.tdiv 7) else if o = 5 then textN num else ⟨#[]⟩) (if hasRe o then some (exprN wd) else none)
      (by have := keyN_len num; split <;> omega) (by have := textN_len num; split <;> omega) (by have := textN_len num; have := textN_len (num.tdiv 7); split; omega; split <;> omega)
      (by split
          · exact expr_len _ (exprN_mem wd)
          · simp [reT])
    omega
  | false =>
    have hk : (tkL (if kidsO o = 2 then [(ks.map PL.tm).getD 0 hdA, (ks.map PL.tm).getD 1 hdA] else if kidsO o = 1 then [(ks.map PL.tm).getD 0 hdA] else [])) = (if kidsO o = 2 then [(((ks.map PL.tm).getD 0 hdA).op, ((ks.map PL.tm).getD 0 hdA).txt), (((ks.map PL.tm).getD 1 hdA).op, ((ks.map PL.tm).getD 1 hdA).txt)] else if kidsO o = 1 then [(((ks.map PL.tm).getD 0 hdA).op, ((ks.map PL.tm).getD 0 hdA).txt)] else []) := by
      split
      · rfl
      · split <;> rfl
    have hT : ∀ sep : List Nat, sep.length ≤ 3 → (tkT o sep 0 (tkL (if kidsO o = 2 then [(ks.map PL.tm).getD 0 hdA, (ks.map PL.tm).getD 1 hdA] else if kidsO o = 1 then [(ks.map PL.tm).getD 0 hdA] else []))).length ≤ 127 + 200 * (ks.map PL.nodes).sum := fun sep hsep => by
      have g0 := hg 0
      have g1 := hg 1
      rw [hk]
      split
      · simp only [tkT, List.length_append, List.length_nil]
        have i0 := inT_len (levT ((ks.map PL.tm).getD 0 hdA).op) (mustT o 0) ((ks.map PL.tm).getD 0 hdA).txt
        have i1 := inT_len (levT ((ks.map PL.tm).getD 1 hdA).op) (mustT o (0 + 1)) ((ks.map PL.tm).getD 1 hdA).txt
        rw [if_neg (by omega), if_pos (by omega), List.length_nil]
        omega
      · split
        · simp only [tkT, List.length_append, List.length_nil]
          have i0 := inT_len (levT ((ks.map PL.tm).getD 0 hdA).op) (mustT o 0) ((ks.map PL.tm).getD 0 hdA).txt
          rw [if_neg (by omega), List.length_nil]
          omega
        · simp [tkT]
    have hw := wordT_len o
    cases hro : rowO o with
    | true =>
      rw [tmT_row _ _ _ _ _ _ hlf hro]
      have := hT (tsep o) (tsep_len o)
      omega
    | false =>
      by_cases h9 : o = 9
      · have := hT [] (by simp)
        subst h9
        rw [tmT_9, List.length_append]
        simp only [List.length_singleton]
        omega
      · rw [tmT_word _ _ _ _ _ _ hlf hro h9]
        have := hT (tsep o) (tsep_len o)
        simp only [List.length_append, List.length_singleton]
        omega
end Go.Proofs.YtblpekljiilkjaaGreatDoor
/- Make: Text, Expr, op. -/
namespace Go.Proofs.YtblpekljiilkjaaGreatDoor
set_option maxRecDepth 100000
set_option linter.unusedSimpArgs false
set_option linter.unusedVariables false
open Go.RowKit Go.Shelf

theorem wrapU (n : Int) : ∃ m : Nat, IntKind.u64.wrap n = (m : Int) ∧ uN n = m ∧ (m : Int) < 18446744073709551616 := by
  refine ⟨uN n, ?_, rfl, ?_⟩
  · have e1 : IntKind.u64.wrap n = n % 18446744073709551616 := by simp [IntKind.wrap, IntKind.signed, IntKind.bits]
    rw [e1]; unfold uN; omega
  · unfold uN; omega
theorem planOp_any (s : PL) (cs : List Value) (w : World) (h : PlC w cs s) :
    Calls Tryz.prog 39 #[PlVal cs] w fun e w' => e = .returned (.int .i64 (plO s.op)) ∧ Below w.heap.size w w' := by
  obtain ⟨v, rfl, hr, ho, -⟩ := h.open
  obtain ⟨-, a, cap, rfl, -⟩ := hr.at
  clear h hr
  obtain ⟨m, e1, hm, hm2⟩ := wrapU s.op
  have hk : ((plO s.op : Nat) : Int) = 2 + (m : Int) % 16 := by unfold plO; rw [hm]; omega
  rw [hk]
  clear hk hm
  unfold PlVal
  go_enter Tryz.func39, Tryz.ntmps39
  go_wp2
  go_ret
  exact ⟨rfl, (Below.refl _ _).alloc (Nat.le_refl _) _⟩
theorem textL_at (w : World) (k : Nat) (hk : k < 7) : (w.alloc (.cells #[.string ⟨#[]⟩, .string ⟨#[97]⟩, .string ⟨#[98]⟩, .string ⟨#[97, 98]⟩, .string ⟨#[120, 59, 121]⟩, .string ⟨#[34, 113, 34]⟩, .string ⟨#[10]⟩] 9)).cell? ⟨w.heap.size, k, none⟩ = some (.string (textL.getD k ⟨#[]⟩)) := by
  rw [(Blk.newAt (w := w) rfl _ _).cell]
  match k, hk with
  | 0, _ => rfl
  | 1, _ => rfl
  | 2, _ => rfl
  | 3, _ => rfl
  | 4, _ => rfl
  | 5, _ => rfl
  | 6, _ => rfl
theorem planText_any (n : Int) (w : World) :
    Calls Tryz.prog 41 #[.int .i64 n] w fun e w' => e = .returned (.string (textN n)) ∧ Below w.heap.size w w' := by
  obtain ⟨m, e1, hm, hm2⟩ := wrapU n
  have hc := textL_at w (m % 7) (by omega)
  have HT : Hid (textN n = textL.getD (m % 7) ⟨#[]⟩) := by show _ = _; unfold textN; rw [hm]
  generalize textL.getD (m % 7) ⟨#[]⟩ = t at *
  have hb0 : (0 : Int) ≤ (m : Int) % 7 := by omega
  have hb1 : (m : Int) % 7 < 7 := by omega
  have ht : ((m : Int) % 7).toNat = m % 7 := by omega
  clear hm
  go_enter Tryz.func41, Tryz.ntmps41
  go_wp2
  go_ret
  exact ⟨by rw [HT.out]; rfl, (Below.refl _ _).alloc (Nat.le_refl _) _⟩
theorem res2 {w : World} {a b g : Nat} {r o : RE} (hg : Blk w g #[PT a, PT b] 35) (h : ReAt w a r) (h' : ReAt w b o) : ResRow w (.slice (some ⟨g, 0, none⟩) 2 2) [r, o] := resRow_two hg h h' fun h => h
set_option maxHeartbeats 4000000 in
theorem planExpr_any (n : Int) (hn : I64 n) (w : World) (hT : TabAt w) :
    Calls Tryz.prog 40 #[.int .i64 n] w fun e w' => ∃ b, e = .returned (PT b) ∧ ReAt w' b (exprN n) ∧ Below w.heap.size w w' := by
  obtain ⟨m, e1, hm, hm2⟩ := wrapU n
  have HN : Hid (exprN n = exprL.getD (m % 9) rNothing) := by show _ = _; unfold exprN; rw [hm]
  have hb0 : (0 : Int) ≤ (m : Int) % 9 := by omega
  have hb1 : (m : Int) % 9 < 9 := by omega
  have ht : ((m : Int) % 9).toNat = m % 9 := by omega
  have hm9 : m % 9 < 9 := by omega
  have HT := hide hT
  have ha := hide (wf_word [97])
  have hb := hide (wf_word [98])
  clear hm hT
  go_enter Tryz.func40, Tryz.ntmps40
  go_wp2_with fail
  refine (word_any ⟨#[97]⟩ w (by decide) (FL.none _)).mono ?_
  rintro e w1 ⟨p1, rfl, h1, b1⟩
  rw [show bytesN ⟨#[97]⟩ = [97] from by decide +kernel] at h1
  have B1 := hide b1
  have H1 := hide h1
  clear h1 b1
  unfold PT
  go_wp2_with fail
  refine (word_any ⟨#[98]⟩ w1 (by decide) (FL.none _)).mono ?_
  rintro e w2 ⟨p2, rfl, h2, b2⟩
  rw [show bytesN ⟨#[98]⟩ = [98] from by decide +kernel] at h2
  have B2 := hide (B1.out.trans (b2.mono B1.out.size))
  have H12 := hide (H1.out.keep b2)
  have H22 := hide h2
  clear h2 b2 B1 H1
  unfold PT
  go_wp2_with fail
  refine (word_any ⟨#[97, 98]⟩ w2 (by decide) (FL.none _)).mono ?_
  rintro e w3 ⟨p3, rfl, h3, b3⟩
  rw [show bytesN ⟨#[97, 98]⟩ = [97, 98] from by decide +kernel] at h3
  have L3 := hide b3
  have H3 := hide h3
  clear h3 b3
  unfold PT
  go_wp2_with fail
  refine (many_any p1 (rWord [97]) w3 (H12.out.keep L3.out)).mono ?_
  rintro e w4 ⟨p4, rfl, h4, b4⟩
  have L4 := hide (L3.out.trans (b4.mono L3.out.size))
  have K3 := hide (H3.out.keep b4)
  have H4 := hide h4
  clear h4 b4 H3 L3
  unfold PT
  go_wp2_with fail
  have bx := (Below.refl w4.heap.size w4).alloc (Nat.le_refl _) (.cells #[.pointer (some ⟨p1, 0, none⟩), .pointer (some ⟨p2, 0, none⟩)] 35)
  refine (any_re [rWord [97], rWord [98]] _ _ (res2 (Blk.newAt rfl _ _) ((H12.out.keep L4.out).keep bx) ((H22.out.keep L4.out).keep bx)) (by intro r hr; simp at hr; rcases hr with rfl | rfl; exact ha.out; exact hb.out) (by simp) (by decide +kernel) ((HT.out.onS B2.out).onS (L4.out.trans (bx.mono L4.out.size)))).mono ?_
  rintro e w5 ⟨p5, rfl, h5, b5⟩
  have b45 := bx.trans (b5.mono (by simp))
  have L5 := hide (L4.out.trans (b45.mono L4.out.size))
  have K35 := hide (K3.out.keep b45)
  have K45 := hide (H4.out.keep b45)
  have H5 := hide h5
  clear h5 b5 bx b45 L4 K3 H4
  unfold PT
  go_wp2_with fail
  have bx := (Below.refl w5.heap.size w5).alloc (Nat.le_refl _) (.cells #[.pointer (some ⟨p1, 0, none⟩), .pointer (some ⟨p2, 0, none⟩)] 35)
  refine (any_re [rWord [97], rWord [98]] _ _ (res2 (Blk.newAt rfl _ _) ((H12.out.keep L5.out).keep bx) ((H22.out.keep L5.out).keep bx)) (by intro r hr; simp at hr; rcases hr with rfl | rfl; exact ha.out; exact hb.out) (by simp) (by decide +kernel) ((HT.out.onS B2.out).onS (L5.out.trans (bx.mono L5.out.size)))).mono ?_
  rintro e w6 ⟨p6, rfl, h6, b6⟩
  have b56 := bx.trans (b6.mono (by simp))
  have L6 := hide (L5.out.trans (b56.mono L5.out.size))
  have K36 := hide (K35.out.keep b56)
  have K46 := hide (K45.out.keep b56)
  have K56 := hide (H5.out.keep b56)
  have H6 := hide h6
  clear h6 b6 bx b56 L5 K35 K45 H5
  unfold PT
  go_wp2_with fail
  refine (many_any p6 _ w6 H6.out).mono ?_
  rintro e w7 ⟨p7, rfl, h7, b7⟩
  have L7 := hide (L6.out.trans (b7.mono L6.out.size))
  have K37 := hide (K36.out.keep b7)
  have K47 := hide (K46.out.keep b7)
  have K57 := hide (K56.out.keep b7)
  have H7 := hide h7
  clear h7 b7 L6 K36 K46 K56 H6
  unfold PT
  go_wp2_with fail
  refine (many_any p2 _ w7 (H22.out.keep L7.out)).mono ?_
  rintro e w8 ⟨p8, rfl, h8, b8⟩
  have L8 := hide (L7.out.trans (b8.mono L7.out.size))
  have K38 := hide (K37.out.keep b8)
  have K48 := hide (K47.out.keep b8)
  have K58 := hide (K57.out.keep b8)
  have K78 := hide (H7.out.keep b8)
  have H8 := hide h8
  clear h8 b8 L7 K37 K47 K57 H7
  unfold PT
  go_wp2_with fail
  have bx := (Below.refl w8.heap.size w8).alloc (Nat.le_refl _) (.cells #[.pointer (some ⟨p1, 0, none⟩), .pointer (some ⟨p8, 0, none⟩)] 35)
  refine (then_any [rWord [97], rMany (rWord [98])] _ _ (res2 (Blk.newAt rfl _ _) ((H12.out.keep L8.out).keep bx) (H8.out.keep bx)) (by intro r hr; simp at hr; rcases hr with rfl | rfl; exact ha.out; exact wf_many hb.out) (by simp) (by decide +kernel)).mono ?_
  rintro e w9 ⟨p9, rfl, h9, b9⟩
  have b89 := bx.trans (b9.mono (by simp))
  have L9 := hide (L8.out.trans (b89.mono L8.out.size))
  have K39 := hide (K38.out.keep b89)
  have K49 := hide (K48.out.keep b89)
  have K59 := hide (K58.out.keep b89)
  have K79 := hide (K78.out.keep b89)
  have H9 := hide h9
  clear h9 b9 bx b89 L8 K38 K48 K58 K78 H8
  unfold PT
  go_wp2_with fail
  refine (empty_re w9 (FL.none _)).mono ?_
  rintro e w10 ⟨p10, rfl, h10, b10⟩
  have L10 := hide (L9.out.trans (b10.mono L9.out.size))
  have K3a := hide (K39.out.keep b10)
  have K4a := hide (K49.out.keep b10)
  have K5a := hide (K59.out.keep b10)
  have K7a := hide (K79.out.keep b10)
  have K9a := hide (H9.out.keep b10)
  have H10 := hide h10
  clear h10 b10 L9 K39 K49 K59 K79 H9
  unfold PT
  go_wp2_with fail
  refine (word_any ⟨#[59]⟩ w10 (by decide) (FL.none _)).mono ?_
  rintro e w11 ⟨p11, rfl, h11, b11⟩
  rw [show bytesN ⟨#[59]⟩ = [59] from by decide +kernel] at h11
  have L11 := hide (L10.out.trans (b11.mono L10.out.size))
  have hall : ∀ k, k < 9 → ∃ p, (#[.pointer (some ⟨p1, 0, none⟩), .pointer (some ⟨p2, 0, none⟩), .pointer (some ⟨p3, 0, none⟩), .pointer (some ⟨p4, 0, none⟩), .pointer (some ⟨p5, 0, none⟩), .pointer (some ⟨p7, 0, none⟩), .pointer (some ⟨p9, 0, none⟩), .pointer (some ⟨p10, 0, none⟩), .pointer (some ⟨p11, 0, none⟩)] : Array Value)[k]? = some (PT p) ∧ ReAt w11 p (exprL.getD k rNothing) := by
    intro k hk
    match k, hk with
    | 0, _ => exact ⟨p1, rfl, H12.out.keep L11.out⟩
    | 1, _ => exact ⟨p2, rfl, H22.out.keep L11.out⟩
    | 2, _ => exact ⟨p3, rfl, K3a.out.keep b11⟩
    | 3, _ => exact ⟨p4, rfl, K4a.out.keep b11⟩
    | 4, _ => exact ⟨p5, rfl, K5a.out.keep b11⟩
    | 5, _ => exact ⟨p7, rfl, K7a.out.keep b11⟩
    | 6, _ => exact ⟨p9, rfl, K9a.out.keep b11⟩
    | 7, _ => exact ⟨p10, rfl, H10.out.keep b11⟩
    | 8, _ => exact ⟨p11, rfl, h11⟩
  obtain ⟨pk, hpk, hrk⟩ := hall (m % 9) hm9
  have hc := (Blk.newAt (w := w11) rfl (#[.pointer (some ⟨p1, 0, none⟩), .pointer (some ⟨p2, 0, none⟩), .pointer (some ⟨p3, 0, none⟩), .pointer (some ⟨p4, 0, none⟩), .pointer (some ⟨p5, 0, none⟩), .pointer (some ⟨p7, 0, none⟩), .pointer (some ⟨p9, 0, none⟩), .pointer (some ⟨p10, 0, none⟩), .pointer (some ⟨p11, 0, none⟩)] : Array Value) 35).cell (m % 9)
  rw [hpk] at hc
  have HR := hide hrk
  have BF := hide (B2.out.trans (L11.out.mono B2.out.size))
  clear hall hpk hrk h11 b11 H12 H22 K3a K4a K5a K7a K9a H10 L10 L11
  unfold PT at hc ⊢
  go_wp2
  go_ret
  refine ⟨pk, rfl, ?_, BF.out.alloc BF.out.size _⟩
  rw [HN.out]
  exact HR.out.keep ((Below.refl _ _).alloc (Nat.le_refl _) _)
end Go.Proofs.YtblpekljiilkjaaGreatDoor
