/- Texts of this claim put together: ReL, ReM, ReN, ReO. -/
import Derived.Test.YtjcfnmjjkadaeaaGreatDoorJoinReK
/- Both. -/
namespace Go.Proofs.YtjcfnmjjkadaeaaGreatDoor
set_option maxRecDepth 100000
set_option linter.unusedSimpArgs false
set_option linter.unusedVariables false
open Go.RowKit

def andSet (l : List RE) : BitVec 256 := l.foldl (fun s r => if r.op = 2 then s &&& r.set else s) allB
def met (l : List RE) : Bool := l.any fun r => r.op == 2
theorem andSet_take (l : List RE) (k : Nat) (h : k < l.length) : andSet (l.take (k + 1)) = if l[k].op = 2 then andSet (l.take k) &&& l[k].set else andSet (l.take k) := by
  unfold andSet
  rw [List.take_succ_eq_append_getElem h, List.foldl_append]; rfl
theorem met_take (l : List RE) (k : Nat) (h : k < l.length) : met (l.take (k + 1)) = (met (l.take k) || (l[k].op == 2)) := by
  unfold met
  rw [List.take_succ_eq_append_getElem h, List.any_append]; simp
def rBoth (l : List RE) : RE :=
  let fl := flatL 6 l
  if fl.any (fun r => r.op == 0) then rNothing else if andSet fl = 0#256 then rNothing else
    let ks := orKeep fl ++ (if met fl = true then [rOne (andSet fl)] else [])
    if ks = [] then rMany (rOne allB) else rJoin 6 (ordL ks)

set_option maxHeartbeats 2000000 in
theorem both_re [Forb] (l : List RE) (v : Value) (w : World) (h : ResRow w v l) (hw : ∀ r ∈ l, Wf r) (hl : l.length ≤ 1099511627776) (hlen : (flatL 6 l).length ≤ 1099511627776) (hT : TabAt w) :
    Calls Tryz.prog 52 #[v] w fun e w' => ∃ b, e = .returned (PT b) ∧ ReAt w' b (rBoth l) ∧ Below w.heap.size w w' := by
  obtain ⟨i, hi, hz0, hz1, hz2⟩ := info_parts infoP
  have hG : 0 < w.heap.size := World.block_lt_of_cell? _ _ (hT 0 (by omega))
  have HT := hide hT
  have HR := hide h
  clear hT h
  obtain ⟨fl, hfl⟩ : ∃ fl, fl = flatL 6 l := ⟨_, rfl⟩
  have hwf : ∀ r ∈ fl, Wf r := fun r hr => by
    rw [hfl] at hr
    obtain ⟨q, hq, hr⟩ := List.mem_flatMap.1 hr
    split at hr
    · exact (hw q hq).kid r hr
    · simp at hr; subst hr; exact hw _ hq
  obtain ⟨res, hres⟩ : ∃ res, res = rBoth l := ⟨_, rfl⟩
  rw [← hres]
  unfold rBoth at hres
  simp only [← hfl] at hres
  have HRES := hide hres
  clear hres
  rw [← hfl] at hlen
  obtain ⟨-, ad0, cap0, rfl, -⟩ := HR.out.at
  go_enter Tryz.func52, Tryz.ntmps52
  go_wp2_with fail
  refine (flat_any 6 l _ w HR.out (fun r hr e => by have := ((hw r hr).shp.or (.inr e)).1; omega) hl (by rw [← hfl]; exact hlen)).mono ?_
  rintro e w1 ⟨vf, ps0, rfl, hps, hO, hE, hb⟩
  rw [← hfl] at hps
  have hpl : ps0.length = fl.length := by rw [← hps]; simp
  have hrow1 := (hO.row HR.out.fl hb.size (by omega)).res (fun p hp => (hE p hp).keep hb)
  rw [hps] at hrow1
  obtain ⟨-, adf, capf, rfl, -⟩ := hrow1.at
  have HROW := hide hrow1
  have HPR := hide (hO.row HR.out.fl hb.size (by omega))
  have HPS := hide hps
  have HE0 := hide hE
  have HB := hide hb
  obtain ⟨B1, hB1⟩ : ∃ B1, B1 = w1.heap.size := ⟨_, rfl⟩
  have HB1 := hide hB1
  have hwB : w.heap.size ≤ B1 := by rw [hB1]; exact hb.size
  clear hO hE hb hrow1 hps hB1 hfl
  go_wp2_with (refine wpList_make_own _ rfl _ _ _ rfl B1 _ i _ 1 Tryz.underlying59 hi hz0 hz1 .i64 .i64 _ fl.length rfl rfl rfl (by rw [hz2]; omega) (by unfold maxLen; omega) (Nat.le_of_eq HB1.out) ?_; intro w2 ho1 hg1)
  have HO1 := hide ho1
  have HG1 := hide hg1
  clear ho1 hg1
  refine (all_any _).mono ?_
  rintro e w3 ⟨rfl, hb3⟩
  obtain ⟨CB, hCB⟩ : ∃ CB, CB = w3.heap.size := ⟨_, rfl⟩
  have hBC : B1 ≤ CB := by rw [hCB, HB1.out]; exact Nat.le_trans HG1.out.size hb3.size
  have hA0 : AnyW w w1 B1 CB (.slice (some ⟨w1.heap.size, 0, none⟩) 0 fl.length) [] allB (w3.alloc (.cells (WS allB) 89)) := by
    have ho : OwnP w2 B1 (.slice (some ⟨w1.heap.size, 0, none⟩) 0 fl.length) [] := HO1.out
    have hbb : Below B1 w1 w2 := HB1.out ▸ grown_none HG1.out
    have hbb3 : Below B1 w1 w3 := hbb.trans (hb3.mono (by rw [HB1.out]; exact HG1.out.size))
    exact ⟨(ho.keep hb3).keep ((Below.refl _ _).alloc (Nat.le_refl _) _), fun p hp => by simp at hp, Blk.newAt hCB _ _, hbb3.alloc (by omega) _⟩
  have HCB := hide hCB
  clear HO1 HG1 hb3 hCB
  go_wp2
  rw [← HCB.out]
  clear HCB
  go_loopw [3, 5, 16] (fun out m c wr => ∃ (k : Nat) (ps : List (Nat × RE)), k ≤ fl.length ∧ c = .int .i64 k ∧ m = .bool (met (fl.take k)) ∧ Hid ((fl.take k).any (fun r => r.op == 0) = false) ∧ Hid (ps.map Prod.snd = orKeep (fl.take k)) ∧ Hid (AnyW w w1 B1 CB out ps (andSet (fl.take k)) wr)) (fun _ _ c _ => fl.length - (intOf c).toNat)
  case atStart => exact ⟨0, [], by omega, rfl, rfl, rfl, rfl, hA0⟩
  case round =>
    clear hA0
    obtain ⟨k, ps, hk, rfl, rfl, HN, HS, HA⟩ := hrel
    have hple : ps.length ≤ k := by
      have e : ps.length = (orKeep (fl.take k)).length := by rw [← HS.out]; simp
      have := orKeep_le (fl.take k)
      simp at this; omega
    have hBW : B1 ≤ wr.heap.size := by rw [HB1.out]; exact HA.out.below.size
    by_cases hlt : k < fl.length
    · have hkd : decide (k < fl.length) = true := by simp [hlt]
      have hk0 : k < ps0.length := by omega
      obtain ⟨-, a', c', e1, g1⟩ := HPR.out.below (show Below w1.heap.size w1 wr from HB1.out ▸ HA.out.below)
      obtain ⟨rfl, rfl⟩ : adf = a' ∧ capf = c' := by injection e1 with ea el ec; exact ⟨ea, ec⟩
      obtain ⟨b1, o1, rfl, -, d1⟩ := g1 k _ (List.getElem?_eq_getElem hk0)
      have hre := HE0.out _ (List.getElem_mem hk0)
      have hflk : fl[k] = (ps0[k]).2 := by
        have h1 : (ps0.map Prod.snd)[k]? = some fl[k] := by rw [HPS.out]; exact List.getElem?_eq_getElem hlt
        rw [List.getElem?_map, List.getElem?_eq_getElem hk0] at h1
        simpa using h1.symm
      rw [← hflk] at hre
      have HTK := hide (orKeep_take fl k hlt)
      have HTS := hide (andSet_take fl k hlt)
      have HTM := hide (met_take fl k hlt)
      have HN2 := hide (show (fl.take (k + 1)).any (fun r => r.op == 0) = (fl[k].op == 0) from by rw [List.take_succ_eq_append_getElem hlt, List.any_append, HN.out]; simp)
      have HAN := hide (show (fl[k].op == 0) = true → fl.any (fun r => r.op == 0) = true from fun h => List.any_eq_true.2 ⟨fl[k], List.getElem_mem hlt, h⟩)
      have hwk := hwf _ (List.getElem_mem hlt)
      generalize hp1 : (ps0[k]).1 = p1 at d1 hre
      generalize fl[k] = r at HTK HTS HTM HN2 HAN hre hwk
      generalize met (fl.take k) = mt at *
      have hbw : Below w.heap.size w wr := HB.out.trans (HA.out.below.mono hwB)
      have HR1 := hide (hre.keep hbw)
      have HR0 := hide hre
      have c0 := HR1.out.cell0
      unfold PT at d1
      clear e1 g1 hre hbw hflk hp1
      by_cases hop0 : r.op = 0
      · have ho0 : ((r.op : Int) == 0) = true := by simp [hop0]
        have HX := hide (show r = rNothing from hwk.none hop0)
        have HRE := hide (show res = rNothing from by have := HRES.out; rw [if_pos (HAN.out (by simp [hop0]))] at this; exact this)
        have HBW := hide (show Below w.heap.size w wr from HB.out.trans (HA.out.below.mono hwB))
        clear hop0
        go_wp2
        go_ret
        refine ⟨p1, rfl, ?_, HBW.out⟩
        rw [HRE.out, ← HX.out]; exact HR1.out
      · have HNF : Hid ((fl.take (k + 1)).any (fun r => r.op == 0) = false) := HN2.out.trans (by simp [hop0])
        by_cases hop2 : r.op = 2
        · have ho0 : ((r.op : Int) == 0) = false := beq_eq_false_iff_ne.2 (by omega)
          have ho2 : ((r.op : Int) == 2) = true := by simp [hop2]
          have HK := hide (show orKeep (fl.take (k + 1)) = orKeep (fl.take k) from by rw [HTK.out, if_pos (.inr hop2), List.append_nil])
          have HSS := hide (show andSet (fl.take (k + 1)) = andSet (fl.take k) &&& r.set from by rw [HTS.out, if_pos hop2])
          have HMM := hide (show met (fl.take (k + 1)) = true from by rw [HTM.out]; simp [hop2])
          clear hop0 hop2
          generalize andSet (fl.take k) = cs at *
          go_wp2
          rw [show Value.pointer (some ⟨p1, 0, none⟩) = PT p1 from rfl, show Value.pointer (some ⟨CB, 0, none⟩) = PT CB from rfl]
          obtain ⟨S, hSd⟩ : ∃ S : World → Prop, S = fun W => Below B1 w1 W := ⟨_, rfl⟩
          have hSb : ∀ W, S W → Below B1 w1 W := fun W h => by rw [hSd] at h; exact h
          have hbS : ∀ W, Below B1 w1 W → S W := fun W h => by rw [hSd]; exact h
          have hSr : ∀ W, S W → ReAt W p1 r := fun W h => HR0.out.keep (HB.out.trans ((hSb W h).mono hwB))
          have hA1 : AnyW w w1 B1 CB u3 ps cs { wr with drawn := wr.drawn + 1 } := ⟨HA.out.own, HA.out.elem, HA.out.box, ⟨HA.out.below.os, HA.out.below.tape, HA.out.below.output, HA.out.below.size, HA.out.below.block⟩⟩
          have hS := hbS _ hA1.below
          clear hSd
          refine wp_region_noPanic (wp_region_held (S := S) (by kernel_rfl) ?_)
          show wpAnyH _ _ _ _ _ 8 #[false, false, false, false, false, false, false, false] _ _
          generalize ({ wr with drawn := wr.drawn + 1 } : World) = W at hA1 hS ⊢
          refine h_take 1 (PT p1) rfl (by kernel_rfl) (by kernel_rfl) (by kernel_rfl) rfl (fun w hw => x_move _ _ _ _ _ _ _ _ rfl w) hS ?_
          simp only [Act.put, List.setIfInBounds_toArray, List.set_cons_succ, List.set_cons_zero]
          refine h_take 2 (PT p1) rfl (by kernel_rfl) (by kernel_rfl) (by kernel_rfl) rfl (fun w hw => x_nilCheck _ _ _ _ _ _ _ _ rfl w) hS ?_
          simp only [Act.put, List.setIfInBounds_toArray, List.set_cons_succ, List.set_cons_zero]
          refine h_take 3 (.pointer (some ⟨p1, 1, none⟩)) rfl (by kernel_rfl) (by kernel_rfl) (by kernel_rfl) rfl (fun w hw => x_field1 _ _ _ _ _ _ _ _ rfl w) hS ?_
          simp only [Act.put, List.setIfInBounds_toArray, List.set_cons_succ, List.set_cons_zero]
          refine h_take 4 (SV r.set) rfl (by kernel_rfl) (by kernel_rfl) (by kernel_rfl) rfl (fun w hw => x_loadAt _ _ _ _ _ _ _ _ _ _ rfl w (hSr w hw).cellS) hS ?_
          simp only [Act.put, List.setIfInBounds_toArray, List.set_cons_succ, List.set_cons_zero]
          refine h_alloc 0 (SV cs) W rfl (by kernel_rfl) rfl (x_loadSet _ _ _ _ _ _ _ _ cs rfl W hA1.box) hS ?_
          simp only [Act.put, List.setIfInBounds_toArray, List.set_cons_succ, List.set_cons_zero]
          refine h_callE 5 85 #[SV cs, SV r.set] (fun v w' => v = SV (cs &&& r.set) ∧ Below W.heap.size W w') rfl (by kernel_rfl) rfl (x_call2 _ _ _ _ _ _ _ _ _ _ _ _ _ rfl rfl rfl (enters_of Tryz.func85 (by kernel_rfl) rfl) _) ((and_any cs r.set _).mono fun e w' h => ⟨_, h.1, rfl, h.2⟩) (fun v w' h => hbS _ (hA1.step HB1.out h.2).below) ?_
          rintro v3 W3 ⟨rfl, hb3⟩
          simp only [Act.put, List.setIfInBounds_toArray, List.set_cons_succ, List.set_cons_zero]
          have hA3 := hA1.step HB1.out hb3
          have hA4 := hA3.store hBC (cs &&& r.set)
          refine h_step 6 (put4 W3 CB (cs &&& r.set)) rfl (by kernel_rfl) rfl (x_storeSet _ _ _ _ _ _ _ _ CB _ cs rfl rfl _ hA3.box) (hbS _ hA4.below) ?_
          simp only [Act.put, List.setIfInBounds_toArray, List.set_cons_succ, List.set_cons_zero]
          refine h_take 7 (.bool true) rfl (by kernel_rfl) (by kernel_rfl) (by kernel_rfl) rfl (fun w hw => x_assign _ _ _ _ _ _ _ _ rfl w) (hbS _ hA4.below) ?_
          simp only [Act.put, List.setIfInBounds_toArray, List.set_cons_succ, List.set_cons_zero]
          refine wpAnyH_done (by kernel_rfl) ?_ _
          refine NoPanic.normal ?_
          have HA4 := hide hA4
          clear hA1 hA3 hA4 hS hSb hbS hSr hb3
          unfold PT
          go_wp2
          exact ⟨⟨k + 1, ps, by omega, by go_num, by rw [HMM.out], HNF, HS.out.trans HK.out.symm, (show AnyW _ _ _ _ _ _ _ _ from by rw [HSS.out]; exact HA4.out)⟩, by simp [intOf]; omega⟩
        · have ho0 : ((r.op : Int) == 0) = false := beq_eq_false_iff_ne.2 (by omega)
          have ho2 : ((r.op : Int) == 2) = false := beq_eq_false_iff_ne.2 (by omega)
          have HK := hide (show orKeep (fl.take (k + 1)) = orKeep (fl.take k) ++ [r] from by rw [HTK.out, if_neg (by omega)])
          have HSS := hide (show andSet (fl.take (k + 1)) = andSet (fl.take k) from by rw [HTS.out, if_neg (by omega)])
          have HMM := hide (show met (fl.take (k + 1)) = mt from by rw [HTM.out]; simp [hop2])
          clear hop0 hop2
          have HA2 := hide (HA.out.step HB1.out ((Below.refl wr.heap.size wr).alloc (Nat.le_refl _) (.cells #[PT p1] 30)))
          have hnw := World.news_of_block (Blk.newAt (w := wr) rfl #[PT p1] 30)
          go_wp2_with (refine wpList_append_lies _ rfl _ _ _ rfl B1 _ i _ 1 8 Tryz.underlying59 hi hz0 hz1 hz2 rfl (by omega) _ _ _ rfl HA2.out.own _ 1 _ (ptrs [(p1, r)]) rfl rfl hnw (ptrs_one _) (by omega) (by unfold maxLen; omega) (by omega) (by simp; omega) _ rfl ?_; intro g cap' w4 hown hgrow hat hlt4)
          refine ⟨⟨k + 1, ps ++ [(p1, r)], by omega, by go_num, by rw [HMM.out], HNF, ?_, ?_⟩, by simp [intOf]; omega⟩
          · show (ps ++ [(p1, r)]).map Prod.snd = _
            rw [HK.out, List.map_append, HS.out]; rfl
          · show AnyW _ _ _ _ _ _ _ _
            rw [HSS.out]
            exact HA2.out.append HB1.out (fun p hp => by simp at hp; subst hp; exact HR0.out) hown hgrow
    · obtain rfl : k = fl.length := by omega
      rw [List.take_length] at *
      have hcon : Below w.heap.size w wr := HB.out.trans (HA.out.below.mono hwB)
      have c := HA.out.box
      have HCON := hide hcon
      have HEW : Hid (∀ p ∈ ps, WfK p.2) := fun p hp => (hwf p.2 (by
        have : p.2 ∈ ps.map Prod.snd := List.mem_map.2 ⟨p, hp, rfl⟩
        rw [HS.out] at this
        exact (List.mem_filter.1 this).1)).k
      generalize hcs : andSet fl = cs at *
      have HRN := hide (show res = if cs = 0#256 then rNothing else if (orKeep fl ++ if met fl = true then [rOne cs] else []) = [] then rMany (rOne allB) else rJoin 6 (ordL (orKeep fl ++ if met fl = true then [rOne cs] else [])) from by have := HRES.out; rw [if_neg (by rw [HN.out]; simp)] at this; exact this)
      generalize met fl = mt at *
      have c0 := c.cell 0; have c1 := c.cell 1; have c2 := c.cell 2; have c3 := c.cell 3
      simp only [List.getElem?_toArray, List.getElem?_cons_zero, List.getElem?_cons_succ] at c0 c1 c2 c3
      clear hcon c HRES hcs
      go_wp2_with fail
      refine (empty_any cs _).mono ?_
      rintro e w5 ⟨rfl, hb5⟩
      have HA5 := hide (HA.out.step HB1.out hb5)
      have HC5 := hide (HCON.out.trans (hb5.mono HCON.out.size))
      clear hb5 HA HCON c0 c1 c2 c3
      by_cases he : cs = 0#256
      · rw [show (cs == 0#256) = true from by simp [he]]
        have HRE := hide (show res = rNothing from by have := HRN.out; rw [if_pos he] at this; exact this)
        clear he HRN
        go_wp2_with fail
        refine (nothing_any _ (HR.out.fl.mono HC5.out.size)).mono ?_
        rintro e w6 ⟨b, rfl, h1, h2⟩
        go_wp2
        go_ret
        refine ⟨b, rfl, ?_, HC5.out.trans (h2.mono HC5.out.size)⟩
        rw [HRE.out]; exact h1
      · rw [show (cs == 0#256) = false from by simp [he]]
        have HR2 := hide (show res = if (orKeep fl ++ if mt = true then [rOne cs] else []) = [] then rMany (rOne allB) else rJoin 6 (ordL (orKeep fl ++ if mt = true then [rOne cs] else [])) from by have := HRN.out; rw [if_neg he] at this; exact this)
        clear he HRN
        cases mt
        · have HRE := hide (show res = if orKeep fl = [] then rMany (rOne allB) else rJoin 6 (ordL (orKeep fl)) from by have := HR2.out; simp only [Bool.false_eq_true, if_false, List.append_nil] at this; exact this)
          clear HR2
          obtain ⟨ado, lno, capo, hu⟩ : ∃ a n c, u3 = .slice a n c := by
            rcases HA5.out.own.2 with ⟨rfl, -⟩ | ⟨g, cap, cur, rfl, -⟩ <;> exact ⟨_, _, _, rfl⟩
          have hln : lno = ps.length := by
            rcases HA5.out.own.2 with ⟨e, hn⟩ | ⟨g, cap, cur, e, -⟩
            · rw [hu] at e; injection e with _ e _; rw [e, hn]
            · rw [hu] at e; injection e
          subst hu hln
          by_cases h0 : ps.length = 0
          · have h0d : ((ps.length : Int) == 0) = true := by simp [h0]
            have HE0 : Hid (orKeep fl = []) := by
              show orKeep fl = []
              rw [← HS.out, List.eq_nil_of_length_eq_zero h0]; rfl
            clear h0
            go_wp2_with fail
            refine (all_any _).mono ?_
            rintro e w6 ⟨rfl, hb6⟩
            have HC6 := hide (HC5.out.trans (hb6.mono HC5.out.size))
            clear hb6
            go_wp2_with fail
            refine (one_any allB _ (HR.out.fl.mono HC6.out.size)).mono ?_
            rintro e w7 ⟨ob, rfl, h7, hb7⟩
            have HC7 := hide (HC6.out.trans (hb7.mono HC6.out.size))
            have H7 := hide h7
            clear hb7 h7
            go_wp2_with fail
            refine (many_any ob _ _ H7.out).mono ?_
            rintro e w8 ⟨b, rfl, h1, h2⟩
            go_wp2
            go_ret
            refine ⟨b, rfl, ?_, HC7.out.trans (h2.mono HC7.out.size)⟩
            rw [HRE.out, if_pos HE0.out]; exact h1
          · have h0d : ((ps.length : Int) == 0) = false := beq_eq_false_iff_ne.2 (by omega)
            have h0' : ps ≠ [] := fun e => h0 (by rw [e]; rfl)
            have HE0 : Hid (¬ orKeep fl = []) := fun e => h0' (by have := HS.out; rw [e] at this; exact List.map_eq_nil_iff.1 this)
            obtain ⟨g, cap', c, hv, hg, hcap, hblk, hmk⟩ := HA5.out.own.ptrs (w := w) h0'
            injection hv with hv1 _ hv3
            subst hv1 hv3
            have hP := hmk fun p hp => ⟨wipe_old (HA5.out.elem p hp) HC5.out (by omega), HEW.out p hp⟩
            have hino := inOrder_any g capo ps w5 (HT.out.agree (Agree.of_all (K := fun _ => True) HC5.out) trivial) (by omega) (by omega) h0' hcap hP (HR.out.fl.mono HC5.out.size) (HR.out.fl.new (by omega))
            clear hmk h0
            go_wp2_with fail
            refine hino.mono ?_
            rintro e w6 ⟨v', rfl, hr6, e1, e2, e3, hs6, hk6⟩
            have HC6 := hide (show Below w.heap.size w w6 from ⟨e1.trans HC5.out.os, e2.trans HC5.out.tape, e3.trans HC5.out.output, Nat.le_trans HC5.out.size hs6, fun k hk => (hk6 k (by have := HC5.out.size; omega) (by omega)).trans (HC5.out.block k hk)⟩)
            rw [HS.out] at hr6
            have HR6 := hide hr6
            clear hr6 e1 e2 e3 hs6 hk6 hino hP
            go_wp2_with fail
            refine (join_any 6 _ _ _ (by omega) (by omega) HR6.out).mono ?_
            rintro e w7 ⟨b, rfl, h1, h2⟩
            go_wp2
            go_ret
            refine ⟨b, rfl, ?_, HC6.out.trans (h2.mono HC6.out.size)⟩
            rw [HRE.out, if_neg HE0.out]; exact h1
        · have HRE := hide (show res = rJoin 6 (ordL (orKeep fl ++ [rOne cs])) from by have := HR2.out; rw [if_pos rfl, if_neg (by simp)] at this; exact this)
          clear HR2
          have c := HA5.out.box
          have c0 := c.cell 0; have c1 := c.cell 1; have c2 := c.cell 2; have c3 := c.cell 3
          simp only [List.getElem?_toArray, List.getElem?_cons_zero, List.getElem?_cons_succ] at c0 c1 c2 c3
          clear c
          go_wp2_with fail
          refine (one_any cs _ (HR.out.fl.mono HC5.out.size)).mono ?_
          rintro e w6 ⟨ob, rfl, h6, hb6⟩
          have HA6 := hide (HA5.out.step HB1.out hb6)
          have HC6 := hide (HC5.out.trans (hb6.mono HC5.out.size))
          have H6 := hide h6
          clear h6 hb6 HA5 HC5 c0 c1 c2 c3
          have HA7 := hide (HA6.out.step HB1.out ((Below.refl w6.heap.size w6).alloc (Nat.le_refl _) (.cells #[PT ob] 30)))
          have HC7 := hide (HC6.out.alloc HC6.out.size (.cells #[PT ob] 30))
          have H7 := hide (H6.out.keep ((Below.refl w6.heap.size w6).alloc (Nat.le_refl _) (.cells #[PT ob] 30)))
          have hnw := World.news_of_block (Blk.newAt (w := w6) rfl #[PT ob] 30)
          have hB6 : B1 ≤ w6.heap.size := by rw [HB1.out]; exact HA6.out.below.size
          have hne1 : ((ps.length : Int) + 1 == 0) = false := beq_eq_false_iff_ne.2 (by omega)
          unfold PT
          go_wp2_with (refine wpList_append_lies _ rfl _ _ _ rfl B1 _ i _ 1 8 Tryz.underlying59 hi hz0 hz1 hz2 rfl (by omega) _ _ _ rfl HA7.out.own _ 1 _ (ptrs [(ob, rOne cs)]) rfl rfl hnw (ptrs_one _) (by omega) (by unfold maxLen; omega) (by omega) (by simp; omega) _ rfl ?_; intro g cap' w8 hown hgrow hat hlt8)
          have hO8 : OwnP w8 B1 (.slice (some ⟨g, 0, none⟩) (ps.length + 1) cap') (ps ++ [(ob, rOne cs)]) := by
            unfold OwnP
            rw [List.length_append, show ptrs (ps ++ [(ob, rOne cs)]) = ptrs ps ++ ptrs [(ob, rOne cs)] from by simp [ptrs]]
            exact hown
          have hC8 : Below w.heap.size w w8 := by
            have hb8 := below_grown HA7.out.below hgrow HA7.out.own (Nat.le_of_eq HB1.out)
            exact HB.out.trans (hb8.mono hwB)
          have hr8 : ReAt w8 ob (rOne cs) := HA7.out.own.leaf hgrow H7.out (rOne_kids cs)
          obtain ⟨g', cap'', c, hv, hg, hcap, hblk, hmk⟩ := hO8.ptrs (w := w) (by simp)
          have hgg : g = g' ∧ cap' = cap'' := by
            injection hv with h1 h2 h3
            injection h1 with h1
            injection h1 with h1
            exact ⟨h1, h3⟩
          obtain ⟨rfl, rfl⟩ := hgg
          clear hv
          have hP := hmk fun p hp => by
            rcases List.mem_append.1 hp with hp | hp
            · exact ⟨wipe_old (HA7.out.elem p hp) hC8 (by omega), HEW.out p hp⟩
            · simp at hp; subst hp
              exact ⟨wipe_leaf hr8 (rOne_kids cs) hblk, (wf_one cs).k⟩
          have hino := inOrder_any g cap' (ps ++ [(ob, rOne cs)]) w8 (HT.out.agree (Agree.of_all (K := fun _ => True) hC8) trivial) (by omega) (by simp; omega) (by simp) hcap hP (HR.out.fl.mono hC8.size) (HR.out.fl.new (by omega))
          rw [List.length_append] at hino
          have HC8 := hide hC8
          clear hmk hO8 hC8 hr8 hown hgrow hat hne1 hcap hblk hnw HA6 HC6 H6 HA7 HC7 H7 hlt8
          refine hino.mono ?_
          rintro e w9 ⟨v', rfl, hr9, e1, e2, e3, hs9, hk9⟩
          have HC9 := hide (show Below w.heap.size w w9 from ⟨e1.trans HC8.out.os, e2.trans HC8.out.tape, e3.trans HC8.out.output, Nat.le_trans HC8.out.size hs9, fun k hk => (hk9 k (by have := HC8.out.size; omega) (by omega)).trans (HC8.out.block k hk)⟩)
          rw [List.map_append, HS.out] at hr9
          have HR9 := hide hr9
          clear hr9 e1 e2 e3 hs9 hk9 hino hP
          go_wp2_with fail
          refine (join_any 6 _ _ _ (by omega) (by omega) HR9.out).mono ?_
          rintro e w10 ⟨b, rfl, h1, h2⟩
          go_wp2
          go_ret
          refine ⟨b, rfl, ?_, HC9.out.trans (h2.mono HC9.out.size)⟩
          rw [HRE.out]; exact h1
end Go.Proofs.YtjcfnmjjkadaeaaGreatDoor
/- With. -/
namespace Go.Proofs.YtjcfnmjjkadaeaaGreatDoor
set_option maxRecDepth 100000
set_option linter.unusedSimpArgs false
set_option linter.unusedVariables false
open Go.RowKit

def rWith (r : RE) (l : List RE) : RE :=
  if r.op = 3 then rThen l else if r.op = 4 then rAny l else if r.op = 6 then rBoth l else if r.op = 5 ∧ l.length = 1 then rMany (l.getD 0 rNothing) else if r.op = 7 ∧ l.length = 2 then rBut (l.getD 0 rNothing) (l.getD 1 rNothing) else r

set_option maxHeartbeats 1000000 in
theorem with_any [Forb] (b : Nat) (r : RE) (l : List RE) (v : Value) (w : World) (h : ReAt w b r) (hl : ResRow w v l) (hw : ∀ x ∈ l, Wf x) (h0 : l.length ≤ 1099511627776) (h3 : (catL l).length ≤ 1099511627776) (h4 : (flatL 4 l).length ≤ 1099511627776) (h6 : (flatL 6 l).length ≤ 1099511627776) (hT : TabAt w) :
    Calls Tryz.prog 105 #[PT b, v] w fun e w' => ∃ c, e = .returned (PT c) ∧ ReAt w' c (rWith r l) ∧ Below w.heap.size w w' := by
  have c0 := h.cell0
  obtain ⟨res, hres⟩ : ∃ res, res = rWith r l := ⟨_, rfl⟩
  rw [← hres]
  unfold rWith at hres
  have HRES := hide hres
  have HR := hide h
  have HL := hide hl
  have HT := hide hT
  obtain ⟨hn, ad, cap, rfl, hc⟩ := hl.at
  clear hres h hl hT
  unfold PT
  by_cases e3 : r.op = 3
  · have f3 : ((r.op : Int) == 3) = true := by simp [e3]
    have HX := hide (show res = rThen l from by have := HRES.out; rw [if_pos e3] at this; exact this)
    clear e3 hc
    go_enter Tryz.func105, Tryz.ntmps105
    go_wp2_with fail
    refine (then_any l _ w HL.out hw h0 h3).mono ?_
    rintro e w1 ⟨c, rfl, h1, h2⟩
    go_wp2
    go_ret
    exact ⟨c, rfl, by rw [HX.out]; exact h1, h2⟩
  · have f3 : ((r.op : Int) == 3) = false := beq_eq_false_iff_ne.2 (by omega)
    by_cases e4 : r.op = 4
    · have f4 : ((r.op : Int) == 4) = true := by simp [e4]
      have HX := hide (show res = rAny l from by have := HRES.out; rw [if_neg e3, if_pos e4] at this; exact this)
      clear e3 e4 hc
      go_enter Tryz.func105, Tryz.ntmps105
      go_wp2_with fail
      refine (any_re l _ w HL.out hw h0 h4 HT.out).mono ?_
      rintro e w1 ⟨c, rfl, h1, h2⟩
      go_wp2
      go_ret
      exact ⟨c, rfl, by rw [HX.out]; exact h1, h2⟩
    · have f4 : ((r.op : Int) == 4) = false := beq_eq_false_iff_ne.2 (by omega)
      by_cases e6 : r.op = 6
      · have f6 : ((r.op : Int) == 6) = true := by simp [e6]
        have HX := hide (show res = rBoth l from by have := HRES.out; rw [if_neg e3, if_neg e4, if_pos e6] at this; exact this)
        clear e3 e4 e6 hc
        go_enter Tryz.func105, Tryz.ntmps105
        go_wp2_with fail
        refine (both_re l _ w HL.out hw h0 h6 HT.out).mono ?_
        rintro e w1 ⟨c, rfl, h1, h2⟩
        go_wp2
        go_ret
        exact ⟨c, rfl, by rw [HX.out]; exact h1, h2⟩
      · have f6 : ((r.op : Int) == 6) = false := beq_eq_false_iff_ne.2 (by omega)
        by_cases e5 : r.op = 5 ∧ l.length = 1
        · have f5 : ((r.op : Int) == 5) = true := by simp [e5.1]
          have f5' : ((l.length : Int) == 1) = true := by simp [e5.2]
          have HX := hide (show res = rMany (l.getD 0 rNothing) from by have := HRES.out; rw [if_neg e3, if_neg e4, if_neg e6, if_pos e5] at this; exact this)
          have hl1 := e5.2
          match l, hl1 with
          | [x], _ =>
          obtain ⟨bb, off, b0, rfl, -, d0, r0⟩ := hc 0 (by simp)
          rw [Nat.add_zero] at d0
          unfold PT at d0
          simp only [List.length_cons, List.length_nil] at *
          simp only [List.getElem_cons_zero] at r0
          have HX1 : Hid (res = rMany x) := HX.out
          have HR0 := hide r0
          clear e3 e4 e6 e5 hc r0 HX
          go_enter Tryz.func105, Tryz.ntmps105
          go_wp2_with fail
          refine (many_any b0 _ w HR0.out).mono ?_
          rintro e w1 ⟨c, rfl, h1, h2⟩
          go_wp2
          go_ret
          exact ⟨c, rfl, by rw [HX1.out]; exact h1, h2⟩
        · by_cases e7 : r.op = 7 ∧ l.length = 2
          · have f5 : ((r.op : Int) == 5) = false := beq_eq_false_iff_ne.2 (by omega)
            have f7 : ((r.op : Int) == 7) = true := by simp [e7.1]
            have f7' : ((l.length : Int) == 2) = true := by simp [e7.2]
            have HX := hide (show res = rBut (l.getD 0 rNothing) (l.getD 1 rNothing) from by have := HRES.out; rw [if_neg e3, if_neg e4, if_neg e6, if_neg e5, if_pos e7] at this; exact this)
            have hl2 := e7.2
            match l, hl2 with
            | [x, y], _ =>
            obtain ⟨bb, off, b0, rfl, -, d0, r0⟩ := hc 0 (by simp)
            obtain ⟨bb', off', b1, ee, -, d1, r1⟩ := hc 1 (by simp)
            cases ee
            simp only [List.length_cons, List.length_nil] at *
            simp only [List.getElem_cons_zero, List.getElem_cons_succ] at r0 r1
            have hxy : Hid (res = rBut x y) := HX.out
            have HR0 := hide r0
            have HR1 := hide r1
            have hwx := (hw x (by simp)).k
            have hwy := (hw y (by simp)).k
            clear e3 e4 e6 e5 e7 hc r0 r1 HX
            go_enter Tryz.func105, Tryz.ntmps105
            have HCA : Hid (∀ W, Below w.heap.size w W → W.cell? ⟨bb, off + 0, none⟩ = some (PT b0) ∧ W.cell? ⟨bb, off + 1, none⟩ = some (PT b1)) := fun W hb => by
              have hlt := World.block_lt_of_cell? _ _ d0
              exact ⟨(World.cell?_of_block (w := w) (hb.block _ hlt)).trans d0, (World.cell?_of_block (w := w) (hb.block _ (World.block_lt_of_cell? _ _ d1))).trans d1⟩
            go_wp2
            obtain ⟨S, hSd⟩ : ∃ S : World → Prop, S = fun W => Below w.heap.size w W := ⟨_, rfl⟩
            have hSb : ∀ W, S W → Below w.heap.size w W := fun W h => by rw [hSd] at h; exact h
            have hbS : ∀ W, Below w.heap.size w W → S W := fun W h => by rw [hSd]; exact h
            have hS : S { w with drawn := w.drawn + 1 } := hbS _ ⟨rfl, rfl, rfl, Nat.le_refl _, fun _ _ => rfl⟩
            clear hSd
            refine wp_region_noPanic (wp_region_held (S := S) (by kernel_rfl) ?_)
            show wpAnyH _ _ _ _ _ 8 #[false, false, false, false, false, false, false, false] _ _
            generalize ({ w with drawn := w.drawn + 1 } : World) = W at hS ⊢
            refine h_take 0 (.slice (some ⟨bb, off, none⟩) 2 cap) rfl (by kernel_rfl) (by kernel_rfl) (by kernel_rfl) rfl (fun w hw => x_move _ _ _ _ _ _ _ _ rfl w) hS ?_
            simp only [Act.put, List.setIfInBounds_toArray, List.set_cons_succ, List.set_cons_zero]
            refine h_take 1 (.pointer (some ⟨bb, off + 0, none⟩)) rfl (by kernel_rfl) (by kernel_rfl) (by kernel_rfl) rfl (fun w hw => x_idxP _ _ _ _ _ _ _ _ bb off 2 cap 0 rfl rfl (by omega) w) hS ?_
            simp only [Act.put, List.setIfInBounds_toArray, List.set_cons_succ, List.set_cons_zero]
            refine h_take 2 (PT b0) rfl (by kernel_rfl) (by kernel_rfl) (by kernel_rfl) rfl (fun w hw => x_loadP _ _ _ _ _ _ _ _ _ _ rfl w (HCA.out w (hSb w hw)).1) hS ?_
            simp only [Act.put, List.setIfInBounds_toArray, List.set_cons_succ, List.set_cons_zero]
            refine h_take 3 (.slice (some ⟨bb, off, none⟩) 2 cap) rfl (by kernel_rfl) (by kernel_rfl) (by kernel_rfl) rfl (fun w hw => x_move _ _ _ _ _ _ _ _ rfl w) hS ?_
            simp only [Act.put, List.setIfInBounds_toArray, List.set_cons_succ, List.set_cons_zero]
            refine h_take 4 (.pointer (some ⟨bb, off + 1, none⟩)) rfl (by kernel_rfl) (by kernel_rfl) (by kernel_rfl) rfl (fun w hw => x_idxP _ _ _ _ _ _ _ _ bb off 2 cap 1 rfl rfl (by omega) w) hS ?_
            simp only [Act.put, List.setIfInBounds_toArray, List.set_cons_succ, List.set_cons_zero]
            refine h_take 5 (PT b1) rfl (by kernel_rfl) (by kernel_rfl) (by kernel_rfl) rfl (fun w hw => x_loadP _ _ _ _ _ _ _ _ _ _ rfl w (HCA.out w (hSb w hw)).2) hS ?_
            simp only [Act.put, List.setIfInBounds_toArray, List.set_cons_succ, List.set_cons_zero]
            refine h_callE 6 53 #[PT b0, PT b1] (fun v w' => ∃ c, v = PT c ∧ ReAt w' c (rBut x y) ∧ Below w.heap.size w w') rfl (by kernel_rfl) rfl (x_call2 _ _ _ _ _ _ _ _ _ _ _ _ _ rfl rfl rfl (enters_of Tryz.func53 (by kernel_rfl) rfl) _) ((but_any b0 b1 x y W (HR0.out.keep (hSb _ hS)) (HR1.out.keep (hSb _ hS)) hwx hwy (HT.out.agree (Agree.of_all (K := fun _ => True) (hSb _ hS)) trivial)).mono fun e w' ⟨c, h1, h2, h3⟩ => ⟨_, h1, c, rfl, h2, (hSb _ hS).trans (h3.mono (hSb _ hS).size)⟩) (fun v w' ⟨c, _, _, h⟩ => hbS _ h) ?_
            rintro v4 W4 ⟨c, rfl, h4, hb4⟩
            simp only [Act.put, List.setIfInBounds_toArray, List.set_cons_succ, List.set_cons_zero]
            have hS4 := hbS _ hb4
            refine h_take 7 (PT c) rfl (by kernel_rfl) (by kernel_rfl) (by kernel_rfl) rfl (fun w hw => x_assign _ _ _ _ _ _ _ _ rfl w) hS4 ?_
            simp only [Act.put, List.setIfInBounds_toArray, List.set_cons_succ, List.set_cons_zero]
            refine wpAnyH_done (by kernel_rfl) ?_ _
            refine NoPanic.normal ?_
            have H4 := hide h4
            have HB4 := hide hb4
            clear hS hSb hbS h4 hb4 hS4
            go_wp2
            go_ret
            exact ⟨c, rfl, by rw [hxy.out]; exact H4.out, HB4.out⟩
          · have HX := hide (show res = r from by have := HRES.out; rw [if_neg e3, if_neg e4, if_neg e6, if_neg e5, if_neg e7] at this; exact this)
            have hgo : ∀ (P : Prop), (((r.op : Int) == 5) = true → ((l.length : Int) == 1) = false → ((r.op : Int) == 7) = false → P) → (((r.op : Int) == 5) = false → ((r.op : Int) == 7) = true → ((l.length : Int) == 2) = false → P) → (((r.op : Int) == 5) = false → ((r.op : Int) == 7) = false → P) → P := fun P h1 h2 h3 => by
              by_cases e : r.op = 5
              · exact h1 (by simp [e]) (beq_eq_false_iff_ne.2 (by omega)) (beq_eq_false_iff_ne.2 (by omega))
              · by_cases e' : r.op = 7
                · exact h2 (beq_eq_false_iff_ne.2 (by omega)) (by simp [e']) (beq_eq_false_iff_ne.2 (by omega))
                · exact h3 (beq_eq_false_iff_ne.2 (by omega)) (beq_eq_false_iff_ne.2 (by omega))
            clear e3 e4 e6 e5 e7 hc
            refine hgo _ (fun f5 f5' f7 => ?_) (fun f5 f7 f7' => ?_) (fun f5 f7 => ?_)
            all_goals
              clear hgo
              go_enter Tryz.func105, Tryz.ntmps105
              go_wp2
              go_ret
              exact ⟨b, rfl, by rw [HX.out]; exact HR.out, Below.refl _ _⟩
end Go.Proofs.YtjcfnmjjkadaeaaGreatDoor
/- Word. -/
namespace Go.Proofs.YtjcfnmjjkadaeaaGreatDoor
set_option maxRecDepth 100000
set_option linter.unusedSimpArgs false
set_option linter.unusedVariables false
open Go.RowKit

/-- A text's bytes. -/
def bytesN (s : ByteArray) : List Nat := s.data.toList.map UInt8.toNat
def rLetter (c : Nat) : RE := rOne (setOf [c])
def rWord (t : List Nat) : RE := rThen (t.map rLetter)
theorem ReAt.leafAt [Forb] {W W' : World} {b : Nat} {r : RE} (h : ReAt W b r) (hk : r.kids = []) (hb : W'.heap[b]? = W.heap[b]?) (hfl : FL W'.heap.size) : ReAt W' b r := by
  obtain ⟨v, hB, hrow⟩ := h.row
  rw [r.eta] at hB ⊢
  rw [hk] at hrow hB ⊢
  obtain ⟨-, a, cap, rfl, -⟩ := hrow.at
  exact ReAt.ofRow (v := .slice a ([] : List RE).length cap) (hb.trans hB) ⟨fun _ => 0, ⟨⟨by simp, .zero hfl⟩, a, cap, rfl, fun k hk => by simp at hk⟩, fun i k hk => by simp at hk⟩
/-- What Word keeps: its row, filled so far. -/
structure WordW [Forb] (w : World) (g n : Nat) (ps : List (Nat × RE)) (W : World) : Prop where
  row : ∃ c : Array Value, Blk W g c 30 ∧ c.size = n ∧ ∀ (j : Nat) (p : Nat × RE), ps[j]? = some p → c[j]? = some (PT p.1)
  leaf : ∀ p ∈ ps, ReAt W p.1 p.2 ∧ p.2.kids = []
  below : Below w.heap.size w W
theorem WordW.step [Forb] {w W W' : World} {g n : Nat} {ps : List (Nat × RE)} (h : WordW w g n ps W) (hb : Below W.heap.size W W') : WordW w g n ps W' := by
  obtain ⟨⟨c, h1, h2⟩, h3, h4⟩ := h
  exact ⟨⟨c, h1.below hb h1.lt, h2⟩, fun p hp => ⟨(h3 p hp).1.keep hb, (h3 p hp).2⟩, h4.trans (hb.mono h4.size)⟩
theorem WordW.store [Forb] {w W : World} {g n b : Nat} {ps : List (Nat × RE)} {r : RE} (h : WordW w g n ps W) (hg : w.heap.size ≤ g) (hr : ReAt W b r) (hk : r.kids = []) (hl : ps.length < n) : WordW w g n (ps ++ [(b, r)]) (W.setCell ⟨g, ps.length, none⟩ (PT b)) := by
  obtain ⟨⟨c, h1, h2, h2'⟩, h3, h4⟩ := h
  have hne : ∀ {b' : Nat} {r' : RE}, ReAt W b' r' → b' ≠ g := fun hr' => by
    obtain ⟨v, hB, -⟩ := hr'.row
    rintro rfl
    have e := hB.of_cells.symm.trans h1.of_cells
    injection e with e; injection e with _ e2
    exact absurd e2 (by decide)
  refine ⟨⟨_, h1.set ps.length (PT b), by simpa using h2, fun j p hp => ?_⟩, fun p hp => ?_, h4.setCell hg _⟩
  · by_cases e : j = ps.length
    · subst e
      rw [List.getElem?_append_right (Nat.le_refl _)] at hp
      simp at hp
      rw [Array.getElem?_setIfInBounds_self_of_lt (by omega), ← hp]
    · have hj : j < ps.length := by
        have := (List.getElem?_eq_some_iff.1 hp).1
        simp at this; omega
      rw [List.getElem?_append_left hj] at hp
      rw [Array.getElem?_setIfInBounds_ne (by omega)]
      exact h2' j p hp
  · rcases List.mem_append.1 hp with hp | hp
    · exact ⟨(h3 p hp).1.leafAt (h3 p hp).2 (Below.heap_setCell _ _ _ _ (hne (h3 p hp).1)) (hr.fl.mono (by simp [World.setCell])), (h3 p hp).2⟩
    · simp at hp; subst hp
      exact ⟨hr.leafAt hk (Below.heap_setCell _ _ _ _ (hne hr)) (hr.fl.mono (by simp [World.setCell])), hk⟩
theorem catL_letters (l : List RE) (h : ∀ r ∈ l, r.kids = []) : (catL l).length ≤ l.length := by
  induction l with
  | nil => simp [catL]
  | cons x r ih =>
    have h1 := ih (fun y hy => h y (by simp [hy]))
    have hx := h x (by simp)
    simp only [catL, List.flatMap_cons, List.length_append, List.length_cons] at *
    have : (catK x).length ≤ 1 := by
      unfold catK
      split
      · simp
      · split
        · rw [hx]; simp
        · simp
    omega

set_option maxHeartbeats 1000000 in
theorem word_any [Forb] (s : ByteArray) (w : World) (hs : s.size ≤ 1000000) (hf : FL w.heap.size) :
    Calls Tryz.prog 37 #[.string s] w fun e w' => ∃ b, e = .returned (PT b) ∧ ReAt w' b (rWord (bytesN s)) ∧ Below w.heap.size w w' := by
  obtain ⟨i, hi, hz0, hz1, hz2⟩ := info_parts infoP
  have HF := hide hf
  clear hf
  obtain ⟨n, hn⟩ : ∃ n, n = s.size := ⟨_, rfl⟩
  have hbl : (bytesN s).length = n := by rw [hn]; simp [bytesN]
  have hlt256 : ∀ x ∈ bytesN s, x < 256 := fun x hx => by
    obtain ⟨u, -, rfl⟩ := List.mem_map.1 hx
    exact u.toNat_lt
  go_enter Tryz.func37, Tryz.ntmps37
  go_wp2_with (refine wpList_make_full _ rfl _ _ _ rfl w.heap.size _ i _ 1 Tryz.underlying59 hi hz0 hz1 .i64 .i64 _ _ n rfl rfl (by rw [hn]) (by rw [hn]) (by rw [hz2]; omega) (by unfold maxLen; omega) (Nat.le_refl _) ?_; intro w1 ho1 hg1)
  obtain ⟨g, hg⟩ : ∃ g, g = w.heap.size := ⟨_, rfl⟩
  have hW0 : WordW w g n [] w1 := by
    have hb : Below w.heap.size w w1 := grown_none hg1
    rcases ho1.2 with ⟨e, -⟩ | ⟨g', cap, cur, e, h1, h2, h3, h4, h5, h6⟩
    · cases e
    · injection e with e1 e2 e3
      injection e1 with e1
      injection e1 with e1
      subst e1 e3
      refine ⟨⟨cur, ?_, by omega, fun j p hp => by simp at hp⟩, fun p hp => by simp at hp, hb⟩
      rw [hg]; exact h2
  rw [← hg]
  have HG := hide hg
  clear ho1 hg1 hg
  subst hn
  go_loopw [10] (fun c wr => ∃ (k : Nat) (ps : List (Nat × RE)), k ≤ s.size ∧ c = .int .i64 k ∧ Hid (ps.length = k) ∧ Hid (ps.map Prod.snd = ((bytesN s).take k).map rLetter) ∧ Hid (WordW w g s.size ps wr)) (fun c _ => s.size - (intOf c).toNat)
  case atStart => exact ⟨0, [], by omega, rfl, rfl, rfl, hW0⟩
  case round =>
    clear hW0
    obtain ⟨k, ps, hk, rfl, HL, HS, HW⟩ := hrel
    by_cases hlt : k < s.size
    · have hkd : decide (k < s.size) = true := by simp [hlt]
      have hks : k < s.size := hlt
      obtain ⟨c, hc⟩ : ∃ c : Nat, c = (s[k]'hks).toNat := ⟨_, rfl⟩
      have hidx := fun w => run_index_string (P := Tryz.prog) w 9 s .i64 (k : Int) Tryz.underlying9
      have hkk : (0 : Int) ≤ k ∧ (k : Int) < s.size := ⟨by omega, by omega⟩
      simp only [dif_pos hkk, Int.toNat_natCast] at hidx
      rw [← hc] at hidx
      have hc256 : c < 256 := by rw [hc]; exact UInt8.toNat_lt _
      have HBY : Hid ((bytesN s).take (k + 1) = (bytesN s).take k ++ [c]) := by
        show (bytesN s).take (k + 1) = _
        rw [List.take_succ_eq_append_getElem (by rw [hbl]; exact hlt)]
        congr 2
        rw [hc]; simp [bytesN]; rfl
      clear hc
      go_wp2_with fail
      have hb1 := (Below.refl wr.heap.size wr).alloc (Nat.le_refl _) (.cells #[.int .u8 c] 5)
      refine (of_any [c] (by simpa using hc256) _ (some ⟨wr.heap.size, 0, none⟩) 1 (fun q hq => by
        have hB := Blk.newAt (w := wr) rfl #[.int .u8 c] 5
        obtain rfl : q = 0 := by simp at hq; omega
        exact ⟨_, _, rfl, by simp, hB.cell 0⟩) (by simp)).mono ?_
      rintro e w2 ⟨rfl, hb2⟩
      have HW2 := hide ((HW.out.step hb1).step hb2)
      clear hb1 hb2
      go_wp2_with fail
      refine (one_any _ _ (HF.out.mono HW2.out.below.size)).mono ?_
      rintro e w3 ⟨ob, rfl, h3, hb3⟩
      have hW3 := HW2.out.step hb3
      obtain ⟨cc, kb, hcs, -⟩ := hW3.row
      have cK := kb.cell k
      have fK := kb.frozen k
      rw [Array.getElem?_eq_getElem (by omega)] at cK
      generalize cc[k] = old at cK
      have HST := hide (hW3.store (by rw [HG.out]; exact Nat.le_refl _) h3 (rOne_kids _) (by rw [HL.out]; exact hlt))
      have hkn2 : k < s.size := hlt
      clear hW3 h3 hb3 kb hcs HW2
      unfold PT
      go_wp2
      refine ⟨⟨k + 1, ps ++ [(ob, rOne (setOf [c]))], by omega, by go_num, ?_, ?_, ?_⟩, by simp [intOf]; omega⟩
      · show (ps ++ [_]).length = k + 1
        rw [List.length_append, HL.out]; rfl
      · show (ps ++ [_]).map Prod.snd = _
        rw [HBY.out, List.map_append, List.map_append, HS.out]; rfl
      · show WordW _ _ _ _ _
        have := HST.out
        rw [HL.out] at this
        exact this
    · obtain rfl : k = s.size := by omega
      have hS := HS.out
      rw [← hbl, List.take_length] at hS
      obtain ⟨c, hB, hcs, hcl⟩ := HW.out.row
      have hlp := HL.out
      have hrow : ResRow wr (.slice (some ⟨g, 0, none⟩) s.size s.size) (ps.map Prod.snd) := by
        refine RowAt.res (qs := ps) ⟨⟨by omega, .new (by omega) (HF.out.mono HW.out.below.size) HF.out (Nat.le_of_eq HG.out.symm)⟩, _, s.size, by rw [hlp], fun j p hp => ⟨g, 0, rfl, hB.lt, ?_⟩⟩ (fun p hp => (HW.out.leaf p hp).1)
        rw [Nat.zero_add, hB.cell]; exact hcl j p hp
      have hleaf : ∀ r ∈ ps.map Prod.snd, r.kids = [] := fun r hr => by
        obtain ⟨p, hp, rfl⟩ := List.mem_map.1 hr
        exact (HW.out.leaf p hp).2
      have hcat := catL_letters _ hleaf
      rw [List.length_map] at hcat
      have hwf : ∀ r ∈ ps.map Prod.snd, Wf r := fun r hr => by
        rw [hS] at hr
        obtain ⟨x, -, rfl⟩ := List.mem_map.1 hr
        exact wf_one _
      have hth := then_any (ps.map Prod.snd) _ wr hrow hwf (by simp; omega) (by omega)
      rw [hS] at hth
      have HTH := hide hth
      clear hS hB hcs hcl hrow hleaf hcat hwf hth
      go_wp2_with fail
      refine HTH.out.mono ?_
      rintro e w5 ⟨b, rfl, h1, h2⟩
      go_wp2
      go_ret
      exact ⟨b, rfl, h1, HW.out.below.trans (h2.mono HW.out.below.size)⟩
end Go.Proofs.YtjcfnmjjkadaeaaGreatDoor
/- Key. -/
namespace Go.Proofs.YtjcfnmjjkadaeaaGreatDoor
set_option maxRecDepth 100000
set_option linter.unusedSimpArgs false
set_option linter.unusedVariables false
open Go.RowKit

/-- append whose run is known. -/
theorem wpList_append_run {w w' : World} {ops : Array Oper} {rest : List Oper} {o : Oper} {a : Act} {Q : Exit → Act → World → Prop} (hg : o.guard = none) (s x : Operand) (t : TypeId)
    (hop : o.op = Op.call { callee := Callee.builtin Builtin.append, args := #[s, x], argTypes := #[t, t] }) (v u v' : Value) (hs : a.eval s = v) (hx : a.eval x = u)
    (hrun : (Builtin.append_ #[t, t] o.type #[v, u]).run Tryz.prog w = .ok v' w') (hK : wpList Tryz.prog ops Q rest (a.put o.dst v') w') : wpList Tryz.prog ops Q (o :: rest) a w := by
  refine wpList_plain hg fun K hK' => ?_
  unfold Oper.wp execOp
  simp only [hop, resolve, invoke, builtin, Sem.run_bind, Sem.run_pure, Result.andThen_ok, List.map_toArray, List.map_cons, List.map_nil, hs, hx, hrun]
  exact hK' _ _ hK
theorem OwnU.below_grown {N n : Nat} {w0 W W' : World} {v : Value} {xs : List Value} (h : Below N w0 W) (hg : W.grownBy W' v.ownBlock) (ho : OwnU W N v n xs) (hN : N ≤ w0.heap.size) : Below N w0 W' := by
  have hne : ∀ k, k < N → some k ≠ v.ownBlock := fun k hk e => by have := (ho.own_lt e.symm).1; omega
  exact ⟨hg.os.trans h.os, hg.tape.trans h.tape, hg.output.trans h.output, Nat.le_trans h.size hg.size, fun k hk => (hg.block k (by have := h.size; omega) (hne k hk)).trans (h.block k hk)⟩
theorem OwnU.slice {W : World} {N n : Nat} {v : Value} {xs : List Value} (h : OwnU W N v n xs) : ∃ a c, v = .slice a n c := by
  rcases h.2 with ⟨rfl, rfl⟩ | ⟨g, cap, cur, t, rfl, -⟩ <;> exact ⟨_, _, rfl⟩
theorem byteV_append (a b : List Nat) : byteV (a ++ b) = byteV a ++ byteV b := by simp [byteV]
theorem keysL_take (ks : List RE) (k : Nat) (h : k < ks.length) : keysL (ks.take (k + 1)) = keysL (ks.take k) ++ (ks[k]).key := by
  unfold keysL
  rw [List.take_succ_eq_append_getElem h, List.map_append, List.flatten_append]; simp
theorem keysL_le (ks : List RE) (k : Nat) : (keysL (ks.take k)).length ≤ (keysL ks).length := by
  have : keysL ks = keysL (ks.take k) ++ keysL (ks.drop k) := by
    unfold keysL
    rw [← List.flatten_append, ← List.map_append, List.take_append_drop]
  rw [this, List.length_append]; omega

set_option maxHeartbeats 2000000 in
theorem appendKey_any [Forb] (r : RE) : ∀ (b : Nat) (v : Value) (n N : Nat) (xs : List Value) (w0 w : World), WfK r → ReAt w0 b r → N = w0.heap.size → Below N w0 w → OwnU w N v n xs → n + r.key.length ≤ 1099511627776 → TabAt w0 →
    Calls Tryz.prog 77 #[PT b, v] w fun e w' => ∃ v', e = .returned v' ∧ OwnU w' N v' (n + r.key.length) (xs ++ byteV r.key) ∧ Below N w0 w' := by
  refine RE.ind (P := fun r => ∀ (b : Nat) (v : Value) (n N : Nat) (xs : List Value) (w0 w : World), WfK r → ReAt w0 b r → N = w0.heap.size → Below N w0 w → OwnU w N v n xs → n + r.key.length ≤ 1099511627776 → TabAt w0 →
    Calls Tryz.prog 77 #[PT b, v] w fun e w' => ∃ v', e = .returned v' ∧ OwnU w' N v' (n + r.key.length) (xs ++ byteV r.key) ∧ Below N w0 w') ?_ r
  intro o s ks ih b v n N xs w0 w hwf hb hN hW hO hlen hT
  obtain ⟨key, hkey⟩ : ∃ key, key = (RE.mk o s ks).key := ⟨_, rfl⟩
  rw [← hkey] at hlen ⊢
  rw [RE.key_mk] at hkey
  have hkl : key.length = 1 + ((if o = 2 then rnB (runsOf s) else []).length + ((keysL ks).length + 1)) := by rw [hkey]; simp; omega
  have ho7 : o ≤ 7 := by cases hwf; assumption
  have hkw := hwf.kid
  have hNw : N ≤ w.heap.size := by rw [hN]; exact hW.size
  have hG : 0 < N := by rw [hN]; exact World.block_lt_of_cell? _ _ (hT 0 (by omega))
  obtain ⟨a0, cp0, rfl⟩ := hO.slice
  have hbW := fun (W : World) (h : Below N w0 W) => hb.keep (w' := W) (hN ▸ h)
  have c0 := (hbW w hW).cell0
  simp only [RE.op] at c0
  obtain ⟨kv, kb, krow⟩ := hb.row
  have c5 : ∀ W, Below N w0 W → W.cell? ⟨b, 5, none⟩ = some kv := fun W h => by rw [(kb.below (hN ▸ h) kb.lt).cell]; rfl
  have HKEY := hide hkey
  have HT := hide hT
  have HW := hide hW
  have HO := hide hO
  have HBW := hide hbW
  have HC5 := hide c5
  have HKR := hide krow
  have HN := hide hN
  clear hkey hT hW hO hbW c5 krow kb hN hb hwf
  have hcv : IntKind.u8.wrap (o : Int) = o := by simp [IntKind.wrap, IntKind.signed, IntKind.bits]; omega
  have hcv2 : IntKind.u8.wrap (1 + (o : Int)) = ((o + 1 : Nat) : Int) := by simp [IntKind.wrap, IntKind.signed, IntKind.bits]; omega
  obtain ⟨W1, hW1⟩ : ∃ W1, W1 = w.alloc (.cells #[.int .u8 ((o + 1 : Nat) : Int)] 5) := ⟨_, rfl⟩
  have kn : Blk W1 w.heap.size #[.int .u8 ((o + 1 : Nat) : Int)] 5 := by rw [hW1]; exact Blk.newAt rfl _ _
  have hO1 : OwnU W1 N (.slice a0 n cp0) n xs := HO.out.keep fun g hg => by rw [hW1]; exact Below.heap_alloc _ _ _ (HO.out.own_lt hg).2
  have hB1 : Below N w0 W1 := by rw [hW1]; exact HW.out.alloc hNw _
  obtain ⟨v2, W2, hr2, hO2, hg2, -, -⟩ := run_appendU W1 38 N _ _ _ hO1 ⟨w.heap.size, 0, none⟩ 1 1 [.int .u8 ((o + 1 : Nat) : Int)] rfl (World.news_of_block kn) (by intro u hu; simp at hu; subst hu; rfl) (by omega) (by omega) (by rw [hW1]; simp; omega)
  have hB2 := OwnU.below_grown hB1 hg2 hO1 (Nat.le_of_eq HN.out)
  obtain ⟨a2, cp2, rfl⟩ := hO2.slice
  rw [hW1] at hr2
  have c02 := (HBW.out W2 hB2).cell0
  simp only [RE.op] at c02
  have HO2 := hide hO2
  have HB2 := hide hB2
  clear hW1 kn hO1 hB1 hg2 hO2 hB2
  unfold PT
  by_cases ho : o = 2
  · have ho2 : ((o : Int) == 2) = true := by simp [ho]
    obtain ⟨pre, hpre⟩ : ∃ pre, pre = (o + 1) :: rnB (runsOf s) := ⟨_, rfl⟩
    have HPK := hide (show key = pre ++ (keysL ks ++ [0]) from by rw [HKEY.out, if_pos ho, hpre]; rfl)
    have hrl := runs_le s
    have hpl : pre.length = 1 + 2 * (runsOf s).length := by rw [hpre]; simp [rnB_length]; omega
    have hpk : key.length = pre.length + (keysL ks).length + 1 := by rw [HPK.out]; simp; omega
    have HPL := hide hpl
    clear hpl
    have cS := (HBW.out W2 HB2.out).cellS
    have cs0 := cS 0 (by omega); have cs1 := cS 1 (by omega); have cs2 := cS 2 (by omega); have cs3 := cS 3 (by omega)
    simp only [RE.set] at cs0 cs1 cs2 cs3
    have hB2s : N ≤ W2.heap.size := by rw [HN.out]; exact HB2.out.size
    have hruns := appendRuns_any s _ _ N _ W2 HO2.out (by omega) hG hB2s (HT.out.agree (Agree.of_all (K := fun _ => True) (HN.out ▸ HB2.out)) trivial)
    have HRUN := hide hruns
    have HHO := hide hpre
    clear ho hruns cS hpre
    go_enter Tryz.func77, Tryz.ntmps77
    go_wp2_with (refine wpList_append_run rfl _ _ _ rfl _ _ _ rfl rfl hr2 ?_)
    refine HRUN.out.mono ?_
    rintro e W3 ⟨v3, rfl, h3, hg3, -, -⟩
    have HBP := hide (OwnU.below_grown HB2.out hg3 HO2.out (Nat.le_of_eq HN.out))
    have HOP : Hid (OwnU W3 N v3 (n + pre.length) (xs ++ byteV pre)) := by
      show OwnU W3 N v3 (n + pre.length) (xs ++ byteV pre)
      rw [show n + pre.length = n + 1 + 2 * (runsOf s).length from by have := HPL.out; omega, show xs ++ byteV pre = xs ++ [.int .u8 ((o + 1 : Nat) : Int)] ++ byteV (rnB (runsOf s)) from by rw [HHO.out]; simp [byteV]]
      exact h3
    have c53 := HC5.out W3 HBP.out
    clear h3 hg3 HRUN hr2 cs0 cs1 cs2 cs3 c02 c0
    obtain ⟨hkn, ka, kc, rfl, -⟩ := HKR.out.at
    go_wp2
    go_loopw [1, 35] (fun out c wr => ∃ (k : Nat), k ≤ ks.length ∧ c = .int .i64 k ∧ Hid (OwnU wr N out (n + pre.length + (keysL (ks.take k)).length) (xs ++ byteV pre ++ byteV (keysL (ks.take k)))) ∧ Hid (Below N w0 wr)) (fun _ c _ => ks.length - (intOf c).toNat)
    case atStart => exact ⟨0, by omega, rfl, (show OwnU _ _ _ _ _ from by simpa [keysL, byteV] using HOP.out), HBP⟩
    case round =>
      obtain ⟨k, hk, rfl, HOk, HBk⟩ := hrel
      obtain ⟨-, ka', kc', ke, kg⟩ := (HKR.out.below (show Below w0.heap.size w0 wr from HN.out ▸ HBk.out)).at
      obtain ⟨rfl, rfl⟩ : ka = ka' ∧ kc = kc' := by cases ke; exact ⟨rfl, rfl⟩
      obtain ⟨-, ka'', kc'', ke2, kg2⟩ := HKR.out.at
      obtain ⟨rfl, rfl⟩ : ka = ka'' ∧ kc = kc'' := by cases ke2; exact ⟨rfl, rfl⟩
      have hkle := keysL_le ks k
      have hNk : N ≤ wr.heap.size := by rw [HN.out]; exact HBk.out.size
      by_cases hlt : k < ks.length
      · have hkd : decide (k < ks.length) = true := by simp [hlt]
        obtain ⟨kb1, ko1, kp1, rfl, -, kd1, -⟩ := kg k hlt
        obtain ⟨kb2, ko2, kp2, ke3, -, kd2, kr2⟩ := kg2 k hlt
        cases ke3
        have hpp : kp1 = kp2 := by
          have hc := World.cell?_of_block (a := ⟨kb1, ko1 + k, none⟩) (HBk.out.block kb1 (by rw [HN.out]; exact World.block_lt_of_cell? _ _ kd2))
          rw [kd1, kd2] at hc
          simpa [PT] using hc
        subst hpp
        have HTK := hide (keysL_take ks k hlt)
        have hkle2 := keysL_le ks (k + 1)
        rw [HTK.out, List.length_append] at hkle2
        have hrec := ih _ (List.getElem_mem hlt) kp1 u1 (n + pre.length + (keysL (ks.take k)).length) N _ w0 wr (hkw _ (List.getElem_mem hlt)) kr2 HN.out HBk.out HOk.out (by omega) HT.out
        have HREC := hide hrec
        unfold PT at kd1
        clear hrec kg kg2 ke ke2 kd2 kr2
        go_wp2_with fail
        refine HREC.out.mono ?_
        rintro e w5 ⟨v5, rfl, h5, hb5⟩
        have H5 := hide h5
        have HB5 := hide hb5
        clear h5 hb5 HREC
        go_wp2
        refine ⟨⟨k + 1, by omega, by go_num, ?_, HB5⟩, by simp [intOf]; omega⟩
        show OwnU _ _ _ _ _
        rw [HTK.out, List.length_append, byteV_append, ← List.append_assoc, ← Nat.add_assoc]
        exact H5.out
      · obtain rfl : k = ks.length := by omega
        rw [List.take_length] at HOk
        obtain ⟨W6, hW6⟩ : ∃ W6, W6 = wr.alloc (.cells #[.int .u8 0] 5) := ⟨_, rfl⟩
        have kn6 : Blk W6 wr.heap.size #[.int .u8 0] 5 := by rw [hW6]; exact Blk.newAt rfl _ _
        have hO6 : OwnU W6 N u1 (n + pre.length + (keysL ks).length) (xs ++ byteV pre ++ byteV (keysL ks)) := HOk.out.keep fun g hg => by rw [hW6]; exact Below.heap_alloc _ _ _ (HOk.out.own_lt hg).2
        have hB6 : Below N w0 W6 := by rw [hW6]; exact HBk.out.alloc hNk _
        obtain ⟨v7, W7, hr7, hO7, hg7, -, -⟩ := run_appendU W6 38 N _ _ _ hO6 ⟨wr.heap.size, 0, none⟩ 1 1 [.int .u8 0] rfl (World.news_of_block kn6) (by intro u hu; simp at hu; subst hu; rfl) (by omega) (by omega) (by rw [hW6]; simp; omega)
        have hB7 := OwnU.below_grown hB6 hg7 hO6 (Nat.le_of_eq HN.out)
        obtain ⟨a7, cp7, rfl⟩ := hO7.slice
        obtain ⟨au, cu, hu⟩ := HOk.out.slice
        rw [hW6] at hr7
        rw [hu] at hr7
        subst hu
        have HO7 := hide hO7
        have HB7 := hide hB7
        clear hW6 kn6 hO6 hB6 hg7 hO7 hB7 kg kg2 ke ke2
        go_wp2_with (refine wpList_append_run rfl _ _ _ rfl _ _ _ rfl rfl hr7 ?_)
        go_ret
        refine ⟨_, rfl, ?_, HB7.out⟩
        have h7 := HO7.out
        have e1 : n + key.length = n + pre.length + (keysL ks).length + 1 := by rw [HPK.out]; simp; omega
        have e2 : xs ++ byteV key = xs ++ byteV pre ++ byteV (keysL ks) ++ [.int .u8 0] := by rw [HPK.out]; simp [byteV]
        rw [e1, e2]
        exact h7
  · have ho2 : ((o : Int) == 2) = false := beq_eq_false_iff_ne.2 (by omega)
    obtain ⟨pre, hpre⟩ : ∃ pre : List Nat, pre = [o + 1] := ⟨_, rfl⟩
    have HPK := hide (show key = pre ++ (keysL ks ++ [0]) from by rw [HKEY.out, if_neg ho, hpre]; rfl)
    have hpl : pre.length = 1 := by rw [hpre]; rfl
    have hpk : key.length = pre.length + (keysL ks).length + 1 := by rw [HPK.out]; simp; omega
    have HHO := hide hpre
    have HBP := HB2
    have HOP : Hid (OwnU W2 N (.slice a2 (n + 1) cp2) (n + pre.length) (xs ++ byteV pre)) := by
      show OwnU W2 N (.slice a2 (n + 1) cp2) (n + pre.length) (xs ++ byteV pre)
      rw [hpl, HHO.out]
      exact HO2.out
    have c53 := HC5.out W2 HBP.out
    clear ho hpre hpl
    go_enter Tryz.func77, Tryz.ntmps77
    obtain ⟨hkn, ka, kc, rfl, -⟩ := HKR.out.at
    go_wp2_with (refine wpList_append_run rfl _ _ _ rfl _ _ _ rfl rfl hr2 ?_)
    go_loopw [1, 35] (fun out c wr => ∃ (k : Nat), k ≤ ks.length ∧ c = .int .i64 k ∧ Hid (OwnU wr N out (n + pre.length + (keysL (ks.take k)).length) (xs ++ byteV pre ++ byteV (keysL (ks.take k)))) ∧ Hid (Below N w0 wr)) (fun _ c _ => ks.length - (intOf c).toNat)
    case atStart => exact ⟨0, by omega, rfl, (show OwnU _ _ _ _ _ from by simpa [keysL, byteV] using HOP.out), HBP⟩
    case round =>
      obtain ⟨k, hk, rfl, HOk, HBk⟩ := hrel
      obtain ⟨-, ka', kc', ke, kg⟩ := (HKR.out.below (show Below w0.heap.size w0 wr from HN.out ▸ HBk.out)).at
      obtain ⟨rfl, rfl⟩ : ka = ka' ∧ kc = kc' := by cases ke; exact ⟨rfl, rfl⟩
      obtain ⟨-, ka'', kc'', ke2, kg2⟩ := HKR.out.at
      obtain ⟨rfl, rfl⟩ : ka = ka'' ∧ kc = kc'' := by cases ke2; exact ⟨rfl, rfl⟩
      have hkle := keysL_le ks k
      have hNk : N ≤ wr.heap.size := by rw [HN.out]; exact HBk.out.size
      by_cases hlt : k < ks.length
      · have hkd : decide (k < ks.length) = true := by simp [hlt]
        obtain ⟨kb1, ko1, kp1, rfl, -, kd1, -⟩ := kg k hlt
        obtain ⟨kb2, ko2, kp2, ke3, -, kd2, kr2⟩ := kg2 k hlt
        cases ke3
        have hpp : kp1 = kp2 := by
          have hc := World.cell?_of_block (a := ⟨kb1, ko1 + k, none⟩) (HBk.out.block kb1 (by rw [HN.out]; exact World.block_lt_of_cell? _ _ kd2))
          rw [kd1, kd2] at hc
          simpa [PT] using hc
        subst hpp
        have HTK := hide (keysL_take ks k hlt)
        have hkle2 := keysL_le ks (k + 1)
        rw [HTK.out, List.length_append] at hkle2
        have hrec := ih _ (List.getElem_mem hlt) kp1 u1 (n + pre.length + (keysL (ks.take k)).length) N _ w0 wr (hkw _ (List.getElem_mem hlt)) kr2 HN.out HBk.out HOk.out (by omega) HT.out
        have HREC := hide hrec
        unfold PT at kd1
        clear hrec kg kg2 ke ke2 kd2 kr2
        go_wp2_with fail
        refine HREC.out.mono ?_
        rintro e w5 ⟨v5, rfl, h5, hb5⟩
        have H5 := hide h5
        have HB5 := hide hb5
        clear h5 hb5 HREC
        go_wp2
        refine ⟨⟨k + 1, by omega, by go_num, ?_, HB5⟩, by simp [intOf]; omega⟩
        show OwnU _ _ _ _ _
        rw [HTK.out, List.length_append, byteV_append, ← List.append_assoc, ← Nat.add_assoc]
        exact H5.out
      · obtain rfl : k = ks.length := by omega
        rw [List.take_length] at HOk
        obtain ⟨W6, hW6⟩ : ∃ W6, W6 = wr.alloc (.cells #[.int .u8 0] 5) := ⟨_, rfl⟩
        have kn6 : Blk W6 wr.heap.size #[.int .u8 0] 5 := by rw [hW6]; exact Blk.newAt rfl _ _
        have hO6 : OwnU W6 N u1 (n + pre.length + (keysL ks).length) (xs ++ byteV pre ++ byteV (keysL ks)) := HOk.out.keep fun g hg => by rw [hW6]; exact Below.heap_alloc _ _ _ (HOk.out.own_lt hg).2
        have hB6 : Below N w0 W6 := by rw [hW6]; exact HBk.out.alloc hNk _
        obtain ⟨v7, W7, hr7, hO7, hg7, -, -⟩ := run_appendU W6 38 N _ _ _ hO6 ⟨wr.heap.size, 0, none⟩ 1 1 [.int .u8 0] rfl (World.news_of_block kn6) (by intro u hu; simp at hu; subst hu; rfl) (by omega) (by omega) (by rw [hW6]; simp; omega)
        have hB7 := OwnU.below_grown hB6 hg7 hO6 (Nat.le_of_eq HN.out)
        obtain ⟨a7, cp7, rfl⟩ := hO7.slice
        obtain ⟨au, cu, hu⟩ := HOk.out.slice
        rw [hW6] at hr7
        rw [hu] at hr7
        subst hu
        have HO7 := hide hO7
        have HB7 := hide hB7
        clear hW6 kn6 hO6 hB6 hg7 hO7 hB7 kg kg2 ke ke2
        go_wp2_with (refine wpList_append_run rfl _ _ _ rfl _ _ _ rfl rfl hr7 ?_)
        go_ret
        refine ⟨_, rfl, ?_, HB7.out⟩
        have h7 := HO7.out
        have e1 : n + key.length = n + pre.length + (keysL ks).length + 1 := by rw [HPK.out]; simp; omega
        have e2 : xs ++ byteV key = xs ++ byteV pre ++ byteV (keysL ks) ++ [.int .u8 0] := by rw [HPK.out]; simp [byteV]
        rw [e1, e2]
        exact h7

/-- A text of these bytes. -/
def strB (l : List Nat) : ByteArray := strOfNums (l.map fun x : Nat => (x : Int))
theorem key_lt256 (r : RE) : WfK r → ∀ x ∈ r.key, x < 256 := by
  refine RE.ind (P := fun r => WfK r → ∀ x ∈ r.key, x < 256) ?_ r
  intro o s ks ih hw x hx
  rw [RE.key_mk] at hx
  have ho : o ≤ 7 := by cases hw; assumption
  simp only [List.mem_cons, List.mem_append] at hx
  rcases hx with rfl | hx | hx | rfl | hx
  · omega
  · split at hx
    · exact rnB_lt s x hx
    · simp at hx
  · obtain ⟨l, hl, hx⟩ := List.mem_flatten.1 hx
    obtain ⟨k, hk, rfl⟩ := List.mem_map.1 hl
    exact ih k hk (hw.kid k hk) x hx
  · omega
  · simp at hx
theorem strB_inj {a b : List Nat} (ha : ∀ x ∈ a, x < 256) (hb : ∀ x ∈ b, x < 256) (h : strB a = strB b) : a = b := by
  have h1 := congrArg (fun s : ByteArray => s.data.toList.map UInt8.toNat) h
  simp only [strB, strOfNums, List.map_map, Function.comp_def, Int.toNat_natCast] at h1
  have e : ∀ l : List Nat, (∀ x ∈ l, x < 256) → l.map (fun x => (UInt8.ofNat x).toNat) = l := fun l hl => by
    have : l.map (fun x => (UInt8.ofNat x).toNat) = l.map id := List.map_congr_left fun x hx => by
      have := hl x hx
      simp; omega
    rw [this, List.map_id]
  rw [e a ha, e b hb] at h1
  exact h1
set_option maxHeartbeats 1000000 in
theorem key_any [Forb] (r : RE) (b : Nat) (w : World) (hw : WfK r) (h : ReAt w b r) (hl : r.key.length ≤ 1099511627776) (hT : TabAt w) :
    Calls Tryz.prog 41 #[PT b] w fun e w' => e = .returned (.string (strB r.key)) ∧ Below w.heap.size w w' := by
  have hk := appendKey_any r b (.slice none 0 0) 0 w.heap.size [] w w hw h rfl (Below.refl _ _) ⟨rfl, .inl ⟨rfl, rfl⟩⟩ (by omega) hT
  have HK := hide hk
  clear hk
  go_enter Tryz.func41, Tryz.ntmps41
  go_wp2_with fail
  refine HK.out.mono ?_
  rintro e w1 ⟨v, rfl, ho, hb⟩
  rw [List.nil_append, Nat.zero_add] at ho
  have HB := hide hb
  clear hb HK
  have hcv : (convert 38 9 v).run Tryz.prog w1 = .ok (.string (strB r.key)) w1 := by
    rcases ho.2 with ⟨-, hn⟩ | ⟨g, cap, cur, t, rfl, -⟩
    · exfalso
      cases r
      rw [RE.key_mk] at hn
      simp at hn
    · refine run_convert_bytes_arg _ 38 5 Tryz.underlying38 Tryz.underlying5 g 0 _ cap (r.key.map fun x : Nat => (x : Int)) (by simp) (fun i hi => ?_) 9 Tryz.underlying9
      rw [Nat.zero_add]
      refine ho.cells i _ ?_
      simp [byteV, List.getD_eq_getElem?_getD, hi]
  obtain ⟨a, c, rfl⟩ := ho.slice
  go_wp2
  go_ret
  exact ⟨rfl, HB.out⟩
end Go.Proofs.YtjcfnmjjkadaeaaGreatDoor
