/- The walk of CommandMany. -/
import Derived.Test.YtnfobnnbeefeeaaGreatDoorFS
namespace Go.Proofs.YtnfobnnbeefeeaaGreatDoor.Wi
open Go Go.RowKit
set_option linter.unusedVariables false
set_option linter.unusedSimpArgs false
def MLoop (w : World) (g n : Nat) (i : Value) (wr : World) : Prop := ∃ k : Nat, i = .int .i64 (k : Int) ∧ k ≤ n ∧ RowL wr g (mlC n k) ∧ Below w.heap.size w wr
set_option maxHeartbeats 8000000 in
set_option maxRecDepth 100000 in
theorem cmany_any (z e : Int) (hz : -9223372036854775808 ≤ z ∧ z ≤ 9223372036854775807) (he : -9223372036854775808 ≤ e ∧ e ≤ 9223372036854775807) (w : World) (hg : CB w.heap.size w) :
    Calls Tryz.prog 6 #[.int .i64 z, .int .i64 e] w fun r w' => r = .returned (.bool true) ∧ Below w.heap.size w w' := by
  have CH := Lib.hid (wants_any w hg)
  have G := Lib.hid hg
  clear hg
  go_enter Tryz.func6, Tryz.ntmps6
  go_wp2_with fail
  refine CH.out.mono ?_
  rintro r w2 ⟨rfl, hb2⟩
  have B2 := Lib.hid hb2
  clear hb2
  by_cases h0 : z < 0
  · go_wp2_with fail
    go_ret
    exact ⟨rfl, B2.out⟩
  by_cases h1 : 300 < z
  · go_wp2_with fail
    go_ret
    exact ⟨rfl, B2.out⟩
  obtain ⟨n, rfl⟩ : ∃ n : Nat, z = (n : Int) := ⟨z.toNat, by omega⟩
  have hn : n ≤ 300 := by omega
  have mk := make_cmds n hn w2
  have HN := Lib.hid hn
  go_upto_region 6 with fail
  obtain ⟨g, hgg⟩ : ∃ g, g = w2.heap.size := ⟨_, rfl⟩
  obtain ⟨w3, hw3⟩ : ∃ w3, w3 = w2.alloc (.cells (ccs (mlC n 0)).toArray 42) := ⟨_, rfl⟩
  rw [← hgg, ← hw3]
  have R0 := Lib.hid (show MLoop w g n (.int .i64 0) w3 from ⟨0, rfl, Nat.zero_le _, by rw [hw3, hgg]; exact heap_alloc_new _ _, by rw [hw3]; exact B2.out.alloc B2.out.size _⟩)
  have HGW := Lib.hid (show w.heap.size ≤ g by rw [hgg]; exact B2.out.size)
  clear hw3 hgg mk
  go_wp2_with fail
  go_loopw [24] (fun i wr => MLoop w g n i wr) (fun i _ => n - (intOf i).toNat)
  case atStart => exact R0.out
  case round =>
    obtain ⟨wq, rfl⟩ : ∃ wq : World, wq = wr := ⟨_, rfl⟩
    obtain ⟨k, rfl, hk, hr, hb⟩ := hrel
    have q0 : (0 : Int) ≤ (k : Int) := by omega
    by_cases hkn : k < n
    · have q1 : (k : Int) < (n : Int) := by omega
      have TH := Lib.hid (hr.there (i := k) (by rw [mlC_len]; exact hkn) (cT k))
      have SZ := Lib.hid (Tryz.cmSize' (cT k))
      have END := Lib.hid (show MLoop w g n (.int .i64 ((k : Int) + 1)) (wq.setCells g (k * 9) (cT k).cells) from by
        refine ⟨k + 1, rfl, hkn, ?_, setCells_belowC g HGW.out _ _ hb⟩
        have := hr.set (i := k) (by rw [mlC_len]; exact hkn) (cT k)
        rwa [mlC_set hkn] at this)
      clear hr hb R0
      go_wp2_with (with_reducible show wpList _ _ _ _ _ _; refine wpList_store_mid rfl 42 (.tmp 31) (.tmp 30) rfl g (k * 9) (cT k).cells.toArray rfl rfl TH.out SZ.out (cT k).cells_one ?_)
      exact ⟨END.out, by simp [intOf]; omega⟩
    · obtain rfl : k = n := by omega
      have HR := Lib.hid hr
      have HB := Lib.hid hb
      clear hr hb R0
      go_upto_if 34 with fail
      go_cut [7] (fun s wx => ∃ l : List Cm, l.length = k ∧ s = .int .i64 (allE l) ∧ (∀ x ∈ l, x.At wx.heap.size wx) ∧ RowL wx g l ∧ Below w.heap.size w wx)
      case first =>
        by_cases h256 : 256 < k
        · have q1 : (256 : Int) < (k : Int) := by omega
          have RL := Lib.hid (show ∃ l : List Cm, l.length = k ∧ (.int .i64 2 : Value) = .int .i64 (allE l) ∧ (∀ x ∈ l, x.At wq.heap.size wq) ∧ RowL wq g l ∧ Below w.heap.size w wq from
            ⟨mlC k k, mlC_len k k, by rw [allE_ml HN.out, if_pos h256], ml_at HN.out _ _, HR.out, HB.out⟩)
          go_wp2_with fail
          go_meet
          all_goals exact RL.out
        have q1 : ¬ (256 : Int) < (k : Int) := by omega
        have R1 := Lib.hid (show ∃ l : List Cm, l.length = k ∧ (.int .i64 0 : Value) = .int .i64 (allE l) ∧ (∀ x ∈ l, x.At wq.heap.size wq) ∧ RowL wq g l ∧ Below w.heap.size w wq from
            ⟨mlC k k, mlC_len k k, by rw [allE_ml HN.out, if_neg h256], ml_at HN.out _ _, HR.out, HB.out⟩)
        by_cases he0 : 0 ≤ e
        case neg =>
          go_wp2_with fail
          go_meet
          all_goals exact R1.out
        by_cases hek : e < (k : Int)
        case neg =>
          go_wp2_with fail
          go_meet
          all_goals exact R1.out
        obtain ⟨j, rfl⟩ : ∃ j : Nat, e = (j : Int) := ⟨e.toNat, by omega⟩
        have hj : j < k := by omega
        have TH := Lib.hid (show wq.there g (j * 9) litF.size from by rw [← cFa_lit]; exact HR.out.there (i := j) (by rw [mlC_len]; exact hj) cFa)
        have SZ := Lib.hid (show (Tryz.prog.info? 42).map (·.size) = some litF.size from by rw [← cFa_lit]; exact Tryz.cmSize' cFa)
        have HROW := Lib.hid (show RowL (wq.setCells g (j * 9) litF.toList) g ((mlC k k).set j cFa) from by rw [← cFa_litL]; exact HR.out.set (i := j) (by rw [mlC_len]; exact hj) cFa)
        have HBS := Lib.hid (setCells_belowC g HGW.out litF.toList (j * 9) HB.out)
        have HE := Lib.hid (allE_set (n := k) (e := j) (by omega) hj)
        clear R1
        obtain ⟨wz, hwz⟩ : ∃ wz, wz = wq.setCells g (j * 9) litF.toList := ⟨_, rfl⟩
        rw [← hwz] at HROW HBS
        have HWZ := Lib.hid hwz
        clear hwz
        go_upto_if 49 with (with_reducible show wpList _ _ _ _ _ _; refine wpList_store_mid rfl 42 (.tmp 45) (.tmp 44) rfl g (j * 9) litF rfl rfl TH.out SZ.out litF_one ?_; rw [← HWZ.out])
        by_cases hlast : j + 1 < k
        · have q2 : (j : Int) < (k : Int) - 1 := by omega
          have RL := Lib.hid (show ∃ l : List Cm, l.length = k ∧ (.int .i64 7 : Value) = .int .i64 (allE l) ∧ (∀ x ∈ l, x.At wz.heap.size wz) ∧ RowL wz g l ∧ Below w.heap.size w wz from
            ⟨(mlC k k).set j cFa, by rw [List.length_set, mlC_len], by rw [HE.out, if_pos hlast], mlF_at HN.out _ _, HROW.out, HBS.out⟩)
          go_wp2_with fail
          go_meet
          all_goals exact RL.out
        · have q2 : ¬ (j : Int) < (k : Int) - 1 := by omega
          have RL := Lib.hid (show ∃ l : List Cm, l.length = k ∧ (.int .i64 0 : Value) = .int .i64 (allE l) ∧ (∀ x ∈ l, x.At wz.heap.size wz) ∧ RowL wz g l ∧ Below w.heap.size w wz from
            ⟨(mlC k k).set j cFa, by rw [List.length_set, mlC_len], by rw [HE.out, if_neg hlast], mlF_at HN.out _ _, HROW.out, HBS.out⟩)
          go_wp2_with fail
          go_meet
          all_goals exact RL.out
      case rest =>
        obtain ⟨w4, rfl⟩ : ∃ wd : World, wd = wc := ⟨_, rfl⟩
        obtain ⟨l, hl, rfl, hat, hrow, hb⟩ := hcut
        have hcl := hrow.cl hat (by rw [hl]; omega)
        have HNUM := Lib.hid (fun (x : Cm) (hx : x ∈ l) => (show x.Num from ⟨(hat x hx).a.2, (hat x hx).b.2, (hat x hx).val.num⟩))
        have HB4 := Lib.hid hb
        have CE := Lib.hid (cencode_any (some ⟨g, 0, none⟩) k l w4.heap.size w4 hcl (Nat.le_refl _) ((G.out.on hb).base hb.size))
        have HCL := Lib.hid hcl
        have HL := Lib.hid hl
        rw [hl] at CE
        obtain ⟨A, hA⟩ : ∃ A, A = allE l := ⟨_, rfl⟩
        have HA := Lib.hid hA
        rw [← hA]
        clear hl hat hrow hb hcl HR HB hA
        go_wp2_with fail
        refine CE.out.mono ?_
        rintro r w5 ⟨hb5, hr⟩
        have CA := Lib.hid (call_any (some ⟨g, 0, none⟩) k l w4.heap.size w5 (HCL.out.below hb5) hb5.size ((G.out.on (HB4.out.trans (hb5.mono HB4.out.size))).base (Nat.le_trans HB4.out.size hb5.size)))
        rw [← HA.out, HL.out] at CA
        have HB5 := Lib.hid hb5
        clear hb5
        by_cases hA0 : A = 0
        · rw [← HA.out, if_pos hA0] at hr
          obtain ⟨ao, c, rfl, own⟩ := hr
          subst hA0
          have OWN := Lib.hid own
          have hLN : (cbA l).length ≤ 140737488355328 := by have := cbA_len HA.out.symm; omega
          obtain ⟨xs, hxs⟩ : ∃ xs, xs = cbA l := ⟨_, rfl⟩
          rw [← hxs] at OWN hLN ⊢
          have HXS := Lib.hid hxs
          obtain ⟨m, hm⟩ : ∃ m, m = xs.length := ⟨_, rfl⟩
          have HM := Lib.hid hm
          rw [← hm] at hLN ⊢
          clear own hxs hm
          go_wp2_with fail
          refine CA.out.mono ?_
          rintro r w6 ⟨rfl, hb6⟩
          have hb46 := HB4.out.trans ((HB5.out.trans (hb6.mono HB5.out.size)).mono HB4.out.size)
          have CD := Lib.hid (cdecode_any (w := w6) (ao := ao) (c := c) (xs := xs) (own_Sl (own_belowK OWN.out hb6) rfl) (by rw [← HM.out]; exact hLN) ((G.out.on hb46).base hb46.size))
          rw [show dcC xs = (l.map Cm.nz, 0) by rw [HXS.out]; exact dcC_fwd HNUM.out HA.out.symm, ← HM.out] at CD
          have HB6 := Lib.hid hb46
          clear hb6 hb46
          go_wp2_with fail
          refine CD.out.mono ?_
          rintro r w7 ⟨ao3, c3, l3, rfl, h3, _, hb7⟩
          dsimp only at h3
          have hl3 : l3.length = k := by
            have := congrArg List.length h3
            rw [List.length_map, List.length_map, HL.out] at this
            exact this
          rw [hl3]
          have RL := Lib.hid (HB6.out.trans (hb7.mono HB6.out.size))
          clear h3 hb7 hl3
          go_wp2_with fail
          go_ret
          exact ⟨rfl, RL.out⟩
        · rw [← HA.out, if_neg hA0] at hr
          subst hr
          go_wp2_with fail
          refine CA.out.mono ?_
          rintro r w6 ⟨rfl, hb6⟩
          have hb46 := HB4.out.trans ((HB5.out.trans (hb6.mono HB5.out.size)).mono HB4.out.size)
          have CD := Lib.hid (cdecode_any (w := w6) (ao := none) (c := 0) (xs := []) ⟨none, 0, rfl, fun _ => rfl, fun a ha => by cases ha⟩ (by simp) ((G.out.on hb46).base hb46.size))
          have HB6 := Lib.hid hb46
          clear hb6 hb46
          go_wp2_with fail
          refine CD.out.mono ?_
          rintro r w7 ⟨ao3, c3, l3, rfl, h3, _, hb7⟩
          obtain ⟨E, hE⟩ : ∃ E, E = (dcC []).2 := ⟨_, rfl⟩
          rw [← hE]
          have RL := Lib.hid (HB6.out.trans (hb7.mono HB6.out.size))
          clear h3 hb7 hE
          go_wp2_with fail
          go_ret
          exact ⟨rfl, RL.out⟩
end Go.Proofs.YtnfobnnbeefeeaaGreatDoor.Wi
