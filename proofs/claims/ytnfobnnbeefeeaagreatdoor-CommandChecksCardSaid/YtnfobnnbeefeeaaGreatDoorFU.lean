/- The walk of CommandChecks. -/
import Derived.Test.YtnfobnnbeefeeaaGreatDoorGX
import Derived.Test.YtnfobnnbeefeeaaGreatDoorFP
import Derived.Test.YtnfobnnbeefeeaaGreatDoorFL
import Derived.Test.YtnfobnnbeefeeaaGreatDoorFM
import Derived.Test.YtnfobnnbeefeeaaGreatDoorFV
namespace Go.Proofs.YtnfobnnbeefeeaaGreatDoor.Wi
open Go Go.RowKit
set_option linter.unusedVariables false
set_option linter.unusedSimpArgs false
def ckLoop (w : World) (n : Nat) (i : Value) (wr : World) : Prop := ∃ j : Nat, i = .int .i64 (j : Int) ∧ j ≤ n ∧ Below w.heap.size w wr
theorem nz_at {l m : List Cm} (h : m.map Cm.nz = l.map Cm.nz) {j : Nat} {x y : Cm} (hx : l[j]? = some x) (hy : m[j]? = some y) : y.nz = x.nz := by
  have h1 : (m.map Cm.nz)[j]? = (l.map Cm.nz)[j]? := by rw [h]
  rw [List.getElem?_map, List.getElem?_map, hx, hy] at h1
  simpa using h1
set_option maxHeartbeats 8000000 in
set_option maxRecDepth 100000 in
theorem cchecks_any (ao : Option Addr) (c : Nat) (l : List Cm) (w : World) (hv : CL w.heap.size w ao l) (hg : CB w.heap.size w) : Calls Tryz.prog 4 #[.slice ao l.length c] w fun e w' => e = .returned (.bool true) ∧ Below w.heap.size w w' := by
  have CH := Lib.hid (wants_any w hg)
  have G := Lib.hid hg
  have HV := Lib.hid hv
  have hll := hv.len
  obtain ⟨n, hn⟩ : ∃ n, n = l.length := ⟨_, rfl⟩
  have HN := Lib.hid hn
  rw [← hn] at hll ⊢
  clear hv hg hn
  go_enter Tryz.func4, Tryz.ntmps4
  go_wp2_with fail
  refine CH.out.mono ?_
  rintro e w1 ⟨rfl, hb1⟩
  have B1 := Lib.hid hb1
  clear hb1
  by_cases h12 : 12 < n
  · have q12 : (12 : Int) < (n : Int) := by omega
    go_wp2_with fail
    go_ret
    exact ⟨rfl, B1.out⟩
  have q12 : ¬ (12 : Int) < (n : Int) := by omega
  have cs := csmall_any ao c l w.heap.size w1 (HV.out.below B1.out) B1.out.size
  rw [← HN.out] at cs
  have CS := Lib.hid cs
  clear cs
  go_wp2_with fail
  refine CS.out.mono ?_
  rintro e w2 ⟨⟨b, rfl⟩, hb2⟩
  have B2 := Lib.hid (B1.out.trans (hb2.mono B1.out.size))
  clear hb2
  cases b
  · go_wp2_with fail
    go_ret
    exact ⟨rfl, B2.out⟩
  have R0 := Lib.hid (show ckLoop w n (.int .i64 0) w2 from ⟨0, rfl, Nat.zero_le _, B2.out⟩)
  clear CS
  go_wp2_with fail
  go_loopw [23] (fun i wr => ckLoop w n i wr) (fun i _ => n - (intOf i).toNat)
  case atStart => exact R0.out
  case round =>
    obtain ⟨wq, rfl⟩ : ∃ wq : World, wq = wr := ⟨_, rfl⟩
    obtain ⟨j, rfl, hj, hbq⟩ := hrel
    have q0 : (0 : Int) ≤ (j : Int) := by omega
    have BQ := Lib.hid hbq
    clear hbq R0
    by_cases hjn : j < n
    · have q1 : (j : Int) < (n : Int) := by omega
      obtain ⟨x, hx⟩ : ∃ x, l[j]? = some x := ⟨_, List.getElem?_eq_getElem (by rw [← HN.out]; exact hjn)⟩
      obtain ⟨hxv, ad, rfl, had, hxc⟩ := HV.out.elem hx
      have kx := Lib.hid (hxc wq (fun k hk => BQ.out.block k hk))
      obtain ⟨w3, hw3⟩ : ∃ bx, bx = wq.alloc (.cells x.cells.toArray 42) := ⟨_, rfl⟩
      obtain ⟨g, hg⟩ : ∃ bx, bx = wq.heap.size := ⟨_, rfl⟩
      have bw3 : Below wq.heap.size wq w3 := by rw [hw3]; exact (Below.refl _ _).alloc (Nat.le_refl _) _
      have nw3 : w3.heap[g]? = some (.cells x.cells.toArray 42 (0, 0)) := by rw [hw3, hg]; exact heap_alloc_new _ _
      have Kw3 := Lib.hid (rowC nw3)
      have Cw3 := Lib.hid (cmC nw3)
      have Hw3 := Lib.hid hw3
      have Hg := Lib.hid hg
      have Bw3 := Lib.hid bw3
      have Nw3 := Lib.hid nw3
      clear hw3 hg bw3 nw3
      have KX := Lib.hid (fun (W : World) (h : Below w3.heap.size w3 W) => rowCB (x := x) Nw3.out h)
      have B03 := Lib.hid (BQ.out.trans (Bw3.out.mono BQ.out.size))
      have G3 := Lib.hid ((G.out.on B03.out).base B03.out.size)
      have HX3 := Lib.hid ((hxv.below B03.out).mono B03.out.size)
      obtain ⟨E, hE⟩ : ∃ E, E = x.vE := ⟨_, rfl⟩
      have CK := Lib.hid (show ∀ W, Below w3.heap.size w3 W → Calls Tryz.prog 20 #[.agg x.cells.toArray] W fun e w' => e = .returned (.int .i64 E) ∧ Below W.heap.size W w' from fun W h => by
        rw [hE]; exact ccheck_any x w3.heap.size W (HX3.out.below h) h.size ((G3.out.on h).base h.size))
      have CR := Lib.hid (show ∀ W, Below w3.heap.size w3 W → Calls Tryz.prog 21 #[.agg x.cells.toArray] W fun e w' => e = .returned (.int .i64 E) ∧ Below W.heap.size W w' from fun W h => by
        rw [hE]; exact rccheck_any x w3.heap.size W (HX3.out.below h) h.size)
      clear hE hxv hxc had hx
      go_upto_region 8 with (first | (with_reducible show wpList _ _ _ _ _ _; refine wpList_load_allW rfl 42 (.tmp 25) rfl _ rfl x.cells _ kx.out Tryz.underlying42 rfl (Tryz.cmSize x) ?_) | (with_reducible show wpList _ _ _ _ _ _; refine wpList_store_newW rfl 42 (.tmp 4) (.tmp 26) rfl 42 _ x.cells.toArray rfl rfl (Tryz.cmSize' x) (by with_unfolding_all exact Cm.nine x) x.cells_one ?_; rw [← Hw3.out, ← Hg.out]))
      refine wp_region_quiet_in (fun w' => Below w3.heap.size w3 w') (by kernel_rfl) (by kernel_rfl) (below_drewG (Below.refl _ _) 1) ?_
      refine wpQuiet_loadG (by kernel_rfl) 42 (.tmp 4) rfl ⟨g,0,none⟩ rfl x.cells _ (fun w' hC => KX.out w' hC) Tryz.underlying42 rfl (Tryz.cmSize x) ?_
      simp only [Act.put, List.setIfInBounds_toArray, List.set_cons_zero, List.set_cons_succ, List.getElem_toArray, List.getElem_cons_zero, List.getElem_cons_succ]
      refine wpQuiet_callG (f := 20) (xs := #[.tmp 27]) #[.agg x.cells.toArray] (.int .i64 E) (by kernel_rfl) rfl Tryz.func20 (by kernel_rfl) (by kernel_rfl) (by simp [Act.eval]) (fun W hW => (CK.out W hW).mono fun e w' h => ⟨h.1, Below.trans hW (h.2.mono hW.size)⟩) ?_
      simp only [Act.put, List.setIfInBounds_toArray, List.set_cons_zero, List.set_cons_succ, List.getElem_toArray, List.getElem_cons_zero, List.getElem_cons_succ]
      refine wpQuiet_loadG (by kernel_rfl) 42 (.tmp 4) rfl ⟨g,0,none⟩ rfl x.cells _ (fun w' hC => KX.out w' hC) Tryz.underlying42 rfl (Tryz.cmSize x) ?_
      simp only [Act.put, List.setIfInBounds_toArray, List.set_cons_zero, List.set_cons_succ, List.getElem_toArray, List.getElem_cons_zero, List.getElem_cons_succ]
      refine wpQuiet_callG (f := 21) (xs := #[.tmp 29]) #[.agg x.cells.toArray] (.int .i64 E) (by kernel_rfl) rfl Tryz.func21 (by kernel_rfl) (by kernel_rfl) (by simp [Act.eval]) (fun W hW => (CR.out W hW).mono fun e w' h => ⟨h.1, Below.trans hW (h.2.mono hW.size)⟩) ?_
      simp only [Act.put, List.setIfInBounds_toArray, List.set_cons_zero, List.set_cons_succ, List.getElem_toArray, List.getElem_cons_zero, List.getElem_cons_succ]
      refine wpQuiet_runG (v := .bool false) (by kernel_rfl) (fun w' hC => by first | rfl | go_simp) ?_
      simp only [Act.put, List.setIfInBounds_toArray, List.set_cons_zero, List.set_cons_succ, List.getElem_toArray, List.getElem_cons_zero, List.getElem_cons_succ]
      refine wpQuiet_nil ?_
      intro wx hs
      have RL := Lib.hid (show ckLoop w n (.int .i64 ((j + 1 : Nat) : Int)) wx from ⟨j + 1, rfl, hjn, B03.out.trans (hs.mono B03.out.size)⟩)
      clear hs
      go_wp2_with fail
      exact ⟨RL.out, by simp [intOf]; omega⟩
    · have q1 : ¬ (j : Int) < (n : Int) := by omega
      obtain ⟨A, hA⟩ : ∃ A, A = allE l := ⟨_, rfl⟩
      have HA := Lib.hid hA
      have CR := Lib.hid (show ∀ W, Below w.heap.size w W → Calls Tryz.prog 22 #[.slice ao n c] W fun e w' => e = .returned (.int .i64 A) ∧ Below W.heap.size W w' from fun W h => by
        rw [hA, HN.out]; exact rcall_any ao c l w.heap.size W (HV.out.below h) h.size)
      have CA := Lib.hid (show ∀ W, Below w.heap.size w W → Calls Tryz.prog 24 #[.slice ao n c] W fun e w' => e = .returned (.int .i64 A) ∧ Below W.heap.size W w' from fun W h => by
        rw [hA, HN.out]; exact call_any ao c l w.heap.size W (HV.out.below h) h.size ((G.out.on h).base h.size))
      have CE := Lib.hid (show ∀ W, Below w.heap.size w W → Calls Tryz.prog 23 #[.slice ao n c] W (CencPost W l) from fun W h => by
        rw [HN.out]; exact cencode_any ao c l w.heap.size W (HV.out.below h) h.size (G.out.on h))
      clear hA
      go_wp2_with fail
      refine (CR.out wq BQ.out).mono ?_
      rintro e w3 ⟨rfl, hb3⟩
      have B3 := Lib.hid (BQ.out.trans (hb3.mono BQ.out.size))
      clear hb3
      go_wp2_with fail
      refine (CE.out w3 B3.out).mono ?_
      rintro r w5 ⟨hb5, hr⟩
      have B5 := Lib.hid (B3.out.trans (hb5.mono B3.out.size))
      clear hb5
      by_cases hA0 : A = 0
      case neg =>
        have hA1 : (A != 0) = true := by simpa using hA0
        rw [← HA.out, if_neg hA0] at hr
        subst hr
        go_wp2_with fail
        refine (CA.out w5 B5.out).mono ?_
        rintro r w6 ⟨rfl, hb6⟩
        have B6 := Lib.hid (B5.out.trans (hb6.mono B5.out.size))
        clear hb6
        go_wp2_with fail
        go_ret
        exact ⟨rfl, B6.out⟩
      rw [← HA.out, if_pos hA0] at hr
      obtain ⟨ao2, c2, rfl, own⟩ := hr
      subst hA0
      have OK := Lib.hid (allE_ok HA.out.symm)
      have hLN : (cbA l).length ≤ 140737488355328 := by have := cbA_len HA.out.symm; omega
      have RB := Lib.hid (show ∀ W, Below w.heap.size w W → Calls Tryz.prog 26 #[.slice ao n c] W fun e w' => e = .returned (.string (str (cbA l))) ∧ Below W.heap.size W w' from fun W h => by
        rw [HN.out]; exact rcbytes_any ao c l w.heap.size W (HV.out.below h) h.size HA.out.symm)
      have HNUM := Lib.hid (fun (x : Cm) (hx : x ∈ l) => (show x.Num from ⟨(HV.out.at_ x hx).a.2, (HV.out.at_ x hx).b.2, (HV.out.at_ x hx).val.num⟩))
      have hdc : dcC (cbA l) = (l.map Cm.nz, 0) := dcC_fwd HNUM.out HA.out.symm
      obtain ⟨xs, hxs⟩ : ∃ xs, xs = cbA l := ⟨_, rfl⟩
      rw [← hxs] at own hLN RB hdc ⊢
      have OWN := Lib.hid own
      have HDC := Lib.hid hdc
      obtain ⟨m, hm⟩ : ∃ m, m = xs.length := ⟨_, rfl⟩
      have HM := Lib.hid hm
      rw [← hm] at hLN ⊢
      clear own hxs hm hdc
      go_wp2_with fail
      refine (CA.out w5 B5.out).mono ?_
      rintro r w6 ⟨rfl, hb6⟩
      have B6 := Lib.hid (B5.out.trans (hb6.mono B5.out.size))
      have OW6 := Lib.hid (own_belowK OWN.out hb6)
      have SL6 := Lib.hid (own_Sl OW6.out rfl)
      have CD := Lib.hid (cdecode_any (w := w6) (ao := ao2) (c := c2) (xs := xs) SL6.out (by rw [← HM.out]; exact hLN) ((G.out.on B6.out).base B6.out.size))
      rw [HDC.out, ← HM.out] at CD
      clear hb6
      go_wp2_with fail
      refine CD.out.mono ?_
      rintro r w7 ⟨ao3, c3, l3, rfl, h3, hcl3, hb7⟩
      dsimp only at h3
      have B7 := Lib.hid (B6.out.trans (hb7.mono B6.out.size))
      have hl3 : l3.length = n := by
        have := congrArg List.length h3
        rw [List.length_map, List.length_map, ← HN.out] at this
        exact this
      have HL3 := Lib.hid hl3
      have H3 := Lib.hid h3
      have HC3 := Lib.hid hcl3
      obtain ⟨S, hS⟩ : ∃ S, S = str xs := ⟨_, rfl⟩
      rw [← hS] at RB
      have CO := Lib.hid (show ∀ W, Below w7.heap.size w7 W → (convert 36 9 (.slice ao2 m c2)).run Tryz.prog W = .ok (.string S) W from fun W h => by
        rw [hS, HM.out]
        exact ((SL6.out.below (hb7.trans (h.mono hb7.size))).convert).1)
      have RB7 := Lib.hid (fun (W : World) (h : Below w7.heap.size w7 W) => RB.out W (B7.out.trans (h.mono B7.out.size)))
      have HSS : (S.toList == S.toList) = true := beq_self_eq_true _
      rw [hl3]
      clear h3 hcl3 hb7 hl3 hS RB CD CA CE CR
      go_upto_region 18 with fail
      refine wp_region_quiet_in (fun w' => Below w7.heap.size w7 w') (by kernel_rfl) (by kernel_rfl) (below_drewG (Below.refl _ _) 1) ?_
      refine wpQuiet_runG (v := .slice ao2 m c2) (by kernel_rfl) (fun w' hC => by first | rfl | go_simp) ?_
      simp only [Act.put, List.setIfInBounds_toArray, List.set_cons_zero, List.set_cons_succ, List.getElem_toArray, List.getElem_cons_zero, List.getElem_cons_succ]
      refine wpQuiet_runG (v := .string S) (by kernel_rfl) (fun w' hC => by have hz := CO.out w' hC; go_simp) ?_
      simp only [Act.put, List.setIfInBounds_toArray, List.set_cons_zero, List.set_cons_succ, List.getElem_toArray, List.getElem_cons_zero, List.getElem_cons_succ]
      refine wpQuiet_runG (v := .slice ao n c) (by kernel_rfl) (fun w' hC => by first | rfl | go_simp) ?_
      simp only [Act.put, List.setIfInBounds_toArray, List.set_cons_zero, List.set_cons_succ, List.getElem_toArray, List.getElem_cons_zero, List.getElem_cons_succ]
      refine wpQuiet_callG (f := 26) (xs := #[.tmp 61]) #[.slice ao n c] (.string S) (by kernel_rfl) rfl Tryz.func26 (by kernel_rfl) (by kernel_rfl) (by simp [Act.eval]) (fun W hW => (RB7.out W hW).mono fun e w' h => ⟨h.1, Below.trans hW (h.2.mono hW.size)⟩) ?_
      simp only [Act.put, List.setIfInBounds_toArray, List.set_cons_zero, List.set_cons_succ, List.getElem_toArray, List.getElem_cons_zero, List.getElem_cons_succ]
      refine wpQuiet_runG (v := .bool false) (by kernel_rfl) (fun w' hC => by first | rfl | go_simp) ?_
      simp only [Act.put, List.setIfInBounds_toArray, List.set_cons_zero, List.set_cons_succ, List.getElem_toArray, List.getElem_cons_zero, List.getElem_cons_succ]
      refine wpQuiet_runG (v := .bool false) (by kernel_rfl) (fun w' hC => by first | rfl | go_simp) ?_
      simp only [Act.put, List.setIfInBounds_toArray, List.set_cons_zero, List.set_cons_succ, List.getElem_toArray, List.getElem_cons_zero, List.getElem_cons_succ]
      refine wpQuiet_runG (v := .int .i64 0) (by kernel_rfl) (fun w' hC => by first | rfl | go_simp) ?_
      simp only [Act.put, List.setIfInBounds_toArray, List.set_cons_zero, List.set_cons_succ, List.getElem_toArray, List.getElem_cons_zero, List.getElem_cons_succ]
      refine wpQuiet_runG (v := .bool false) (by kernel_rfl) (fun w' hC => by first | rfl | go_simp) ?_
      simp only [Act.put, List.setIfInBounds_toArray, List.set_cons_zero, List.set_cons_succ, List.getElem_toArray, List.getElem_cons_zero, List.getElem_cons_succ]
      refine wpQuiet_runG (v := .bool false) (by kernel_rfl) (fun w' hC => by first | rfl | go_simp) ?_
      simp only [Act.put, List.setIfInBounds_toArray, List.set_cons_zero, List.set_cons_succ, List.getElem_toArray, List.getElem_cons_zero, List.getElem_cons_succ]
      refine wpQuiet_runG (v := .bool false) (by kernel_rfl) (fun w' hC => by first | rfl | go_simp) ?_
      simp only [Act.put, List.setIfInBounds_toArray, List.set_cons_zero, List.set_cons_succ, List.getElem_toArray, List.getElem_cons_zero, List.getElem_cons_succ]
      refine wpQuiet_runG (v := .slice ao3 n c3) (by kernel_rfl) (fun w' hC => by first | rfl | go_simp) ?_
      simp only [Act.put, List.setIfInBounds_toArray, List.set_cons_zero, List.set_cons_succ, List.getElem_toArray, List.getElem_cons_zero, List.getElem_cons_succ]
      refine wpQuiet_runG (v := .int .i64 (n : Int)) (by kernel_rfl) (fun w' hC => by go_simp) ?_
      simp only [Act.put, List.setIfInBounds_toArray, List.set_cons_zero, List.set_cons_succ, List.getElem_toArray, List.getElem_cons_zero, List.getElem_cons_succ]
      refine wpQuiet_runG (v := .slice ao n c) (by kernel_rfl) (fun w' hC => by first | rfl | go_simp) ?_
      simp only [Act.put, List.setIfInBounds_toArray, List.set_cons_zero, List.set_cons_succ, List.getElem_toArray, List.getElem_cons_zero, List.getElem_cons_succ]
      refine wpQuiet_runG (v := .int .i64 (n : Int)) (by kernel_rfl) (fun w' hC => by go_simp) ?_
      simp only [Act.put, List.setIfInBounds_toArray, List.set_cons_zero, List.set_cons_succ, List.getElem_toArray, List.getElem_cons_zero, List.getElem_cons_succ]
      refine wpQuiet_runG (v := .bool false) (by kernel_rfl) (fun w' hC => by first | rfl | go_simp) ?_
      simp only [Act.put, List.setIfInBounds_toArray, List.set_cons_zero, List.set_cons_succ, List.getElem_toArray, List.getElem_cons_zero, List.getElem_cons_succ]
      refine wpQuiet_runG (v := .bool false) (by kernel_rfl) (fun w' hC => by first | rfl | go_simp) ?_
      simp only [Act.put, List.setIfInBounds_toArray, List.set_cons_zero, List.set_cons_succ, List.getElem_toArray, List.getElem_cons_zero, List.getElem_cons_succ]
      refine wpQuiet_nil ?_
      intro wx hs
      have R0 := Lib.hid (show ckLoop w7 n (.int .i64 0) wx from ⟨0, rfl, Nat.zero_le _, hs⟩)
      clear hs HSS
      go_wp2_with fail
      go_loopw [77] (fun i wr => ckLoop w7 n i wr) (fun i _ => n - (intOf i).toNat)
      case atStart => exact R0.out
      case round =>
        obtain ⟨wq, rfl⟩ : ∃ wq : World, wq = wr := ⟨_, rfl⟩
        obtain ⟨k, rfl, hk, hbq⟩ := hrel
        have q0 : (0 : Int) ≤ (k : Int) := by omega
        have BQ := Lib.hid hbq
        clear hbq R0
        by_cases hkn : k < n
        · have q1 : (k : Int) < (n : Int) := by omega
          obtain ⟨x, hx⟩ : ∃ x, l[k]? = some x := ⟨_, List.getElem?_eq_getElem (by rw [← HN.out]; exact hkn)⟩
          obtain ⟨y, hy⟩ : ∃ y, l3[k]? = some y := ⟨_, List.getElem?_eq_getElem (by rw [HL3.out]; exact hkn)⟩
          have hyx := nz_at H3.out hx hy
          have hvx := OK.out.2 x (List.mem_of_getElem? hx)
          have hvy : y.vE = 0 := by rw [← Cm.nz_vE, hyx, Cm.nz_vE, hvx]
          obtain ⟨hxv, ad, rfl, had, hxc⟩ := HV.out.elem hx
          obtain ⟨hyv, ad3, rfl, had3, hyc⟩ := HC3.out.elem hy
          have hx7 := (hxv.below B7.out).mono B7.out.size
          have BW := Lib.hid (fun (W : World) (h : Below wq.heap.size wq W) => BQ.out.trans (h.mono BQ.out.size))
          obtain ⟨px, hpx⟩ : ∃ p, p = ad.add (k * 9) := ⟨_, rfl⟩
          obtain ⟨py, hpy⟩ : ∃ p, p = ad3.add (k * 9) := ⟨_, rfl⟩
          have HPX := Lib.hid hpx
          have HPY := Lib.hid hpy
          have KX := Lib.hid (show ∀ W, Below wq.heap.size wq W → ∀ (j : Nat) u, x.cells[j]? = some u → W.cell? (px.add j) = some u from fun W h => by
            rw [hpx]; exact hxc W (fun i hi => (B7.out.trans ((BW.out W h).mono B7.out.size)).block i hi))
          have KY := Lib.hid (show ∀ W, Below wq.heap.size wq W → ∀ (j : Nat) u, y.cells[j]? = some u → W.cell? (py.add j) = some u from fun W h => by
            rw [hpy]; exact hyc W (fun i hi => (BW.out W h).block i hi))
          have SM := Lib.hid (show ∀ W, Below wq.heap.size wq W → Calls Tryz.prog 27 #[.agg y.cells.toArray, .agg x.cells.toArray] W fun e w' => e = .returned (.bool true) ∧ Below W.heap.size W w' from fun W h => by
            have hs := csame_any y x (fine (Cm.fits hvy).val.1).dpr w7.heap.size W (hyv.below (BW.out W h)) (hx7.below (BW.out W h)) (BW.out W h).size
            rwa [(Cm.same_nz (fine (Cm.fits hvy).val.1).kin).2 hyx] at hs)
          obtain ⟨S, hS⟩ : ∃ S, S = str x.ln := ⟨_, rfl⟩
          have LX := Lib.hid (show ∀ W, Below wq.heap.size wq W → Calls Tryz.prog 28 #[.agg x.cells.toArray] W fun e w' => e = .returned (.string S) ∧ Below W.heap.size W w' from fun W h => by
            rw [hS]; exact rcline_any x w7.heap.size W (hx7.below (BW.out W h)) hvx (BW.out W h).size)
          have LY := Lib.hid (show ∀ W, Below wq.heap.size wq W → Calls Tryz.prog 28 #[.agg y.cells.toArray] W fun e w' => e = .returned (.string S) ∧ Below W.heap.size W w' from fun W h => by
            rw [hS, show x.ln = y.ln by rw [← cnz_ln y, hyx, cnz_ln]]; exact rcline_any y w7.heap.size W (hyv.below (BW.out W h)) hvy (BW.out W h).size)
          have HSS : (S.toList == S.toList) = true := beq_self_eq_true _
          clear hx hy hyx hvx hvy hxv hyv had had3 hxc hyc hx7 hpx hpy hS
          go_upto_region 23 with fail
          refine wp_region_quiet_in (fun w' => Below wq.heap.size wq w') (by kernel_rfl) (by kernel_rfl) (below_drewG (Below.refl _ _) 1) ?_
          refine wpQuiet_runG (v := .slice (some ad3) n c3) (by kernel_rfl) (fun w' hC => by first | rfl | go_simp) ?_
          simp only [Act.put, List.setIfInBounds_toArray, List.set_cons_zero, List.set_cons_succ, List.getElem_toArray, List.getElem_cons_zero, List.getElem_cons_succ]
          refine wpQuiet_runG (v := .int .i64 (k : Int)) (by kernel_rfl) (fun w' hC => by first | rfl | go_simp) ?_
          simp only [Act.put, List.setIfInBounds_toArray, List.set_cons_zero, List.set_cons_succ, List.getElem_toArray, List.getElem_cons_zero, List.getElem_cons_succ]
          refine wpQuiet_runG (v := .pointer (some py)) (by kernel_rfl) (fun w' hC => by rw [HPY.out]; go_simp) ?_
          simp only [Act.put, List.setIfInBounds_toArray, List.set_cons_zero, List.set_cons_succ, List.getElem_toArray, List.getElem_cons_zero, List.getElem_cons_succ]
          refine wpQuiet_loadG (by kernel_rfl) 42 (.tmp 82) rfl py rfl y.cells _ (fun w' hC => KY.out w' hC) Tryz.underlying42 rfl (Tryz.cmSize y) ?_
          simp only [Act.put, List.setIfInBounds_toArray, List.set_cons_zero, List.set_cons_succ, List.getElem_toArray, List.getElem_cons_zero, List.getElem_cons_succ]
          refine wpQuiet_runG (v := .slice (some ad) n c) (by kernel_rfl) (fun w' hC => by first | rfl | go_simp) ?_
          simp only [Act.put, List.setIfInBounds_toArray, List.set_cons_zero, List.set_cons_succ, List.getElem_toArray, List.getElem_cons_zero, List.getElem_cons_succ]
          refine wpQuiet_runG (v := .int .i64 (k : Int)) (by kernel_rfl) (fun w' hC => by first | rfl | go_simp) ?_
          simp only [Act.put, List.setIfInBounds_toArray, List.set_cons_zero, List.set_cons_succ, List.getElem_toArray, List.getElem_cons_zero, List.getElem_cons_succ]
          refine wpQuiet_runG (v := .pointer (some px)) (by kernel_rfl) (fun w' hC => by rw [HPX.out]; go_simp) ?_
          simp only [Act.put, List.setIfInBounds_toArray, List.set_cons_zero, List.set_cons_succ, List.getElem_toArray, List.getElem_cons_zero, List.getElem_cons_succ]
          refine wpQuiet_loadG (by kernel_rfl) 42 (.tmp 86) rfl px rfl x.cells _ (fun w' hC => KX.out w' hC) Tryz.underlying42 rfl (Tryz.cmSize x) ?_
          simp only [Act.put, List.setIfInBounds_toArray, List.set_cons_zero, List.set_cons_succ, List.getElem_toArray, List.getElem_cons_zero, List.getElem_cons_succ]
          refine wpQuiet_callG (f := 27) (xs := #[.tmp 83, .tmp 87]) #[.agg y.cells.toArray, .agg x.cells.toArray] (.bool true) (by kernel_rfl) rfl Tryz.func27 (by kernel_rfl) (by kernel_rfl) (by simp [Act.eval]) (fun W hW => (SM.out W hW).mono fun e w' h => ⟨h.1, Below.trans hW (h.2.mono hW.size)⟩) ?_
          simp only [Act.put, List.setIfInBounds_toArray, List.set_cons_zero, List.set_cons_succ, List.getElem_toArray, List.getElem_cons_zero, List.getElem_cons_succ]
          refine wpQuiet_runG (v := .bool false) (by kernel_rfl) (fun w' hC => by first | rfl | go_simp) ?_
          simp only [Act.put, List.setIfInBounds_toArray, List.set_cons_zero, List.set_cons_succ, List.getElem_toArray, List.getElem_cons_zero, List.getElem_cons_succ]
          refine wpQuiet_runG (v := .bool false) (by kernel_rfl) (fun w' hC => by first | rfl | go_simp) ?_
          simp only [Act.put, List.setIfInBounds_toArray, List.set_cons_zero, List.set_cons_succ, List.getElem_toArray, List.getElem_cons_zero, List.getElem_cons_succ]
          refine wpQuiet_runG (v := .slice (some ad3) n c3) (by kernel_rfl) (fun w' hC => by first | rfl | go_simp) ?_
          simp only [Act.put, List.setIfInBounds_toArray, List.set_cons_zero, List.set_cons_succ, List.getElem_toArray, List.getElem_cons_zero, List.getElem_cons_succ]
          refine wpQuiet_runG (v := .int .i64 (k : Int)) (by kernel_rfl) (fun w' hC => by first | rfl | go_simp) ?_
          simp only [Act.put, List.setIfInBounds_toArray, List.set_cons_zero, List.set_cons_succ, List.getElem_toArray, List.getElem_cons_zero, List.getElem_cons_succ]
          refine wpQuiet_runG (v := .pointer (some py)) (by kernel_rfl) (fun w' hC => by rw [HPY.out]; go_simp) ?_
          simp only [Act.put, List.setIfInBounds_toArray, List.set_cons_zero, List.set_cons_succ, List.getElem_toArray, List.getElem_cons_zero, List.getElem_cons_succ]
          refine wpQuiet_loadG (by kernel_rfl) 42 (.tmp 93) rfl py rfl y.cells _ (fun w' hC => KY.out w' hC) Tryz.underlying42 rfl (Tryz.cmSize y) ?_
          simp only [Act.put, List.setIfInBounds_toArray, List.set_cons_zero, List.set_cons_succ, List.getElem_toArray, List.getElem_cons_zero, List.getElem_cons_succ]
          refine wpQuiet_callG (f := 28) (xs := #[.tmp 94]) #[.agg y.cells.toArray] (.string S) (by kernel_rfl) rfl Tryz.func28 (by kernel_rfl) (by kernel_rfl) (by simp [Act.eval]) (fun W hW => (LY.out W hW).mono fun e w' h => ⟨h.1, Below.trans hW (h.2.mono hW.size)⟩) ?_
          simp only [Act.put, List.setIfInBounds_toArray, List.set_cons_zero, List.set_cons_succ, List.getElem_toArray, List.getElem_cons_zero, List.getElem_cons_succ]
          refine wpQuiet_runG (v := .slice (some ad) n c) (by kernel_rfl) (fun w' hC => by first | rfl | go_simp) ?_
          simp only [Act.put, List.setIfInBounds_toArray, List.set_cons_zero, List.set_cons_succ, List.getElem_toArray, List.getElem_cons_zero, List.getElem_cons_succ]
          refine wpQuiet_runG (v := .int .i64 (k : Int)) (by kernel_rfl) (fun w' hC => by first | rfl | go_simp) ?_
          simp only [Act.put, List.setIfInBounds_toArray, List.set_cons_zero, List.set_cons_succ, List.getElem_toArray, List.getElem_cons_zero, List.getElem_cons_succ]
          refine wpQuiet_runG (v := .pointer (some px)) (by kernel_rfl) (fun w' hC => by rw [HPX.out]; go_simp) ?_
          simp only [Act.put, List.setIfInBounds_toArray, List.set_cons_zero, List.set_cons_succ, List.getElem_toArray, List.getElem_cons_zero, List.getElem_cons_succ]
          refine wpQuiet_loadG (by kernel_rfl) 42 (.tmp 98) rfl px rfl x.cells _ (fun w' hC => KX.out w' hC) Tryz.underlying42 rfl (Tryz.cmSize x) ?_
          simp only [Act.put, List.setIfInBounds_toArray, List.set_cons_zero, List.set_cons_succ, List.getElem_toArray, List.getElem_cons_zero, List.getElem_cons_succ]
          refine wpQuiet_callG (f := 28) (xs := #[.tmp 99]) #[.agg x.cells.toArray] (.string S) (by kernel_rfl) rfl Tryz.func28 (by kernel_rfl) (by kernel_rfl) (by simp [Act.eval]) (fun W hW => (LX.out W hW).mono fun e w' h => ⟨h.1, Below.trans hW (h.2.mono hW.size)⟩) ?_
          simp only [Act.put, List.setIfInBounds_toArray, List.set_cons_zero, List.set_cons_succ, List.getElem_toArray, List.getElem_cons_zero, List.getElem_cons_succ]
          refine wpQuiet_runG (v := .bool false) (by kernel_rfl) (fun w' hC => by first | rfl | go_simp) ?_
          simp only [Act.put, List.setIfInBounds_toArray, List.set_cons_zero, List.set_cons_succ, List.getElem_toArray, List.getElem_cons_zero, List.getElem_cons_succ]
          refine wpQuiet_runG (v := .bool false) (by kernel_rfl) (fun w' hC => by first | rfl | go_simp) ?_
          simp only [Act.put, List.setIfInBounds_toArray, List.set_cons_zero, List.set_cons_succ, List.getElem_toArray, List.getElem_cons_zero, List.getElem_cons_succ]
          refine wpQuiet_nil ?_
          intro wx hs
          have RL := Lib.hid (show ckLoop w7 n (.int .i64 ((k + 1 : Nat) : Int)) wx from ⟨k + 1, rfl, hkn, BW.out wx hs⟩)
          clear hs HSS
          go_wp2_with fail
          exact ⟨RL.out, by simp [intOf]; omega⟩
        · have q1 : ¬ (k : Int) < (n : Int) := by omega
          have RL := Lib.hid (B7.out.trans (BQ.out.mono B7.out.size))
          go_wp2_with fail
          go_ret
          exact ⟨rfl, RL.out⟩
end Go.Proofs.YtnfobnnbeefeeaaGreatDoor.Wi
