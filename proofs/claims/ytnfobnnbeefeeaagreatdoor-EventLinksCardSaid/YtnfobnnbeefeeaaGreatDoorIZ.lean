/- The walk of EventLinks. -/
import Derived.Test.YtnfobnnbeefeeaaGreatDoorIY
import Derived.Test.YtnfobnnbeefeeaaGreatDoorIO
import Derived.Test.YtnfobnnbeefeeaaGreatDoorGO
import Derived.Test.YtnfobnnbeefeeaaGreatDoorGS9
namespace Go.Proofs.YtnfobnnbeefeeaaGreatDoor.Wi
open Go Go.RowKit
set_option linter.unusedVariables false
set_option linter.unusedSimpArgs false
theorem guard_sumE : Tryz.prog.eqGuardType Tryz.prog.depth 23 = false := by kernel_rfl
theorem exec_eql {o : Oper} {a : Act} {x y : Operand} {s : TypeId} (ho : o.op = .binOp .eql 23 x y s) (l : List UInt8) (hl : l.length = 32) (hx : a.eval x = .agg (bvs l).toArray) (hy : a.eval y = .agg (bvs l).toArray) (w : World) :
    (execOp a.eval o).run Tryz.prog w = .ok (.value (.bool true)) w := by
  have hg := guard_sumE
  have hn := Sm.eql_sum l l hl hl w
  rw [decide_eq_true (rfl : l = l)] at hn
  rw [bvsS] at hn
  unfold execOp
  simp only [ho, hx, hy]
  simp [eqGuard, Sem.run_bind, hg, hn]
theorem wpList_eqSum {ops : Array Oper} {rest : List Oper} {o : Oper} {a : Act} {w : World} {Q : Exit → Act → World → Prop} (hgd : o.guard = none) (x y : Operand) (s : TypeId) (ho : o.op = .binOp .eql 23 x y s) (l : List UInt8) (hl : l.length = 32) (hx : a.eval x = .agg (bvs l).toArray) (hy : a.eval y = .agg (bvs l).toArray)
    (h : wpList Tryz.prog ops Q rest (a.put o.dst (.bool true)) w) : wpList Tryz.prog ops Q (o :: rest) a w :=
  wpList_plain hgd fun _ hK => by
    unfold Oper.wp
    rw [exec_eql ho l hl hx hy w]
    exact hK _ _ h
theorem linkR (p : List UInt8) {x : Ev} (h : x.vE = 0) : sumL p x = Sm.shaR Sm.S0 Sm.K0 (p ++ x.eb) := by
  unfold sumL
  rw [if_pos h]
  exact Sm.sha_R Sm.S0 Sm.K0 rfl Sm.S0_lt (p ++ x.eb)
set_option maxHeartbeats 16000000 in
set_option maxRecDepth 100000 in
theorem elinks_any (p : List UInt8) (hp : p.length = 32) (v : Ev) (w : World) (hv : v.At w.heap.size w) (hg : EB w.heap.size w) (ht : ST w) :
    Calls Tryz.prog 3 #[.agg (bvs p).toArray, .agg v.cells.toArray] w fun e w' => e = .returned (.bool true) ∧ Below w.heap.size w w' := by
  obtain ⟨w0, hw0⟩ : ∃ w1, w1 = w.alloc (.cells (bvs p).toArray 23) := ⟨_, rfl⟩
  obtain ⟨g0, hg0⟩ : ∃ g, g = w.heap.size := ⟨_, rfl⟩
  have b0 : Below w.heap.size w w0 := by rw [hw0]; exact (Below.refl _ _).alloc (Nat.le_refl _) _
  have n0 : w0.heap[g0]? = some (.cells (bvs p).toArray 23 (0, 0)) := by rw [hw0, hg0]; exact heap_alloc_new _ _
  obtain ⟨w1, hw1⟩ : ∃ bx, bx = w0.alloc (.cells v.cells.toArray 28) := ⟨_, rfl⟩
  obtain ⟨g, hg⟩ : ∃ bx, bx = w0.heap.size := ⟨_, rfl⟩
  have bw1 : Below w0.heap.size w0 w1 := by rw [hw1]; exact (Below.refl _ _).alloc (Nat.le_refl _) _
  have nw1 : w1.heap[g]? = some (.cells v.cells.toArray 28 (0, 0)) := by rw [hw1, hg]; exact heap_alloc_new _ _
  have Kw1 := Lib.hid (rowE nw1)
  have Cw1 := Lib.hid (evC nw1)
  have Hw1 := Lib.hid hw1
  have Hg := Lib.hid hg
  have Bw1 := Lib.hid bw1
  have Nw1 := Lib.hid nw1
  clear hw1 hg bw1 nw1
  have b01 := b0.trans (Bw1.out.mono b0.size)
  have B01 := Lib.hid b01
  have N01 := Lib.hid (show w1.heap[g0]? = some (.cells (bvs p).toArray 23 (0, 0)) from (Bw1.out.block g0 (lt_of_rowW n0)).trans n0)
  have HGB := Lib.hid (show g = w.heap.size + 1 from by rw [Hg.out, hw0]; simp)
  have HG0 := Lib.hid hg0
  have HW := Lib.hid (show w1 = (w.alloc (.cells (bvs p).toArray 23)).alloc (.cells v.cells.toArray 28) from by rw [Hw1.out, hw0])
  have HV := Lib.hid ((hv.below b01).mono b01.size)
  have G := Lib.hid ((hg.on b01).base b01.size)
  have T1 := Lib.hid (ht.on b01)
  have CH := Lib.hid (tells_any w1 G.out)
  have HP := Lib.hid hp
  clear hv hg ht hw0 hg0 b0 n0 b01 hp
  go_enter Tryz.func3, Tryz.ntmps3
  go_upto_region 1 with fail
  rw [← HW.out, ← HGB.out, ← HG0.out]
  go_wp2_with fail
  refine CH.out.mono ?_
  rintro e w2 ⟨rfl, hb2⟩
  have Kw2 := Lib.hid (rowEB (x := v) Nw1.out hb2)
  have CF := Lib.hid (esmall_one ((HV.out.below hb2).mono hb2.size))
  have hl4 := v.cells_len
  go_wp2_with (first | (with_reducible show wpList _ _ _ _ _ _; refine wpList_load_allW rfl 28 (.tmp 3) rfl ⟨g,0,none⟩ rfl v.cells _ Kw2.out Tryz.underlying28 rfl (Tryz.evSize v) ?_))
  clear hl4
  rw [bs1E]
  refine CF.out.mono ?_
  rintro e w3 ⟨⟨b, rfl⟩, hb3⟩
  have hb13 := hb2.trans (hb3.mono hb2.size)
  have B13 := Lib.hid hb13
  have RL3 := Lib.hid (B01.out.trans (hb13.mono B01.out.size))
  cases b
  · clear hb2 hb3 hb13
    go_wp2_with fail
    go_ret
    exact ⟨rfl, RL3.out⟩
  have Kw3 := Lib.hid (rowEB (x := v) Nw1.out hb13)
  have N03 := Lib.hid ((hb13.block g0 (lt_of_rowW N01.out)).trans N01.out)
  obtain ⟨A, hA⟩ : ∃ A, A = v.vE := ⟨_, rfl⟩
  obtain ⟨S, hS⟩ : ∃ S, S = sumL p v := ⟨_, rfl⟩
  have HA := Lib.hid hA
  have HS := Lib.hid hS
  have hl : S.length = 32 := by rw [hS]; exact sumL_len p v
  have HL := Lib.hid hl
  have CL := Lib.hid (elink_any p HP.out v w1.heap.size w3 (HV.out.below hb13) hb13.size (G.out.on hb13) (T1.out.on hb13))
  rw [← hA, ← hS] at CL
  have sp := Lib.hid (Tryz.sumSize HP.out)
  have sz := Lib.hid (Tryz.sumSize hl)
  clear hb2 hb3 hb13 CF CH hA hS hl
  go_wp2_with (first
    | (refine wpList_load_row rfl 23 (.tmp 2) rfl g0 rfl 23 (bvs p).toArray (0, 0) _ N03.out Tryz.underlying23 rfl sp.out ?_)
    | (with_reducible show wpList _ _ _ _ _ _; refine wpList_load_allW rfl 28 (.tmp 3) rfl ⟨g,0,none⟩ rfl v.cells _ Kw3.out Tryz.underlying28 rfl (Tryz.evSize v) ?_))
  refine CL.out.mono ?_
  rintro e w4 ⟨rfl, hb4⟩
  have B14 := Lib.hid (B13.out.trans (hb4.mono B13.out.size))
  clear hb4 CL
  obtain ⟨w5, hw5⟩ : ∃ w', w' = w4.alloc (.cells (bvs S).toArray 23) := ⟨_, rfl⟩
  obtain ⟨g5, hg5⟩ : ∃ g, g = w4.heap.size := ⟨_, rfl⟩
  have b45 : Below w4.heap.size w4 w5 := by rw [hw5]; exact (Below.refl _ _).alloc (Nat.le_refl _) _
  have N5 := Lib.hid (show w5.heap[g5]? = some (.cells (bvs S).toArray 23 (0, 0)) from by rw [hw5, hg5]; exact heap_alloc_new _ _)
  have B15 := Lib.hid (B14.out.trans (b45.mono B14.out.size))
  have HW5 := Lib.hid hw5
  have HG5 := Lib.hid hg5
  have so := Lib.hid (show zl32.size = (bvs S).toArray.size by rw [size_bvs HL.out]; rfl)
  have s1 := Lib.hid (all_bvsS S)
  clear hw5 hg5 b45
  go_upto_region 6 with (with_reducible show wpList _ _ _ _ _ _; refine wpList_store_newW rfl 23 (.tmp 5) (.tmp 17) rfl 23 _ (bvs S).toArray rfl rfl sz.out (by with_unfolding_all exact so.out) s1.out ?_; rw [← HW5.out, ← HG5.out])
  have Kw5 := Lib.hid (rowEB (x := v) Nw1.out B15.out)
  have CR := rcheckE_any v w1.heap.size w5 (HV.out.below B15.out) B15.out.size
  rw [← HA.out] at CR
  have HCR := Lib.hid CR
  clear CR
  go_wp2_with (first | (with_reducible show wpList _ _ _ _ _ _; refine wpList_load_allW rfl 28 (.tmp 3) rfl ⟨g,0,none⟩ rfl v.cells _ Kw5.out Tryz.underlying28 rfl (Tryz.evSize v) ?_))
  refine HCR.out.mono ?_
  rintro e w6 ⟨rfl, hb6⟩
  have B16 := Lib.hid (B15.out.trans (hb6.mono B15.out.size))
  have RL6 := Lib.hid (B01.out.trans (B16.out.mono B01.out.size))
  have N56 := Lib.hid ((hb6.block g5 (lt_of_rowW N5.out)).trans N5.out)
  clear hb6
  by_cases hA0 : A = 0
  case neg =>
    have hA1 : (A != 0) = true := by simpa using hA0
    obtain rfl : S = z32 := by rw [HS.out]; exact if_neg (by rw [← HA.out]; exact hA0)
    go_wp2_with (first
      | (refine wpList_load_row rfl 23 (.tmp 5) rfl g5 rfl 23 (bvs z32).toArray (0, 0) _ N56.out Tryz.underlying23 rfl sz.out ?_)
      | (refine wpList_eqSum rfl (.tmp 25) (.tmp 26) 23 rfl z32 HL.out rfl (by with_unfolding_all rfl) ?_))
    go_ret
    exact ⟨rfl, RL6.out⟩
  subst hA0
  have HVE := Lib.hid (show v.vE = 0 from HA.out.symm)
  have hsz := eb_len HVE.out
  have KV := Lib.hid (fun (W : World) (h : Below w6.heap.size w6 W) => rowEB (x := v) Nw1.out (B16.out.trans (h.mono B16.out.size)))
  have K5 := Lib.hid (show ∀ W, Below w6.heap.size w6 W → ∀ (j : Nat) u, (bvs S)[j]? = some u → W.cell? ((⟨g5, 0, none⟩ : Addr).add j) = some u from fun W h j u hj => by
    rw [Addr.add_mid, Nat.zero_add, cell_of_rowW W g5 j _ _ _ ((h.block g5 (lt_of_rowW N56.out)).trans N56.out)]
    simpa using hj)
  have N06 := Lib.hid ((B16.out.block g0 (lt_of_rowW N01.out)).trans N01.out)
  obtain ⟨SP, hSP⟩ : ∃ s, s = str p := ⟨_, rfl⟩
  obtain ⟨SE, hSE⟩ : ∃ s, s = str v.eb := ⟨_, rfl⟩
  obtain ⟨SQ, hSQ⟩ : ∃ s, s = SP ++ SE := ⟨_, rfl⟩
  have CO := Lib.hid (show ∀ W, Below w6.heap.size w6 W → (convert 36 9 (.slice (some ⟨g0, 0, none⟩) 32 32)).run Tryz.prog W = .ok (.string SP) W from fun W h => by
    rw [hSP, ← HP.out]
    refine run_convert_sl rfl (fun e => by cases e) (fun a ha j u hu => ?_)
    cases ha
    rw [Addr.add_mid, Nat.zero_add, cell_of_rowW W g0 j _ _ _ ((h.block g0 (lt_of_rowW N06.out)).trans N06.out)]
    simpa using hu)
  have RB := Lib.hid (show ∀ W, Below w6.heap.size w6 W → Calls Tryz.prog 17 #[.agg v.cells.toArray] W fun e w' => e = .returned (.string SE) ∧ Below W.heap.size W w' from fun W h => by
    rw [hSE]; exact rbytesE_any v w1.heap.size W (HV.out.below (B16.out.trans (h.mono B16.out.size))) HVE.out (Nat.le_trans B16.out.size h.size))
  have q1 : SP.size = 32 := by rw [hSP, str_sizeX]; exact HP.out
  have q2 : SE.size ≤ 800 := by rw [hSE, str_sizeX]; exact hsz
  have q3 : SQ.size = SP.size + SE.size := by rw [hSQ]; simp
  have RO := Lib.hid (show ∀ W, Below w6.heap.size w6 W → Calls Tryz.prog 16 #[.string SQ] W fun e w' => e = .returned (.agg (bvs S).toArray) ∧ Below W.heap.size W w' from fun W h => by
    have hr := Sm.refOf_any W SQ (by omega)
    rw [show SQ.data.toList = p ++ v.eb by rw [hSQ, hSP, hSE, str_appE]; simp [str], ← linkR p HVE.out, ← HS.out] at hr
    exact hr)
  have hz1 : ¬ maxLen < SP.size + SE.size := by unfold maxLen; omega
  have hz2 : SP.size + SE.size ≤ 832 := by omega
  have HSQ := Lib.hid hSQ
  have SLI := Lib.hid (Sm.slice32_all g0)
  have sl := Lib.hid (Tryz.sumSizeL HL.out)
  clear hsz hSP hSE hSQ q1 q2 q3
  go_upto_region 10 with fail
  trace_state
  refine wp_region_quiet_in (fun w' => Below w6.heap.size w6 w') (by kernel_rfl) (by kernel_rfl) (below_drewG (Below.refl _ _) 1) ?_
  refine wpQuiet_loadG (by kernel_rfl) 23 (.tmp 5) rfl ⟨g5, 0, none⟩ rfl (bvs S) _ (fun w' hC => K5.out w' hC) Tryz.underlying23 rfl sl.out ?_
  simp only [Act.put, List.setIfInBounds_toArray, List.set_cons_zero, List.set_cons_succ, List.getElem_toArray, List.getElem_cons_zero, List.getElem_cons_succ]
  refine wpQuiet_runG (v := .slice (some ⟨g0, 0, none⟩) 32 32) (by kernel_rfl) (fun w' hC => by have hs := SLI.out w'; go_simp) ?_
  simp only [Act.put, List.setIfInBounds_toArray, List.set_cons_zero, List.set_cons_succ, List.getElem_toArray, List.getElem_cons_zero, List.getElem_cons_succ]
  refine wpQuiet_runG (v := .string SP) (by kernel_rfl) (fun w' hC => by have hs := CO.out w' hC; go_simp) ?_
  simp only [Act.put, List.setIfInBounds_toArray, List.set_cons_zero, List.set_cons_succ, List.getElem_toArray, List.getElem_cons_zero, List.getElem_cons_succ]
  refine wpQuiet_loadG (by kernel_rfl) 28 (.tmp 3) rfl ⟨g,0,none⟩ rfl v.cells _ (fun w' hC => KV.out w' hC) Tryz.underlying28 rfl (Tryz.evSize v) ?_
  simp only [Act.put, List.setIfInBounds_toArray, List.set_cons_zero, List.set_cons_succ, List.getElem_toArray, List.getElem_cons_zero, List.getElem_cons_succ]
  refine wpQuiet_callG (f := 17) (xs := #[.tmp 31]) #[.agg v.cells.toArray] (.string SE) (by kernel_rfl) rfl Tryz.func17 (by kernel_rfl) (by kernel_rfl) (by simp [Act.eval]) (fun W hW => (RB.out W hW).mono fun e w' h => ⟨h.1, Below.trans hW (h.2.mono hW.size)⟩) ?_
  simp only [Act.put, List.setIfInBounds_toArray, List.set_cons_zero, List.set_cons_succ, List.getElem_toArray, List.getElem_cons_zero, List.getElem_cons_succ]
  refine wpQuiet_runG (v := .string SQ) (by kernel_rfl) (fun w' hC => by rw [HSQ.out]; go_simp; omega) ?_
  simp only [Act.put, List.setIfInBounds_toArray, List.set_cons_zero, List.set_cons_succ, List.getElem_toArray, List.getElem_cons_zero, List.getElem_cons_succ]
  refine wpQuiet_callG (f := 16) (xs := #[.tmp 33]) #[.string SQ] (.agg (bvs S).toArray) (by kernel_rfl) rfl Tryz.func16 (by kernel_rfl) (by kernel_rfl) (by simp [Act.eval]) (fun W hW => (RO.out W hW).mono fun e w' h => ⟨h.1, Below.trans hW (h.2.mono hW.size)⟩) ?_
  simp only [Act.put, List.setIfInBounds_toArray, List.set_cons_zero, List.set_cons_succ, List.getElem_toArray, List.getElem_cons_zero, List.getElem_cons_succ]
  refine wpQuiet_runG (v := .bool true) (by kernel_rfl) (fun w' hC => by exact exec_eql rfl S HL.out rfl rfl w') ?_
  simp only [Act.put, List.setIfInBounds_toArray, List.set_cons_zero, List.set_cons_succ, List.getElem_toArray, List.getElem_cons_zero, List.getElem_cons_succ]
  refine wpQuiet_runG (v := .bool true) (by kernel_rfl) (fun w' hC => by first | rfl | go_simp) ?_
  simp only [Act.put, List.setIfInBounds_toArray, List.set_cons_zero, List.set_cons_succ, List.getElem_toArray, List.getElem_cons_zero, List.getElem_cons_succ]
  refine wpQuiet_nil ?_
  intro wx hs
  have RL := Lib.hid (RL6.out.trans (hs.mono RL6.out.size))
  clear hs
  go_wp2_with fail
  go_ret
  exact ⟨rfl, RL.out⟩
end Go.Proofs.YtnfobnnbeefeeaaGreatDoor.Wi
