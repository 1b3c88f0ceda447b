/- The walk of CommandPrints. -/
import Derived.Test.YtnfobnnbeefeeaaGreatDoorGX
import Derived.Test.YtnfobnnbeefeeaaGreatDoorFP
import Derived.Test.YtnfobnnbeefeeaaGreatDoorFM
namespace Go.Proofs.YtnfobnnbeefeeaaGreatDoor.Wi
open Go Go.RowKit
set_option linter.unusedVariables false
set_option linter.unusedSimpArgs false
theorem bs1C (x : Cm) : List.foldl (fun cs (x : Value × Nat) => cs.setIfInBounds x.snd x.fst) #[Value.int IntKind.i64 0, Value.int IntKind.i64 0, Value.int IntKind.i64 0, Value.int IntKind.i64 0, Value.string { data := #[] }, Value.int IntKind.i64 0, Value.int IntKind.i64 0, Value.string { data := #[] }, Value.slice none 0 0] x.cells.zipIdx = x.cells.toArray := by
  obtain ⟨x1, x2, x3, x4, x5, xv⟩ := x
  obtain ⟨vk, vn, vs, va, vc, vl⟩ := xv
  simp [Cm.cells, VT.cells]
theorem bs2C (x y : Cm) : List.foldl (fun cs (x : Value × Nat) => cs.setIfInBounds (9 + x.snd) x.fst) (List.foldl (fun cs (x : Value × Nat) => cs.setIfInBounds x.snd x.fst) #[Value.int IntKind.i64 0, Value.int IntKind.i64 0, Value.int IntKind.i64 0, Value.int IntKind.i64 0, Value.string { data := #[] }, Value.int IntKind.i64 0, Value.int IntKind.i64 0, Value.string { data := #[] }, Value.slice none 0 0, Value.int IntKind.i64 0, Value.int IntKind.i64 0, Value.int IntKind.i64 0, Value.int IntKind.i64 0, Value.string { data := #[] }, Value.int IntKind.i64 0, Value.int IntKind.i64 0, Value.string { data := #[] }, Value.slice none 0 0] x.cells.zipIdx) y.cells.zipIdx = (ccs [x, y]).toArray := by
  obtain ⟨x1, x2, x3, x4, x5, xv⟩ := x
  obtain ⟨vk, vn, vs, va, vc, vl⟩ := xv
  obtain ⟨x1, x2, x3, x4, x5, xv⟩ := y
  obtain ⟨vk, vn, vs, va, vc, vl⟩ := xv
  simp [Cm.cells, VT.cells, ccs]
theorem fsz0C (l : List (Value × Nat)) : ∀ cs : Array Value, (List.foldl (fun cs (x : Value × Nat) => cs.setIfInBounds x.snd x.fst) cs l).size = cs.size := by
  induction l with
  | nil => intro cs; rfl
  | cons a l ih => intro cs; rw [List.foldl_cons, ih]; simp
set_option maxHeartbeats 16000000 in
set_option maxRecDepth 100000 in
theorem cprints_any (a b : Cm) (w : World) (ha : a.At w.heap.size w) (hb : b.At w.heap.size w) (hg : CB w.heap.size w) : Calls Tryz.prog 8 #[.agg a.cells.toArray, .agg b.cells.toArray] w fun e w' => e = .returned (.bool true) ∧ Below w.heap.size w w' := by
  obtain ⟨w0, hw0⟩ : ∃ bx, bx = w.alloc (.cells a.cells.toArray 42) := ⟨_, rfl⟩
  obtain ⟨ga, hga⟩ : ∃ bx, bx = w.heap.size := ⟨_, rfl⟩
  have bw0 : Below w.heap.size w w0 := by rw [hw0]; exact (Below.refl _ _).alloc (Nat.le_refl _) _
  have nw0 : w0.heap[ga]? = some (.cells a.cells.toArray 42 (0, 0)) := by rw [hw0, hga]; exact heap_alloc_new _ _
  have Kw0 := Lib.hid (rowC nw0)
  have Cw0 := Lib.hid (cmC nw0)
  have Hw0 := Lib.hid hw0
  have Hga := Lib.hid hga
  have Bw0 := Lib.hid bw0
  have Nw0 := Lib.hid nw0
  clear hw0 hga bw0 nw0
  obtain ⟨w1, hw1⟩ : ∃ bx, bx = w0.alloc (.cells b.cells.toArray 42) := ⟨_, rfl⟩
  obtain ⟨gb, hgb⟩ : ∃ bx, bx = w0.heap.size := ⟨_, rfl⟩
  have bw1 : Below w0.heap.size w0 w1 := by rw [hw1]; exact (Below.refl _ _).alloc (Nat.le_refl _) _
  have nw1 : w1.heap[gb]? = some (.cells b.cells.toArray 42 (0, 0)) := by rw [hw1, hgb]; exact heap_alloc_new _ _
  have Kw1 := Lib.hid (rowC nw1)
  have Cw1 := Lib.hid (cmC nw1)
  have Hw1 := Lib.hid hw1
  have Hgb := Lib.hid hgb
  have Bw1 := Lib.hid bw1
  have Nw1 := Lib.hid nw1
  clear hw1 hgb bw1 nw1
  have HGB := Lib.hid (show gb = w.heap.size + 1 by rw [Hgb.out, Hw0.out]; simp)
  have B01 := Lib.hid (Bw0.out.trans (Bw1.out.mono Bw0.out.size))
  have HA := Lib.hid ((ha.below B01.out).mono B01.out.size)
  have HB := Lib.hid ((hb.below B01.out).mono B01.out.size)
  have Nwa := Lib.hid ((Bw1.out.block ga (lt_of_rowK Nw0.out)).trans Nw0.out)
  have G := Lib.hid ((hg.on B01.out).base B01.out.size)
  have CH := Lib.hid (wants_any w1 G.out)
  clear ha hb hg
  go_enter Tryz.func8, Tryz.ntmps8
  go_upto_region 1 with fail
  rw [← Hw0.out, ← HGB.out, ← Hga.out, ← Hw1.out]
  go_wp2_with fail
  refine CH.out.mono ?_
  rintro e w2 ⟨rfl, hb2⟩
  have Ka := Lib.hid (rowCB (x := a) Nwa.out hb2)
  have Kb := Lib.hid (rowCB (x := b) Nw1.out hb2)
  have hl4 := a.cells_len
  have hl5 := b.cells_len
  have s1 : (List.foldl (fun cs (x : Value × Nat) => cs.setIfInBounds x.snd x.fst) #[Value.int IntKind.i64 0, Value.int IntKind.i64 0, Value.int IntKind.i64 0, Value.int IntKind.i64 0, Value.string { data := #[] }, Value.int IntKind.i64 0, Value.int IntKind.i64 0, Value.string { data := #[] }, Value.slice none 0 0, Value.int IntKind.i64 0, Value.int IntKind.i64 0, Value.int IntKind.i64 0, Value.int IntKind.i64 0, Value.string { data := #[] }, Value.int IntKind.i64 0, Value.int IntKind.i64 0, Value.string { data := #[] }, Value.slice none 0 0] a.cells.zipIdx).size = 18 := by rw [fsz0C]; rfl
  have CF := Lib.hid (csmall_made (w := w2) (l := [a, b]) (n := 2) rfl (fun x hx => by
    rcases List.mem_cons.1 hx with rfl | hx
    · exact (HA.out.below hb2).mono hb2.size
    · rw [List.mem_singleton.1 hx]; exact (HB.out.below hb2).mono hb2.size) (by simp))
  go_wp2_with (first | (with_reducible show wpList _ _ _ _ _ _; refine wpList_load_allW rfl 42 (.tmp 2) rfl ⟨ga,0,none⟩ rfl a.cells _ Ka.out Tryz.underlying42 rfl (Tryz.cmSize a) ?_) | (with_reducible show wpList _ _ _ _ _ _; refine wpList_load_allW rfl 42 (.tmp 3) rfl ⟨gb,0,none⟩ rfl b.cells _ Kb.out Tryz.underlying42 rfl (Tryz.cmSize b) ?_))
  clear hl4 hl5 s1
  rw [bs2C]
  refine CF.out.mono ?_
  rintro e w3 ⟨⟨q, rfl⟩, hb3⟩
  have B13 := Lib.hid (hb2.trans (hb3.mono hb2.size))
  have RL3 := Lib.hid (B01.out.trans (B13.out.mono B01.out.size))
  clear hb2 hb3
  cases q
  · go_wp2_with fail
    go_ret
    exact ⟨rfl, RL3.out⟩
  have Ka3 := Lib.hid (rowCB (x := a) Nwa.out B13.out)
  obtain ⟨E, hE⟩ : ∃ E, E = a.vE := ⟨_, rfl⟩
  have CK := rccheck_any a w1.heap.size w3 (HA.out.below B13.out) B13.out.size
  rw [← hE] at CK
  have HCK := Lib.hid CK
  have HE := Lib.hid hE
  clear CK hE
  go_wp2_with (first | (with_reducible show wpList _ _ _ _ _ _; refine wpList_loadWanted (by with_unfolding_all rfl) 42 (.tmp 2) rfl ⟨ga,0,none⟩ (by with_unfolding_all rfl) a.cells _ Ka3.out Tryz.underlying42 rfl (Tryz.cmSize a) ?_))
  refine HCK.out.mono ?_
  rintro e w4 ⟨rfl, hb4⟩
  have B14 := Lib.hid (B13.out.trans (hb4.mono B13.out.size))
  have RL4 := Lib.hid (B01.out.trans (B14.out.mono B01.out.size))
  clear hb4
  by_cases hE0 : E = 0
  case neg =>
    have hE1 : (E != 0) = true := by simpa using hE0
    go_wp2_with fail
    go_ret
    exact ⟨rfl, RL4.out⟩
  subst hE0
  have Kb4 := Lib.hid (rowCB (x := b) Nw1.out B14.out)
  obtain ⟨E, hE⟩ : ∃ E, E = b.vE := ⟨_, rfl⟩
  have CK := rccheck_any b w1.heap.size w4 (HB.out.below B14.out) B14.out.size
  rw [← hE] at CK
  have HCK2 := Lib.hid CK
  have HE2 := Lib.hid hE
  clear CK hE
  go_wp2_with (first | (with_reducible show wpList _ _ _ _ _ _; refine wpList_loadWanted (by with_unfolding_all rfl) 42 (.tmp 3) rfl ⟨gb,0,none⟩ (by with_unfolding_all rfl) b.cells _ Kb4.out Tryz.underlying42 rfl (Tryz.cmSize b) ?_))
  refine HCK2.out.mono ?_
  rintro e w5 ⟨rfl, hb5⟩
  have B15 := Lib.hid (B14.out.trans (hb5.mono B14.out.size))
  have RL5 := Lib.hid (B01.out.trans (B15.out.mono B01.out.size))
  clear hb5
  by_cases hE0 : E = 0
  case neg =>
    have hE1 : (E != 0) = true := by simpa using hE0
    go_wp2_with fail
    go_ret
    exact ⟨rfl, RL5.out⟩
  subst hE0
  have HVA := Lib.hid (show a.vE = 0 from HE.out.symm)
  have HVB := Lib.hid (show b.vE = 0 from HE2.out.symm)
  have FA := Lib.hid (fine (Cm.fits HVA.out).val.1)
  have FB := Lib.hid (fine (Cm.fits HVB.out).val.1)
  have NA := Lib.hid (show a.Num from ⟨HA.out.a.2, HA.out.b.2, HA.out.val.num⟩)
  have NB := Lib.hid (show b.Num from ⟨HB.out.a.2, HB.out.b.2, HB.out.val.num⟩)
  have KA := Lib.hid (fun (W : World) (h : Below w5.heap.size w5 W) => rowCB (x := a) Nwa.out (B15.out.trans (h.mono B15.out.size)))
  have KB := Lib.hid (fun (W : World) (h : Below w5.heap.size w5 W) => rowCB (x := b) Nw1.out (B15.out.trans (h.mono B15.out.size)))
  have RLF := Lib.hid (fun (W : World) (h : Below w5.heap.size w5 W) => RL5.out.trans (h.mono RL5.out.size))
  have HA5 := Lib.hid ((HA.out.below B15.out).mono B15.out.size)
  have HB5 := Lib.hid ((HB.out.below B15.out).mono B15.out.size)
  have G5 := Lib.hid ((G.out.on B15.out).base B15.out.size)
  obtain ⟨SA, hSA⟩ : ∃ S, S = str a.ln := ⟨_, rfl⟩
  obtain ⟨SB, hSB⟩ : ∃ S, S = str b.ln := ⟨_, rfl⟩
  obtain ⟨Q, hQ⟩ : ∃ Q, Q = a.same b := ⟨_, rfl⟩
  have hq : (SA.toList == SB.toList) = Q := by
    rw [hSA, hSB, str_eqE, hQ, Cm.same_ln NA.out NB.out HVA.out HVB.out]
    apply Bool.eq_iff_iff.2
    rw [beq_iff_eq, decide_eq_true_eq]
  have PA := Lib.hid (fun (W : World) (h : Below w5.heap.size w5 W) => show Calls Tryz.prog 38 #[.agg a.cells.toArray] W fun e w' => e = .returned (.string SA) ∧ Below W.heap.size W w' from by
    rw [hSA]; exact cprint_any a w5.heap.size W (HA5.out.below h) HVA.out h.size (G5.out.on h))
  have PB := Lib.hid (fun (W : World) (h : Below w5.heap.size w5 W) => show Calls Tryz.prog 38 #[.agg b.cells.toArray] W fun e w' => e = .returned (.string SB) ∧ Below W.heap.size W w' from by
    rw [hSB]; exact cprint_any b w5.heap.size W (HB5.out.below h) HVB.out h.size (G5.out.on h))
  have LA := Lib.hid (fun (W : World) (h : Below w5.heap.size w5 W) => show Calls Tryz.prog 28 #[.agg a.cells.toArray] W fun e w' => e = .returned (.string SA) ∧ Below W.heap.size W w' from by
    rw [hSA]; exact rcline_any a w5.heap.size W (HA5.out.below h) HVA.out h.size)
  have LB := Lib.hid (fun (W : World) (h : Below w5.heap.size w5 W) => show Calls Tryz.prog 28 #[.agg b.cells.toArray] W fun e w' => e = .returned (.string SB) ∧ Below W.heap.size W w' from by
    rw [hSB]; exact rcline_any b w5.heap.size W (HB5.out.below h) HVB.out h.size)
  have SM := Lib.hid (fun (W : World) (h : Below w5.heap.size w5 W) => show Calls Tryz.prog 27 #[.agg a.cells.toArray, .agg b.cells.toArray] W fun e w' => e = .returned (.bool Q) ∧ Below W.heap.size W w' from by
    rw [hQ]; exact csame_any a b FA.out.dpr w5.heap.size W (HA5.out.below h) (HB5.out.below h) h.size)
  clear hSA hSB hQ
  have HQ := Lib.hid hq
  clear hq
  go_upto_region 5 with fail
  refine wp_region_quiet_in (fun w' => Below w5.heap.size w5 w') (by kernel_rfl) (by kernel_rfl) (below_drewG (Below.refl _ _) 1) ?_
  refine wpQuiet_loadG (by kernel_rfl) 42 (.tmp 2) rfl ⟨ga,0,none⟩ rfl a.cells _ (fun w' hC => KA.out w' hC) Tryz.underlying42 rfl (Tryz.cmSize a) ?_
  simp only [Act.put, List.setIfInBounds_toArray, List.set_cons_zero, List.set_cons_succ, List.getElem_toArray, List.getElem_cons_zero, List.getElem_cons_succ]
  refine wpQuiet_callG (f := 38) (xs := #[.tmp 24]) #[.agg a.cells.toArray] (.string SA) (by kernel_rfl) rfl Tryz.func38 (by kernel_rfl) (by kernel_rfl) (by simp [Act.eval]) (fun W hW => (PA.out W hW).mono fun e w' h => ⟨h.1, Below.trans hW (h.2.mono hW.size)⟩) ?_
  simp only [Act.put, List.setIfInBounds_toArray, List.set_cons_zero, List.set_cons_succ, List.getElem_toArray, List.getElem_cons_zero, List.getElem_cons_succ]
  refine wpQuiet_loadG (by kernel_rfl) 42 (.tmp 3) rfl ⟨gb,0,none⟩ rfl b.cells _ (fun w' hC => KB.out w' hC) Tryz.underlying42 rfl (Tryz.cmSize b) ?_
  simp only [Act.put, List.setIfInBounds_toArray, List.set_cons_zero, List.set_cons_succ, List.getElem_toArray, List.getElem_cons_zero, List.getElem_cons_succ]
  refine wpQuiet_callG (f := 38) (xs := #[.tmp 26]) #[.agg b.cells.toArray] (.string SB) (by kernel_rfl) rfl Tryz.func38 (by kernel_rfl) (by kernel_rfl) (by simp [Act.eval]) (fun W hW => (PB.out W hW).mono fun e w' h => ⟨h.1, Below.trans hW (h.2.mono hW.size)⟩) ?_
  simp only [Act.put, List.setIfInBounds_toArray, List.set_cons_zero, List.set_cons_succ, List.getElem_toArray, List.getElem_cons_zero, List.getElem_cons_succ]
  refine wpQuiet_runG (v := .string SA) (by kernel_rfl) (fun w' hC => by first | rfl | go_simp) ?_
  simp only [Act.put, List.setIfInBounds_toArray, List.set_cons_zero, List.set_cons_succ, List.getElem_toArray, List.getElem_cons_zero, List.getElem_cons_succ]
  refine wpQuiet_runG (v := .string SB) (by kernel_rfl) (fun w' hC => by first | rfl | go_simp) ?_
  simp only [Act.put, List.setIfInBounds_toArray, List.set_cons_zero, List.set_cons_succ, List.getElem_toArray, List.getElem_cons_zero, List.getElem_cons_succ]
  refine wpQuiet_nil ?_
  intro wx hs
  have HS := Lib.hid hs
  clear hs
  have hq := HQ.out
  have K1 := Lib.hid (KA.out wx HS.out)
  go_wp2_with (with_reducible show wpList _ _ _ _ _ _; refine wpList_load_allW rfl 42 (.tmp 2) rfl ⟨ga,0,none⟩ rfl a.cells _ K1.out Tryz.underlying42 rfl (Tryz.cmSize a) ?_)
  refine (LA.out wx HS.out).mono ?_
  rintro e x1 ⟨rfl, hx1⟩
  have H1 := Lib.hid (HS.out.trans (hx1.mono HS.out.size))
  clear hx1
  have K2 := Lib.hid (KB.out x1 H1.out)
  go_wp2_with (with_reducible show wpList _ _ _ _ _ _; refine wpList_loadWanted (by with_unfolding_all rfl) 42 (.tmp 3) rfl ⟨gb,0,none⟩ (by with_unfolding_all rfl) b.cells _ K2.out Tryz.underlying42 rfl (Tryz.cmSize b) ?_)
  refine (LB.out x1 H1.out).mono ?_
  rintro e x2 ⟨rfl, hx2⟩
  have H2 := Lib.hid (H1.out.trans (hx2.mono H1.out.size))
  clear hx2
  have K3 := Lib.hid (KA.out x2 H2.out)
  have K4 := Lib.hid (KB.out x2 H2.out)
  go_wp2_with (first | (with_reducible show wpList _ _ _ _ _ _; refine wpList_loadWanted (by with_unfolding_all rfl) 42 (.tmp 2) rfl ⟨ga,0,none⟩ (by with_unfolding_all rfl) a.cells _ K3.out Tryz.underlying42 rfl (Tryz.cmSize a) ?_) | (with_reducible show wpList _ _ _ _ _ _; refine wpList_loadWanted (by with_unfolding_all rfl) 42 (.tmp 3) rfl ⟨gb,0,none⟩ (by with_unfolding_all rfl) b.cells _ K4.out Tryz.underlying42 rfl (Tryz.cmSize b) ?_))
  refine (SM.out x2 H2.out).mono ?_
  rintro e x3 ⟨rfl, hx3⟩
  have RL := Lib.hid (RLF.out x3 (H2.out.trans (hx3.mono H2.out.size)))
  clear hx3
  go_wp2_with fail
  go_ret
  exact ⟨rfl, RL.out⟩
end Go.Proofs.YtnfobnnbeefeeaaGreatDoor.Wi
