/- The walk of ValueOrder. -/
import Derived.Test.YthfjahagmfgfeaaGreatDoorH4
namespace Go.Proofs.YthfjahagmfgfeaaGreatDoor.Wi
open Go Go.RowKit
set_option linter.unusedVariables false
set_option linter.unusedSimpArgs false
theorem bs3 (x y z : VT) : List.foldl (fun cs (x : Value × Nat) => cs.setIfInBounds (8 + x.snd) x.fst) (List.foldl (fun cs (x : Value × Nat) => cs.setIfInBounds (4 + x.snd) x.fst) (List.foldl (fun cs (x : Value × Nat) => cs.setIfInBounds x.snd x.fst) #[Value.int IntKind.i64 0, Value.int IntKind.i64 0, Value.string { data := #[] }, Value.slice none 0 0, Value.int IntKind.i64 0, Value.int IntKind.i64 0, Value.string { data := #[] }, Value.slice none 0 0, Value.int IntKind.i64 0, Value.int IntKind.i64 0, Value.string { data := #[] }, Value.slice none 0 0] x.cells.zipIdx) y.cells.zipIdx) z.cells.zipIdx = (vcs [x, y, z]).toArray := by
  cases x
  cases y
  cases z
  simp [VT.cells, vcs]
theorem fsz0 : ∀ (l : List (Value × Nat)) (A : Array Value), (List.foldl (fun cs (x : Value × Nat) => cs.setIfInBounds x.snd x.fst) A l).size = A.size
  | [], A => rfl
  | x :: l, A => by rw [List.foldl_cons, fsz0 l, Array.size_setIfInBounds]
theorem fszk (k : Nat) : ∀ (l : List (Value × Nat)) (A : Array Value), (List.foldl (fun cs (x : Value × Nat) => cs.setIfInBounds (k + x.snd) x.fst) A l).size = A.size
  | [], A => rfl
  | x :: l, A => by rw [List.foldl_cons, fszk k l, Array.size_setIfInBounds]
set_option maxHeartbeats 16000000 in
set_option maxRecDepth 100000 in
theorem order_any (a b c : VT) (w : World) (ha : a.At w.heap.size w) (hb : b.At w.heap.size w) (hc : c.At w.heap.size w) (hg : GB w.heap.size w) : Calls Tryz.prog 6 #[.agg a.cells.toArray, .agg b.cells.toArray, .agg c.cells.toArray] w fun e w' => e = .returned (.bool true) ∧ Below w.heap.size w w' := by
  obtain ⟨w1, hw1⟩ : ∃ x, x = w.alloc (.cells a.cells.toArray 24) := ⟨_, rfl⟩
  obtain ⟨w2, hw2⟩ : ∃ x, x = w1.alloc (.cells b.cells.toArray 24) := ⟨_, rfl⟩
  obtain ⟨w3, hw3⟩ : ∃ x, x = w2.alloc (.cells c.cells.toArray 24) := ⟨_, rfl⟩
  obtain ⟨g1, hg1⟩ : ∃ x, x = w.heap.size := ⟨_, rfl⟩
  obtain ⟨g2, hg2⟩ : ∃ x, x = w.heap.size + 1 := ⟨_, rfl⟩
  obtain ⟨g3, hg3⟩ : ∃ x, x = w.heap.size + 1 + 1 := ⟨_, rfl⟩
  have hg2' : g2 = w1.heap.size := by rw [hg2, hw1]; simp
  have hg3' : g3 = w2.heap.size := by rw [hg3, hw2, hw1]; simp
  have b1 : Below w.heap.size w w1 := by rw [hw1]; exact (Below.refl _ _).alloc (Nat.le_refl _) _
  have b2 : Below w1.heap.size w1 w2 := by rw [hw2]; exact (Below.refl _ _).alloc (Nat.le_refl _) _
  have b3 : Below w2.heap.size w2 w3 := by rw [hw3]; exact (Below.refl _ _).alloc (Nat.le_refl _) _
  have n1 : w1.heap[g1]? = some (.cells a.cells.toArray 24 (0, 0)) := by rw [hw1, hg1]; exact heap_alloc_new _ _
  have n2 : w2.heap[g2]? = some (.cells b.cells.toArray 24 (0, 0)) := by rw [hw2, hg2']; exact heap_alloc_new _ _
  have n3 : w3.heap[g3]? = some (.cells c.cells.toArray 24 (0, 0)) := by rw [hw3, hg3']; exact heap_alloc_new _ _
  have b23 := b2.trans (b3.mono b2.size)
  have b13 : Below w.heap.size w w3 := b1.trans (b23.mono b1.size)
  have n13 := (b23.block g1 (lt_of_rowK n1)).trans n1
  have n23 := (b3.block g2 (lt_of_rowK n2)).trans n2
  have A1 := Lib.hid (fun (W : World) (h : Below w3.heap.size w3 W) => rowB (v := a) n13 h)
  have B1 := Lib.hid (fun (W : World) (h : Below w3.heap.size w3 W) => rowB (v := b) n23 h)
  have C1 := Lib.hid (fun (W : World) (h : Below w3.heap.size w3 W) => rowB (v := c) n3 h)
  have HA := Lib.hid ((ha.below b13).mono b13.size)
  have HB := Lib.hid ((hb.below b13).mono b13.size)
  have HC := Lib.hid ((hc.below b13).mono b13.size)
  have G := Lib.hid ((hg.on b13).base b13.size)
  have CH := Lib.hid (holds_any w3 G.out)
  have HW1 := Lib.hid hw1
  have HW2 := Lib.hid hw2
  have HW3 := Lib.hid hw3
  have HG1 := Lib.hid hg1
  have HG2 := Lib.hid hg2
  have HG3 := Lib.hid hg3
  have B0 := Lib.hid b13
  have SZ := Lib.hid Tryz.valSize
  clear hw1 hw2 hw3 hg1 hg2 hg3 hg2' hg3' b1 b2 b3 n1 n2 n3 b23 b13 n13 n23 ha hb hc hg
  go_enter Tryz.func6, Tryz.ntmps6
  go_upto_region 1 with fail
  rw [← HW1.out, ← HW2.out, ← HW3.out, ← HG3.out, ← HG2.out, ← HG1.out]
  go_wp2_with fail
  refine CH.out.mono ?_
  rintro e w4 ⟨rfl, hb4⟩
  have ka := Lib.hid (A1.out w4 hb4)
  have kb := Lib.hid (B1.out w4 hb4)
  have kc := Lib.hid (C1.out w4 hb4)
  have la := a.cells_len
  have lb := b.cells_len
  have lc := c.cells_len
  have s1 : (List.foldl (fun cs (x : Value × Nat) => cs.setIfInBounds x.snd x.fst) #[Value.int IntKind.i64 0, Value.int IntKind.i64 0, Value.string { data := #[] }, Value.slice none 0 0, Value.int IntKind.i64 0, Value.int IntKind.i64 0, Value.string { data := #[] }, Value.slice none 0 0, Value.int IntKind.i64 0, Value.int IntKind.i64 0, Value.string { data := #[] }, Value.slice none 0 0] a.cells.zipIdx).size = 12 := by rw [fsz0]; rfl
  have s2 : (List.foldl (fun cs (x : Value × Nat) => cs.setIfInBounds (4 + x.snd) x.fst) (List.foldl (fun cs (x : Value × Nat) => cs.setIfInBounds x.snd x.fst) #[Value.int IntKind.i64 0, Value.int IntKind.i64 0, Value.string { data := #[] }, Value.slice none 0 0, Value.int IntKind.i64 0, Value.int IntKind.i64 0, Value.string { data := #[] }, Value.slice none 0 0, Value.int IntKind.i64 0, Value.int IntKind.i64 0, Value.string { data := #[] }, Value.slice none 0 0] a.cells.zipIdx) b.cells.zipIdx).size = 12 := by rw [fszk, fsz0]; rfl
  go_wp2_with (first
    | (with_reducible show wpList _ _ _ _ _ _; refine wpList_load_allW rfl 24 (.tmp 3) rfl ⟨g1,0,none⟩ rfl a.cells _ ka.out Tryz.underlying24 rfl (Tryz.valSize a) ?_)
    | (with_reducible show wpList _ _ _ _ _ _; refine wpList_load_allW rfl 24 (.tmp 4) rfl ⟨g2,0,none⟩ rfl b.cells _ kb.out Tryz.underlying24 rfl (Tryz.valSize b) ?_)
    | (with_reducible show wpList _ _ _ _ _ _; refine wpList_load_allW rfl 24 (.tmp 5) rfl ⟨g3,0,none⟩ rfl c.cells _ kc.out Tryz.underlying24 rfl (Tryz.valSize c) ?_))
  rw [bs3]
  clear la lb lc s1 s2
  have hl0 := list_new (w := w4) (l := [a, b, c]) (c := 3) (by simp) (fun q hq => by
    have h : q = a ∨ q = b ∨ q = c := by simpa using hq
    rcases h with rfl | rfl | rfl
    · exact (HA.out.below hb4).mono hb4.size
    · exact (HB.out.below hb4).mono hb4.size
    · exact (HC.out.below hb4).mono hb4.size)
  have hb5 : Below w4.heap.size w4 (w4.alloc (.cells (vcs [a, b, c]).toArray 24)) := (Below.refl _ _).alloc (Nat.le_refl _) _
  refine (fits_any (some ⟨w4.heap.size, 0, none⟩) 3 [a, b, c] _ _ hl0 (Nat.le_refl _)).mono ?_
  rintro e w5 ⟨⟨bb, rfl⟩, hb6⟩
  have hb35 : Below w3.heap.size w3 w5 := hb4.trans ((hb5.mono hb4.size).trans (hb6.mono (Nat.le_trans hb4.size hb5.size)))
  have FIN := Lib.hid (fun (W : World) (h : Below w3.heap.size w3 W) => B0.out.trans (h.mono B0.out.size))
  have H5 := Lib.hid hb35
  clear hl0 hb5 hb6 hb4 hb35
  cases bb
  · go_wp2_with fail
    go_ret
    exact ⟨rfl, FIN.out w5 H5.out⟩
  have k5 := Lib.hid (A1.out w5 H5.out)
  have CG5 := good_any a w3.heap.size w5 (HA.out.below H5.out) H5.out.size
  obtain ⟨E5, hE5⟩ : ∃ E, E = decide (a.vE = 0) := ⟨_, rfl⟩
  rw [← hE5] at CG5
  have HE5 := Lib.hid hE5
  have HCG5 := Lib.hid CG5
  clear hE5 CG5
  go_wp2_with (first
    | (with_reducible show wpList _ _ _ _ _ _; refine wpList_loadWanted (by with_unfolding_all rfl) 24 (.tmp 3) rfl ⟨g1,0,none⟩ (by with_unfolding_all rfl) a.cells _ k5.out Tryz.underlying24 rfl (Tryz.valSize a) ?_))
  refine HCG5.out.mono ?_
  rintro e w6 ⟨rfl, hb6⟩
  have H6 := Lib.hid (H5.out.trans (hb6.mono H5.out.size))
  clear hb6
  cases E5
  · go_wp2_with fail
    go_ret
    exact ⟨rfl, FIN.out w6 H6.out⟩
  have k6 := Lib.hid (B1.out w6 H6.out)
  have CG6 := good_any b w3.heap.size w6 (HB.out.below H6.out) H6.out.size
  obtain ⟨E6, hE6⟩ : ∃ E, E = decide (b.vE = 0) := ⟨_, rfl⟩
  rw [← hE6] at CG6
  have HE6 := Lib.hid hE6
  have HCG6 := Lib.hid CG6
  clear hE6 CG6
  go_wp2_with (first
    | (with_reducible show wpList _ _ _ _ _ _; refine wpList_loadWanted (by with_unfolding_all rfl) 24 (.tmp 4) rfl ⟨g2,0,none⟩ (by with_unfolding_all rfl) b.cells _ k6.out Tryz.underlying24 rfl (Tryz.valSize b) ?_))
  refine HCG6.out.mono ?_
  rintro e w7 ⟨rfl, hb7⟩
  have H7 := Lib.hid (H6.out.trans (hb7.mono H6.out.size))
  clear hb7
  cases E6
  · go_wp2_with fail
    go_ret
    exact ⟨rfl, FIN.out w7 H7.out⟩
  have k7 := Lib.hid (C1.out w7 H7.out)
  have CG7 := good_any c w3.heap.size w7 (HC.out.below H7.out) H7.out.size
  obtain ⟨E7, hE7⟩ : ∃ E, E = decide (c.vE = 0) := ⟨_, rfl⟩
  rw [← hE7] at CG7
  have HE7 := Lib.hid hE7
  have HCG7 := Lib.hid CG7
  clear hE7 CG7
  go_wp2_with (first
    | (with_reducible show wpList _ _ _ _ _ _; refine wpList_loadWanted (by with_unfolding_all rfl) 24 (.tmp 5) rfl ⟨g3,0,none⟩ (by with_unfolding_all rfl) c.cells _ k7.out Tryz.underlying24 rfl (Tryz.valSize c) ?_))
  refine HCG7.out.mono ?_
  rintro e w8 ⟨rfl, hb8⟩
  have H8 := Lib.hid (H7.out.trans (hb8.mono H7.out.size))
  clear hb8
  cases E7
  · go_wp2_with fail
    go_ret
    exact ⟨rfl, FIN.out w8 H8.out⟩
  have EA := Lib.hid (of_decide_eq_true HE5.out.symm)
  have EB := Lib.hid (of_decide_eq_true HE6.out.symm)
  have EC := Lib.hid (of_decide_eq_true HE7.out.symm)
  have FA := Lib.hid (fine EA.out)
  have FB := Lib.hid (fine EB.out)
  have FC := Lib.hid (fine EC.out)
  have UP := Lib.hid (fun (W : World) (h : Below w8.heap.size w8 W) => H8.out.trans (h.mono H8.out.size))
  have KA := Lib.hid (fun (W : World) (h : Below w8.heap.size w8 W) => A1.out W (UP.out W h))
  have KB := Lib.hid (fun (W : World) (h : Below w8.heap.size w8 W) => B1.out W (UP.out W h))
  have KC := Lib.hid (fun (W : World) (h : Below w8.heap.size w8 W) => C1.out W (UP.out W h))
  obtain ⟨x, hx⟩ : ∃ x, x = a.cmp b := ⟨_, rfl⟩
  obtain ⟨y, hy⟩ : ∃ y, y = a.rcmp b := ⟨_, rfl⟩
  obtain ⟨u, hu⟩ : ∃ u, u = b.cmp c := ⟨_, rfl⟩
  obtain ⟨t, ht⟩ : ∃ t, t = a.cmp c := ⟨_, rfl⟩
  obtain ⟨z, hz⟩ : ∃ z, z = b.cmp a := ⟨_, rfl⟩
  have hzx : z = -x := by rw [hz, hx]; exact cmp_anti a b
  have hsg : Sg y x := by rw [hy, hx]; exact rcmp_sg a b
  have hT : T3 x u t := by rw [hx, hu, ht]; exact cmp_T3 a b c
  have hvb : x = 0 ↔ a.vb = b.vb := by rw [hx, cmp_zero a FA.out.kin b, vb_inj HA.out.num HB.out.num EA.out EB.out]
  have CX := Lib.hid (fun (W : World) (h : Below w8.heap.size w8 W) => show Calls Tryz.prog 27 #[.agg a.cells.toArray, .agg b.cells.toArray] W fun e w' => e = .returned (.int .i64 x) ∧ Below W.heap.size W w' from by
    rw [hx]; exact vcompare_any a b FA.out.dpr w3.heap.size W (HA.out.below (UP.out W h)) (HB.out.below (UP.out W h)) (UP.out W h).size)
  have CZ := Lib.hid (fun (W : World) (h : Below w8.heap.size w8 W) => show Calls Tryz.prog 27 #[.agg b.cells.toArray, .agg a.cells.toArray] W fun e w' => e = .returned (.int .i64 z) ∧ Below W.heap.size W w' from by
    rw [hz]; exact vcompare_any b a FB.out.dpr w3.heap.size W (HB.out.below (UP.out W h)) (HA.out.below (UP.out W h)) (UP.out W h).size)
  have CU := Lib.hid (fun (W : World) (h : Below w8.heap.size w8 W) => show Calls Tryz.prog 27 #[.agg b.cells.toArray, .agg c.cells.toArray] W fun e w' => e = .returned (.int .i64 u) ∧ Below W.heap.size W w' from by
    rw [hu]; exact vcompare_any b c FB.out.dpr w3.heap.size W (HB.out.below (UP.out W h)) (HC.out.below (UP.out W h)) (UP.out W h).size)
  have CT := Lib.hid (fun (W : World) (h : Below w8.heap.size w8 W) => show Calls Tryz.prog 27 #[.agg a.cells.toArray, .agg c.cells.toArray] W fun e w' => e = .returned (.int .i64 t) ∧ Below W.heap.size W w' from by
    rw [ht]; exact vcompare_any a c FA.out.dpr w3.heap.size W (HA.out.below (UP.out W h)) (HC.out.below (UP.out W h)) (UP.out W h).size)
  have CY := Lib.hid (fun (W : World) (h : Below w8.heap.size w8 W) => show Calls Tryz.prog 20 #[.agg a.cells.toArray, .agg b.cells.toArray] W fun e w' => e = .returned (.int .i64 y) ∧ Below W.heap.size W w' from by
    rw [hy]; exact rcompare_any a b w3.heap.size W FA.out.kin FB.out.kin (HA.out.below (UP.out W h)) (HB.out.below (UP.out W h)) (UP.out W h).size)
  obtain ⟨sb, hsb⟩ : ∃ sb, sb = decide (x = 0) := ⟨_, rfl⟩
  have CS := Lib.hid (fun (W : World) (h : Below w8.heap.size w8 W) => show Calls Tryz.prog 19 #[.agg a.cells.toArray, .agg b.cells.toArray] W fun e w' => e = .returned (.bool sb) ∧ Below W.heap.size W w' from by
    rw [hsb, hx]; exact vsame_any a b FA.out.dpr w3.heap.size W (HA.out.below (UP.out W h)) (HB.out.below (UP.out W h)) (UP.out W h).size)
  obtain ⟨SA, hSA⟩ : ∃ S, S = str a.vb := ⟨_, rfl⟩
  obtain ⟨SB, hSB⟩ : ∃ S, S = str b.vb := ⟨_, rfl⟩
  have CBA := Lib.hid (fun (W : World) (h : Below w8.heap.size w8 W) => show Calls Tryz.prog 18 #[.agg a.cells.toArray] W fun e w' => e = .returned (.string SA) ∧ Below W.heap.size W w' from by
    rw [hSA]; exact rbytes_any a w3.heap.size W (HA.out.below (UP.out W h)) FA.out.kin (by have := FA.out.vb; omega) (UP.out W h).size)
  have CBB := Lib.hid (fun (W : World) (h : Below w8.heap.size w8 W) => show Calls Tryz.prog 18 #[.agg b.cells.toArray] W fun e w' => e = .returned (.string SB) ∧ Below W.heap.size W w' from by
    rw [hSB]; exact rbytes_any b w3.heap.size W (HB.out.below (UP.out W h)) FB.out.kin (by have := FB.out.vb; omega) (UP.out W h).size)
  have HSE := Lib.hid (show (SA.toList == SB.toList) = decide (x = 0) by
    rw [hSA, hSB, beq_strV]
    exact decide_eq_decide.2 hvb.symm)
  have HZX := Lib.hid hzx
  have HSG := Lib.hid hsg
  have HT3 := Lib.hid hT
  have HSB := Lib.hid hsb
  clear hx hy hu ht hz hzx hsg hT hvb hSA hSB hsb HA HB HC EA EB EC FA FB FC HE5 HE6 HE7 HCG5 HCG6 HCG7 k5 k6 k7 ka kb kc A1 B1 C1 G CH H5 H6 H7
  go_upto_region 5 with fail
  rcases (show x < 0 ∨ x = 0 ∨ 0 < x by omega) with hx | hx | hx
  · have hy : y < 0 := HSG.out.1.2 hx
    have hz : 0 < z := by have := HZX.out; omega
    obtain rfl : sb = false := by rw [HSB.out]; exact decide_eq_false (by omega)
    have hSE : (SA.toList == SB.toList) = false := by rw [HSE.out]; exact decide_eq_false (by omega)
    have hy2 : (y == 0) = false := by simp; omega
    have hx2 : ¬ 0 < x := by omega
    have hx3 : x ≤ 0 := by omega
    have hy3 : ¬ 0 < y := by omega
    have hzd : decide (z < 0) = false := decide_eq_false (by omega)
    have hxd : decide (0 < x) = false := decide_eq_false (by omega)
    have HSE' := Lib.hid hSE
    clear hSE
    refine wp_region_quiet_in (fun w' => Below w8.heap.size w8 w') (by kernel_rfl) (by kernel_rfl) (below_drewG (Below.refl w8.heap.size w8) 1) ?_
    refine wpQuiet_loadG (by kernel_rfl) 24 (.tmp 3) rfl ⟨g1, 0, none⟩ rfl a.cells _ (fun w' hC => KA.out w' hC) Tryz.underlying24 rfl (SZ.out a) ?_
    simp only [Act.put, List.setIfInBounds_toArray, List.set_cons_zero, List.set_cons_succ, List.getElem_toArray, List.getElem_cons_zero, List.getElem_cons_succ]
    refine wpQuiet_loadG (by kernel_rfl) 24 (.tmp 4) rfl ⟨g2, 0, none⟩ rfl b.cells _ (fun w' hC => KB.out w' hC) Tryz.underlying24 rfl (SZ.out b) ?_
    simp only [Act.put, List.setIfInBounds_toArray, List.set_cons_zero, List.set_cons_succ, List.getElem_toArray, List.getElem_cons_zero, List.getElem_cons_succ]
    refine wpQuiet_callG (f := 27) (xs := #[.tmp 32, .tmp 33]) #[.agg a.cells.toArray, .agg b.cells.toArray] (.int .i64 x) (by kernel_rfl) rfl Tryz.func27 (by kernel_rfl) (by kernel_rfl) (by simp [Act.eval]) (fun W hW => (CX.out W hW).mono fun e w' h => ⟨h.1, Below.trans hW (h.2.mono hW.size)⟩) ?_
    simp only [Act.put, List.setIfInBounds_toArray, List.set_cons_zero, List.set_cons_succ, List.getElem_toArray, List.getElem_cons_zero, List.getElem_cons_succ]
    refine wpQuiet_loadG (by kernel_rfl) 24 (.tmp 3) rfl ⟨g1, 0, none⟩ rfl a.cells _ (fun w' hC => KA.out w' hC) Tryz.underlying24 rfl (SZ.out a) ?_
    simp only [Act.put, List.setIfInBounds_toArray, List.set_cons_zero, List.set_cons_succ, List.getElem_toArray, List.getElem_cons_zero, List.getElem_cons_succ]
    refine wpQuiet_loadG (by kernel_rfl) 24 (.tmp 4) rfl ⟨g2, 0, none⟩ rfl b.cells _ (fun w' hC => KB.out w' hC) Tryz.underlying24 rfl (SZ.out b) ?_
    simp only [Act.put, List.setIfInBounds_toArray, List.set_cons_zero, List.set_cons_succ, List.getElem_toArray, List.getElem_cons_zero, List.getElem_cons_succ]
    refine wpQuiet_callG (f := 20) (xs := #[.tmp 35, .tmp 36]) #[.agg a.cells.toArray, .agg b.cells.toArray] (.int .i64 y) (by kernel_rfl) rfl Tryz.func20 (by kernel_rfl) (by kernel_rfl) (by simp [Act.eval]) (fun W hW => (CY.out W hW).mono fun e w' h => ⟨h.1, Below.trans hW (h.2.mono hW.size)⟩) ?_
    simp only [Act.put, List.setIfInBounds_toArray, List.set_cons_zero, List.set_cons_succ, List.getElem_toArray, List.getElem_cons_zero, List.getElem_cons_succ]
    refine wpQuiet_runG (v := .int .i64 x) (by kernel_rfl) (fun w' hC => by rfl) ?_
    simp only [Act.put, List.setIfInBounds_toArray, List.set_cons_zero, List.set_cons_succ, List.getElem_toArray, List.getElem_cons_zero, List.getElem_cons_succ]
    refine wpQuiet_runG (v := .int .i64 y) (by kernel_rfl) (fun w' hC => by rfl) ?_
    simp only [Act.put, List.setIfInBounds_toArray, List.set_cons_zero, List.set_cons_succ, List.getElem_toArray, List.getElem_cons_zero, List.getElem_cons_succ]
    refine wpQuiet_nil ?_
    intro wa hCa
    have ka := Lib.hid (KA.out wa hCa)
    have kb := Lib.hid (KB.out wa hCa)
    go_wp2_with (first
      | (with_reducible show wpList _ _ _ _ _ _; refine wpList_loadWanted (by with_unfolding_all rfl) 24 (.tmp 3) rfl ⟨g1,0,none⟩ (by with_unfolding_all rfl) a.cells _ ka.out Tryz.underlying24 rfl (Tryz.valSize a) ?_)
      | (with_reducible show wpList _ _ _ _ _ _; refine wpList_loadWanted (by with_unfolding_all rfl) 24 (.tmp 4) rfl ⟨g2,0,none⟩ (by with_unfolding_all rfl) b.cells _ kb.out Tryz.underlying24 rfl (Tryz.valSize b) ?_))
    refine (CS.out wa hCa).mono ?_
    rintro e wb ⟨rfl, hab⟩
    have hCb := hCa.trans (hab.mono hCa.size)
    have ka2 := Lib.hid (KA.out wb hCb)
    have kb2 := Lib.hid (KB.out wb hCb)
    clear hab hCa
    go_wp2_with (first
      | (with_reducible show wpList _ _ _ _ _ _; refine wpList_loadWanted (by with_unfolding_all rfl) 24 (.tmp 3) rfl ⟨g1,0,none⟩ (by with_unfolding_all rfl) a.cells _ ka2.out Tryz.underlying24 rfl (Tryz.valSize a) ?_)
      | (with_reducible show wpList _ _ _ _ _ _; refine wpList_loadWanted (by with_unfolding_all rfl) 24 (.tmp 4) rfl ⟨g2,0,none⟩ (by with_unfolding_all rfl) b.cells _ kb2.out Tryz.underlying24 rfl (Tryz.valSize b) ?_))
    refine (CZ.out wb hCb).mono ?_
    rintro e wc ⟨rfl, hbc⟩
    have hCc := hCb.trans (hbc.mono hCb.size)
    clear hbc hCb
    have kb3 := Lib.hid (KB.out wc hCc)
    have kc3 := Lib.hid (KC.out wc hCc)
    by_cases hu : u ≤ 0
    · have ht : t ≤ 0 := by
        have h := HT3.out
        unfold T3 at h
        omega
      have ht2 : ¬ 0 < t := by omega
      clear ht
      go_upto_region 8 with fail
      go_wp2_with (first
        | (with_reducible show wpList _ _ _ _ _ _; refine wpList_loadWanted (by with_unfolding_all rfl) 24 (.tmp 4) rfl ⟨g2,0,none⟩ (by with_unfolding_all rfl) b.cells _ kb3.out Tryz.underlying24 rfl (Tryz.valSize b) ?_)
        | (with_reducible show wpList _ _ _ _ _ _; refine wpList_loadWanted (by with_unfolding_all rfl) 24 (.tmp 5) rfl ⟨g3,0,none⟩ (by with_unfolding_all rfl) c.cells _ kc3.out Tryz.underlying24 rfl (Tryz.valSize c) ?_))
      refine (CU.out wc hCc).mono ?_
      rintro e wd ⟨rfl, hcd⟩
      have hCd := hCc.trans (hcd.mono hCc.size)
      have ka4 := Lib.hid (KA.out wd hCd)
      have kc4 := Lib.hid (KC.out wd hCd)
      clear hcd hCc
      go_wp2_with (first
        | (with_reducible show wpList _ _ _ _ _ _; refine wpList_loadWanted (by with_unfolding_all rfl) 24 (.tmp 3) rfl ⟨g1,0,none⟩ (by with_unfolding_all rfl) a.cells _ ka4.out Tryz.underlying24 rfl (Tryz.valSize a) ?_)
        | (with_reducible show wpList _ _ _ _ _ _; refine wpList_loadWanted (by with_unfolding_all rfl) 24 (.tmp 5) rfl ⟨g3,0,none⟩ (by with_unfolding_all rfl) c.cells _ kc4.out Tryz.underlying24 rfl (Tryz.valSize c) ?_))
      refine (CT.out wd hCd).mono ?_
      rintro e we ⟨rfl, hde⟩
      have hCe := hCd.trans (hde.mono hCd.size)
      clear hde hCd
      have hSE := HSE'.out
      have CBAz := Lib.hid (fun (W : World) (h : Below we.heap.size we W) => CBA.out W (hCe.trans (h.mono hCe.size)))
      have CBBz := Lib.hid (fun (W : World) (h : Below we.heap.size we W) => CBB.out W (hCe.trans (h.mono hCe.size)))
      have KAz := Lib.hid (fun (W : World) (h : Below we.heap.size we W) => KA.out W (hCe.trans (h.mono hCe.size)))
      have KBz := Lib.hid (fun (W : World) (h : Below we.heap.size we W) => KB.out W (hCe.trans (h.mono hCe.size)))
      have RLz := Lib.hid (fun (W : World) (h : Below we.heap.size we W) => FIN.out W (UP.out W (hCe.trans (h.mono hCe.size))))
      go_upto_region 10 with fail
      refine wp_region_quiet_in (fun w' => Below we.heap.size we w') (by kernel_rfl) (by kernel_rfl) (below_drewG (Below.refl we.heap.size we) 1) ?_
      refine wpQuiet_loadG (by kernel_rfl) 24 (.tmp 3) rfl ⟨g1, 0, none⟩ rfl a.cells _ (fun w' hC => KAz.out w' hC) Tryz.underlying24 rfl (SZ.out a) ?_
      simp only [Act.put, List.setIfInBounds_toArray, List.set_cons_zero, List.set_cons_succ, List.getElem_toArray, List.getElem_cons_zero, List.getElem_cons_succ]
      refine wpQuiet_callG (f := 18) (xs := #[.tmp 81]) #[.agg a.cells.toArray] (.string SA) (by kernel_rfl) rfl Tryz.func18 (by kernel_rfl) (by kernel_rfl) (by simp [Act.eval]) (fun W hW => (CBAz.out W hW).mono fun e w' h => ⟨h.1, Below.trans hW (h.2.mono hW.size)⟩) ?_
      simp only [Act.put, List.setIfInBounds_toArray, List.set_cons_zero, List.set_cons_succ, List.getElem_toArray, List.getElem_cons_zero, List.getElem_cons_succ]
      refine wpQuiet_loadG (by kernel_rfl) 24 (.tmp 4) rfl ⟨g2, 0, none⟩ rfl b.cells _ (fun w' hC => KBz.out w' hC) Tryz.underlying24 rfl (SZ.out b) ?_
      simp only [Act.put, List.setIfInBounds_toArray, List.set_cons_zero, List.set_cons_succ, List.getElem_toArray, List.getElem_cons_zero, List.getElem_cons_succ]
      refine wpQuiet_callG (f := 18) (xs := #[.tmp 83]) #[.agg b.cells.toArray] (.string SB) (by kernel_rfl) rfl Tryz.func18 (by kernel_rfl) (by kernel_rfl) (by simp [Act.eval]) (fun W hW => (CBBz.out W hW).mono fun e w' h => ⟨h.1, Below.trans hW (h.2.mono hW.size)⟩) ?_
      simp only [Act.put, List.setIfInBounds_toArray, List.set_cons_zero, List.set_cons_succ, List.getElem_toArray, List.getElem_cons_zero, List.getElem_cons_succ]
      refine wpQuiet_runG (v := .bool false) (by kernel_rfl) (fun w' hC => by go_simp) ?_
      simp only [Act.put, List.setIfInBounds_toArray, List.set_cons_zero, List.set_cons_succ, List.getElem_toArray, List.getElem_cons_zero, List.getElem_cons_succ]
      refine wpQuiet_runG (v := .int .i64 y) (by kernel_rfl) (fun w' hC => by rfl) ?_
      simp only [Act.put, List.setIfInBounds_toArray, List.set_cons_zero, List.set_cons_succ, List.getElem_toArray, List.getElem_cons_zero, List.getElem_cons_succ]
      refine wpQuiet_runG (v := .bool false) (by kernel_rfl) (fun w' hC => by go_simp) ?_
      simp only [Act.put, List.setIfInBounds_toArray, List.set_cons_zero, List.set_cons_succ, List.getElem_toArray, List.getElem_cons_zero, List.getElem_cons_succ]
      refine wpQuiet_runG (v := .bool true) (by kernel_rfl) (fun w' hC => by go_simp) ?_
      simp only [Act.put, List.setIfInBounds_toArray, List.set_cons_zero, List.set_cons_succ, List.getElem_toArray, List.getElem_cons_zero, List.getElem_cons_succ]
      refine wpQuiet_runG (v := .bool true) (by kernel_rfl) (fun w' hC => by rfl) ?_
      simp only [Act.put, List.setIfInBounds_toArray, List.set_cons_zero, List.set_cons_succ, List.getElem_toArray, List.getElem_cons_zero, List.getElem_cons_succ]
      refine wpQuiet_nil ?_
      intro wf hCf
      go_wp2_with fail
      go_ret
      exact ⟨rfl, RLz.out wf hCf⟩
    · go_upto_region 8 with fail
      go_wp2_with (first
        | (with_reducible show wpList _ _ _ _ _ _; refine wpList_loadWanted (by with_unfolding_all rfl) 24 (.tmp 4) rfl ⟨g2,0,none⟩ (by with_unfolding_all rfl) b.cells _ kb3.out Tryz.underlying24 rfl (Tryz.valSize b) ?_)
        | (with_reducible show wpList _ _ _ _ _ _; refine wpList_loadWanted (by with_unfolding_all rfl) 24 (.tmp 5) rfl ⟨g3,0,none⟩ (by with_unfolding_all rfl) c.cells _ kc3.out Tryz.underlying24 rfl (Tryz.valSize c) ?_))
      refine (CU.out wc hCc).mono ?_
      rintro e wd ⟨rfl, hcd⟩
      have hCd := hCc.trans (hcd.mono hCc.size)
      clear hcd hCc
      have hSE := HSE'.out
      have CBAz := Lib.hid (fun (W : World) (h : Below wd.heap.size wd W) => CBA.out W (hCd.trans (h.mono hCd.size)))
      have CBBz := Lib.hid (fun (W : World) (h : Below wd.heap.size wd W) => CBB.out W (hCd.trans (h.mono hCd.size)))
      have KAz := Lib.hid (fun (W : World) (h : Below wd.heap.size wd W) => KA.out W (hCd.trans (h.mono hCd.size)))
      have KBz := Lib.hid (fun (W : World) (h : Below wd.heap.size wd W) => KB.out W (hCd.trans (h.mono hCd.size)))
      have RLz := Lib.hid (fun (W : World) (h : Below wd.heap.size wd W) => FIN.out W (UP.out W (hCd.trans (h.mono hCd.size))))
      go_upto_region 10 with fail
      refine wp_region_quiet_in (fun w' => Below wd.heap.size wd w') (by kernel_rfl) (by kernel_rfl) (below_drewG (Below.refl wd.heap.size wd) 1) ?_
      refine wpQuiet_loadG (by kernel_rfl) 24 (.tmp 3) rfl ⟨g1, 0, none⟩ rfl a.cells _ (fun w' hC => KAz.out w' hC) Tryz.underlying24 rfl (SZ.out a) ?_
      simp only [Act.put, List.setIfInBounds_toArray, List.set_cons_zero, List.set_cons_succ, List.getElem_toArray, List.getElem_cons_zero, List.getElem_cons_succ]
      refine wpQuiet_callG (f := 18) (xs := #[.tmp 81]) #[.agg a.cells.toArray] (.string SA) (by kernel_rfl) rfl Tryz.func18 (by kernel_rfl) (by kernel_rfl) (by simp [Act.eval]) (fun W hW => (CBAz.out W hW).mono fun e w' h => ⟨h.1, Below.trans hW (h.2.mono hW.size)⟩) ?_
      simp only [Act.put, List.setIfInBounds_toArray, List.set_cons_zero, List.set_cons_succ, List.getElem_toArray, List.getElem_cons_zero, List.getElem_cons_succ]
      refine wpQuiet_loadG (by kernel_rfl) 24 (.tmp 4) rfl ⟨g2, 0, none⟩ rfl b.cells _ (fun w' hC => KBz.out w' hC) Tryz.underlying24 rfl (SZ.out b) ?_
      simp only [Act.put, List.setIfInBounds_toArray, List.set_cons_zero, List.set_cons_succ, List.getElem_toArray, List.getElem_cons_zero, List.getElem_cons_succ]
      refine wpQuiet_callG (f := 18) (xs := #[.tmp 83]) #[.agg b.cells.toArray] (.string SB) (by kernel_rfl) rfl Tryz.func18 (by kernel_rfl) (by kernel_rfl) (by simp [Act.eval]) (fun W hW => (CBBz.out W hW).mono fun e w' h => ⟨h.1, Below.trans hW (h.2.mono hW.size)⟩) ?_
      simp only [Act.put, List.setIfInBounds_toArray, List.set_cons_zero, List.set_cons_succ, List.getElem_toArray, List.getElem_cons_zero, List.getElem_cons_succ]
      refine wpQuiet_runG (v := .bool false) (by kernel_rfl) (fun w' hC => by go_simp) ?_
      simp only [Act.put, List.setIfInBounds_toArray, List.set_cons_zero, List.set_cons_succ, List.getElem_toArray, List.getElem_cons_zero, List.getElem_cons_succ]
      refine wpQuiet_runG (v := .int .i64 y) (by kernel_rfl) (fun w' hC => by rfl) ?_
      simp only [Act.put, List.setIfInBounds_toArray, List.set_cons_zero, List.set_cons_succ, List.getElem_toArray, List.getElem_cons_zero, List.getElem_cons_succ]
      refine wpQuiet_runG (v := .bool false) (by kernel_rfl) (fun w' hC => by go_simp) ?_
      simp only [Act.put, List.setIfInBounds_toArray, List.set_cons_zero, List.set_cons_succ, List.getElem_toArray, List.getElem_cons_zero, List.getElem_cons_succ]
      refine wpQuiet_runG (v := .bool true) (by kernel_rfl) (fun w' hC => by go_simp) ?_
      simp only [Act.put, List.setIfInBounds_toArray, List.set_cons_zero, List.set_cons_succ, List.getElem_toArray, List.getElem_cons_zero, List.getElem_cons_succ]
      refine wpQuiet_runG (v := .bool true) (by kernel_rfl) (fun w' hC => by rfl) ?_
      simp only [Act.put, List.setIfInBounds_toArray, List.set_cons_zero, List.set_cons_succ, List.getElem_toArray, List.getElem_cons_zero, List.getElem_cons_succ]
      refine wpQuiet_nil ?_
      intro wf hCf
      go_wp2_with fail
      go_ret
      exact ⟨rfl, RLz.out wf hCf⟩
  · obtain rfl : sb = true := by rw [HSB.out]; exact decide_eq_true hx
    have hSE : (SA.toList == SB.toList) = true := by rw [HSE.out]; exact decide_eq_true hx
    obtain rfl : y = 0 := HSG.out.2.2 hx
    obtain rfl : z = 0 := by rw [HZX.out, hx]; rfl
    subst hx
    have HSE' := Lib.hid hSE
    clear hSE
    refine wp_region_quiet_in (fun w' => Below w8.heap.size w8 w') (by kernel_rfl) (by kernel_rfl) (below_drewG (Below.refl w8.heap.size w8) 1) ?_
    refine wpQuiet_loadG (by kernel_rfl) 24 (.tmp 3) rfl ⟨g1, 0, none⟩ rfl a.cells _ (fun w' hC => KA.out w' hC) Tryz.underlying24 rfl (SZ.out a) ?_
    simp only [Act.put, List.setIfInBounds_toArray, List.set_cons_zero, List.set_cons_succ, List.getElem_toArray, List.getElem_cons_zero, List.getElem_cons_succ]
    refine wpQuiet_loadG (by kernel_rfl) 24 (.tmp 4) rfl ⟨g2, 0, none⟩ rfl b.cells _ (fun w' hC => KB.out w' hC) Tryz.underlying24 rfl (SZ.out b) ?_
    simp only [Act.put, List.setIfInBounds_toArray, List.set_cons_zero, List.set_cons_succ, List.getElem_toArray, List.getElem_cons_zero, List.getElem_cons_succ]
    refine wpQuiet_callG (f := 27) (xs := #[.tmp 32, .tmp 33]) #[.agg a.cells.toArray, .agg b.cells.toArray] (.int .i64 0) (by kernel_rfl) rfl Tryz.func27 (by kernel_rfl) (by kernel_rfl) (by simp [Act.eval]) (fun W hW => (CX.out W hW).mono fun e w' h => ⟨h.1, Below.trans hW (h.2.mono hW.size)⟩) ?_
    simp only [Act.put, List.setIfInBounds_toArray, List.set_cons_zero, List.set_cons_succ, List.getElem_toArray, List.getElem_cons_zero, List.getElem_cons_succ]
    refine wpQuiet_loadG (by kernel_rfl) 24 (.tmp 3) rfl ⟨g1, 0, none⟩ rfl a.cells _ (fun w' hC => KA.out w' hC) Tryz.underlying24 rfl (SZ.out a) ?_
    simp only [Act.put, List.setIfInBounds_toArray, List.set_cons_zero, List.set_cons_succ, List.getElem_toArray, List.getElem_cons_zero, List.getElem_cons_succ]
    refine wpQuiet_loadG (by kernel_rfl) 24 (.tmp 4) rfl ⟨g2, 0, none⟩ rfl b.cells _ (fun w' hC => KB.out w' hC) Tryz.underlying24 rfl (SZ.out b) ?_
    simp only [Act.put, List.setIfInBounds_toArray, List.set_cons_zero, List.set_cons_succ, List.getElem_toArray, List.getElem_cons_zero, List.getElem_cons_succ]
    refine wpQuiet_callG (f := 20) (xs := #[.tmp 35, .tmp 36]) #[.agg a.cells.toArray, .agg b.cells.toArray] (.int .i64 0) (by kernel_rfl) rfl Tryz.func20 (by kernel_rfl) (by kernel_rfl) (by simp [Act.eval]) (fun W hW => (CY.out W hW).mono fun e w' h => ⟨h.1, Below.trans hW (h.2.mono hW.size)⟩) ?_
    simp only [Act.put, List.setIfInBounds_toArray, List.set_cons_zero, List.set_cons_succ, List.getElem_toArray, List.getElem_cons_zero, List.getElem_cons_succ]
    refine wpQuiet_runG (v := .int .i64 0) (by kernel_rfl) (fun w' hC => by rfl) ?_
    simp only [Act.put, List.setIfInBounds_toArray, List.set_cons_zero, List.set_cons_succ, List.getElem_toArray, List.getElem_cons_zero, List.getElem_cons_succ]
    refine wpQuiet_runG (v := .int .i64 0) (by kernel_rfl) (fun w' hC => by rfl) ?_
    simp only [Act.put, List.setIfInBounds_toArray, List.set_cons_zero, List.set_cons_succ, List.getElem_toArray, List.getElem_cons_zero, List.getElem_cons_succ]
    refine wpQuiet_nil ?_
    intro wa hCa
    have ka := Lib.hid (KA.out wa hCa)
    have kb := Lib.hid (KB.out wa hCa)
    go_wp2_with (first
      | (with_reducible show wpList _ _ _ _ _ _; refine wpList_loadWanted (by with_unfolding_all rfl) 24 (.tmp 3) rfl ⟨g1,0,none⟩ (by with_unfolding_all rfl) a.cells _ ka.out Tryz.underlying24 rfl (Tryz.valSize a) ?_)
      | (with_reducible show wpList _ _ _ _ _ _; refine wpList_loadWanted (by with_unfolding_all rfl) 24 (.tmp 4) rfl ⟨g2,0,none⟩ (by with_unfolding_all rfl) b.cells _ kb.out Tryz.underlying24 rfl (Tryz.valSize b) ?_))
    refine (CS.out wa hCa).mono ?_
    rintro e wb ⟨rfl, hab⟩
    have hCb := hCa.trans (hab.mono hCa.size)
    have ka2 := Lib.hid (KA.out wb hCb)
    have kb2 := Lib.hid (KB.out wb hCb)
    clear hab hCa
    go_wp2_with (first
      | (with_reducible show wpList _ _ _ _ _ _; refine wpList_loadWanted (by with_unfolding_all rfl) 24 (.tmp 3) rfl ⟨g1,0,none⟩ (by with_unfolding_all rfl) a.cells _ ka2.out Tryz.underlying24 rfl (Tryz.valSize a) ?_)
      | (with_reducible show wpList _ _ _ _ _ _; refine wpList_loadWanted (by with_unfolding_all rfl) 24 (.tmp 4) rfl ⟨g2,0,none⟩ (by with_unfolding_all rfl) b.cells _ kb2.out Tryz.underlying24 rfl (Tryz.valSize b) ?_))
    refine (CZ.out wb hCb).mono ?_
    rintro e wc ⟨rfl, hbc⟩
    have hCc := hCb.trans (hbc.mono hCb.size)
    clear hbc hCb
    have kb3 := Lib.hid (KB.out wc hCc)
    have kc3 := Lib.hid (KC.out wc hCc)
    by_cases hu : u ≤ 0
    · have ht : t ≤ 0 := by
        have h := HT3.out
        unfold T3 at h
        omega
      have ht2 : ¬ 0 < t := by omega
      clear ht
      go_upto_region 8 with fail
      go_wp2_with (first
        | (with_reducible show wpList _ _ _ _ _ _; refine wpList_loadWanted (by with_unfolding_all rfl) 24 (.tmp 4) rfl ⟨g2,0,none⟩ (by with_unfolding_all rfl) b.cells _ kb3.out Tryz.underlying24 rfl (Tryz.valSize b) ?_)
        | (with_reducible show wpList _ _ _ _ _ _; refine wpList_loadWanted (by with_unfolding_all rfl) 24 (.tmp 5) rfl ⟨g3,0,none⟩ (by with_unfolding_all rfl) c.cells _ kc3.out Tryz.underlying24 rfl (Tryz.valSize c) ?_))
      refine (CU.out wc hCc).mono ?_
      rintro e wd ⟨rfl, hcd⟩
      have hCd := hCc.trans (hcd.mono hCc.size)
      have ka4 := Lib.hid (KA.out wd hCd)
      have kc4 := Lib.hid (KC.out wd hCd)
      clear hcd hCc
      go_wp2_with (first
        | (with_reducible show wpList _ _ _ _ _ _; refine wpList_loadWanted (by with_unfolding_all rfl) 24 (.tmp 3) rfl ⟨g1,0,none⟩ (by with_unfolding_all rfl) a.cells _ ka4.out Tryz.underlying24 rfl (Tryz.valSize a) ?_)
        | (with_reducible show wpList _ _ _ _ _ _; refine wpList_loadWanted (by with_unfolding_all rfl) 24 (.tmp 5) rfl ⟨g3,0,none⟩ (by with_unfolding_all rfl) c.cells _ kc4.out Tryz.underlying24 rfl (Tryz.valSize c) ?_))
      refine (CT.out wd hCd).mono ?_
      rintro e we ⟨rfl, hde⟩
      have hCe := hCd.trans (hde.mono hCd.size)
      clear hde hCd
      have hSE := HSE'.out
      have CBAz := Lib.hid (fun (W : World) (h : Below we.heap.size we W) => CBA.out W (hCe.trans (h.mono hCe.size)))
      have CBBz := Lib.hid (fun (W : World) (h : Below we.heap.size we W) => CBB.out W (hCe.trans (h.mono hCe.size)))
      have KAz := Lib.hid (fun (W : World) (h : Below we.heap.size we W) => KA.out W (hCe.trans (h.mono hCe.size)))
      have KBz := Lib.hid (fun (W : World) (h : Below we.heap.size we W) => KB.out W (hCe.trans (h.mono hCe.size)))
      have RLz := Lib.hid (fun (W : World) (h : Below we.heap.size we W) => FIN.out W (UP.out W (hCe.trans (h.mono hCe.size))))
      go_upto_region 10 with fail
      refine wp_region_quiet_in (fun w' => Below we.heap.size we w') (by kernel_rfl) (by kernel_rfl) (below_drewG (Below.refl we.heap.size we) 1) ?_
      refine wpQuiet_loadG (by kernel_rfl) 24 (.tmp 3) rfl ⟨g1, 0, none⟩ rfl a.cells _ (fun w' hC => KAz.out w' hC) Tryz.underlying24 rfl (SZ.out a) ?_
      simp only [Act.put, List.setIfInBounds_toArray, List.set_cons_zero, List.set_cons_succ, List.getElem_toArray, List.getElem_cons_zero, List.getElem_cons_succ]
      refine wpQuiet_callG (f := 18) (xs := #[.tmp 81]) #[.agg a.cells.toArray] (.string SA) (by kernel_rfl) rfl Tryz.func18 (by kernel_rfl) (by kernel_rfl) (by simp [Act.eval]) (fun W hW => (CBAz.out W hW).mono fun e w' h => ⟨h.1, Below.trans hW (h.2.mono hW.size)⟩) ?_
      simp only [Act.put, List.setIfInBounds_toArray, List.set_cons_zero, List.set_cons_succ, List.getElem_toArray, List.getElem_cons_zero, List.getElem_cons_succ]
      refine wpQuiet_loadG (by kernel_rfl) 24 (.tmp 4) rfl ⟨g2, 0, none⟩ rfl b.cells _ (fun w' hC => KBz.out w' hC) Tryz.underlying24 rfl (SZ.out b) ?_
      simp only [Act.put, List.setIfInBounds_toArray, List.set_cons_zero, List.set_cons_succ, List.getElem_toArray, List.getElem_cons_zero, List.getElem_cons_succ]
      refine wpQuiet_callG (f := 18) (xs := #[.tmp 83]) #[.agg b.cells.toArray] (.string SB) (by kernel_rfl) rfl Tryz.func18 (by kernel_rfl) (by kernel_rfl) (by simp [Act.eval]) (fun W hW => (CBBz.out W hW).mono fun e w' h => ⟨h.1, Below.trans hW (h.2.mono hW.size)⟩) ?_
      simp only [Act.put, List.setIfInBounds_toArray, List.set_cons_zero, List.set_cons_succ, List.getElem_toArray, List.getElem_cons_zero, List.getElem_cons_succ]
      refine wpQuiet_runG (v := .bool true) (by kernel_rfl) (fun w' hC => by go_simp) ?_
      simp only [Act.put, List.setIfInBounds_toArray, List.set_cons_zero, List.set_cons_succ, List.getElem_toArray, List.getElem_cons_zero, List.getElem_cons_succ]
      refine wpQuiet_runG (v := .int .i64 0) (by kernel_rfl) (fun w' hC => by rfl) ?_
      simp only [Act.put, List.setIfInBounds_toArray, List.set_cons_zero, List.set_cons_succ, List.getElem_toArray, List.getElem_cons_zero, List.getElem_cons_succ]
      refine wpQuiet_runG (v := .bool true) (by kernel_rfl) (fun w' hC => by go_simp) ?_
      simp only [Act.put, List.setIfInBounds_toArray, List.set_cons_zero, List.set_cons_succ, List.getElem_toArray, List.getElem_cons_zero, List.getElem_cons_succ]
      refine wpQuiet_runG (v := .bool true) (by kernel_rfl) (fun w' hC => by go_simp) ?_
      simp only [Act.put, List.setIfInBounds_toArray, List.set_cons_zero, List.set_cons_succ, List.getElem_toArray, List.getElem_cons_zero, List.getElem_cons_succ]
      refine wpQuiet_runG (v := .bool true) (by kernel_rfl) (fun w' hC => by rfl) ?_
      simp only [Act.put, List.setIfInBounds_toArray, List.set_cons_zero, List.set_cons_succ, List.getElem_toArray, List.getElem_cons_zero, List.getElem_cons_succ]
      refine wpQuiet_nil ?_
      intro wf hCf
      go_wp2_with fail
      go_ret
      exact ⟨rfl, RLz.out wf hCf⟩
    · go_upto_region 8 with fail
      go_wp2_with (first
        | (with_reducible show wpList _ _ _ _ _ _; refine wpList_loadWanted (by with_unfolding_all rfl) 24 (.tmp 4) rfl ⟨g2,0,none⟩ (by with_unfolding_all rfl) b.cells _ kb3.out Tryz.underlying24 rfl (Tryz.valSize b) ?_)
        | (with_reducible show wpList _ _ _ _ _ _; refine wpList_loadWanted (by with_unfolding_all rfl) 24 (.tmp 5) rfl ⟨g3,0,none⟩ (by with_unfolding_all rfl) c.cells _ kc3.out Tryz.underlying24 rfl (Tryz.valSize c) ?_))
      refine (CU.out wc hCc).mono ?_
      rintro e wd ⟨rfl, hcd⟩
      have hCd := hCc.trans (hcd.mono hCc.size)
      clear hcd hCc
      have hSE := HSE'.out
      have CBAz := Lib.hid (fun (W : World) (h : Below wd.heap.size wd W) => CBA.out W (hCd.trans (h.mono hCd.size)))
      have CBBz := Lib.hid (fun (W : World) (h : Below wd.heap.size wd W) => CBB.out W (hCd.trans (h.mono hCd.size)))
      have KAz := Lib.hid (fun (W : World) (h : Below wd.heap.size wd W) => KA.out W (hCd.trans (h.mono hCd.size)))
      have KBz := Lib.hid (fun (W : World) (h : Below wd.heap.size wd W) => KB.out W (hCd.trans (h.mono hCd.size)))
      have RLz := Lib.hid (fun (W : World) (h : Below wd.heap.size wd W) => FIN.out W (UP.out W (hCd.trans (h.mono hCd.size))))
      go_upto_region 10 with fail
      refine wp_region_quiet_in (fun w' => Below wd.heap.size wd w') (by kernel_rfl) (by kernel_rfl) (below_drewG (Below.refl wd.heap.size wd) 1) ?_
      refine wpQuiet_loadG (by kernel_rfl) 24 (.tmp 3) rfl ⟨g1, 0, none⟩ rfl a.cells _ (fun w' hC => KAz.out w' hC) Tryz.underlying24 rfl (SZ.out a) ?_
      simp only [Act.put, List.setIfInBounds_toArray, List.set_cons_zero, List.set_cons_succ, List.getElem_toArray, List.getElem_cons_zero, List.getElem_cons_succ]
      refine wpQuiet_callG (f := 18) (xs := #[.tmp 81]) #[.agg a.cells.toArray] (.string SA) (by kernel_rfl) rfl Tryz.func18 (by kernel_rfl) (by kernel_rfl) (by simp [Act.eval]) (fun W hW => (CBAz.out W hW).mono fun e w' h => ⟨h.1, Below.trans hW (h.2.mono hW.size)⟩) ?_
      simp only [Act.put, List.setIfInBounds_toArray, List.set_cons_zero, List.set_cons_succ, List.getElem_toArray, List.getElem_cons_zero, List.getElem_cons_succ]
      refine wpQuiet_loadG (by kernel_rfl) 24 (.tmp 4) rfl ⟨g2, 0, none⟩ rfl b.cells _ (fun w' hC => KBz.out w' hC) Tryz.underlying24 rfl (SZ.out b) ?_
      simp only [Act.put, List.setIfInBounds_toArray, List.set_cons_zero, List.set_cons_succ, List.getElem_toArray, List.getElem_cons_zero, List.getElem_cons_succ]
      refine wpQuiet_callG (f := 18) (xs := #[.tmp 83]) #[.agg b.cells.toArray] (.string SB) (by kernel_rfl) rfl Tryz.func18 (by kernel_rfl) (by kernel_rfl) (by simp [Act.eval]) (fun W hW => (CBBz.out W hW).mono fun e w' h => ⟨h.1, Below.trans hW (h.2.mono hW.size)⟩) ?_
      simp only [Act.put, List.setIfInBounds_toArray, List.set_cons_zero, List.set_cons_succ, List.getElem_toArray, List.getElem_cons_zero, List.getElem_cons_succ]
      refine wpQuiet_runG (v := .bool true) (by kernel_rfl) (fun w' hC => by go_simp) ?_
      simp only [Act.put, List.setIfInBounds_toArray, List.set_cons_zero, List.set_cons_succ, List.getElem_toArray, List.getElem_cons_zero, List.getElem_cons_succ]
      refine wpQuiet_runG (v := .int .i64 0) (by kernel_rfl) (fun w' hC => by rfl) ?_
      simp only [Act.put, List.setIfInBounds_toArray, List.set_cons_zero, List.set_cons_succ, List.getElem_toArray, List.getElem_cons_zero, List.getElem_cons_succ]
      refine wpQuiet_runG (v := .bool true) (by kernel_rfl) (fun w' hC => by go_simp) ?_
      simp only [Act.put, List.setIfInBounds_toArray, List.set_cons_zero, List.set_cons_succ, List.getElem_toArray, List.getElem_cons_zero, List.getElem_cons_succ]
      refine wpQuiet_runG (v := .bool true) (by kernel_rfl) (fun w' hC => by go_simp) ?_
      simp only [Act.put, List.setIfInBounds_toArray, List.set_cons_zero, List.set_cons_succ, List.getElem_toArray, List.getElem_cons_zero, List.getElem_cons_succ]
      refine wpQuiet_runG (v := .bool true) (by kernel_rfl) (fun w' hC => by rfl) ?_
      simp only [Act.put, List.setIfInBounds_toArray, List.set_cons_zero, List.set_cons_succ, List.getElem_toArray, List.getElem_cons_zero, List.getElem_cons_succ]
      refine wpQuiet_nil ?_
      intro wf hCf
      go_wp2_with fail
      go_ret
      exact ⟨rfl, RLz.out wf hCf⟩
  · have hy : 0 < y := HSG.out.pos.2 hx
    have hz : z < 0 := by have := HZX.out; omega
    obtain rfl : sb = false := by rw [HSB.out]; exact decide_eq_false (by omega)
    have hSE : (SA.toList == SB.toList) = false := by rw [HSE.out]; exact decide_eq_false (by omega)
    have hy2 : (y == 0) = false := by simp; omega
    have hx2 : ¬ x < 0 := by omega
    have hx3 : ¬ x ≤ 0 := by omega
    have hy3 : ¬ y < 0 := by omega
    have hzd : decide (z < 0) = true := decide_eq_true hz
    have hxd : decide (0 < x) = true := decide_eq_true hx
    have HSE' := Lib.hid hSE
    clear hSE
    refine wp_region_quiet_in (fun w' => Below w8.heap.size w8 w') (by kernel_rfl) (by kernel_rfl) (below_drewG (Below.refl w8.heap.size w8) 1) ?_
    refine wpQuiet_loadG (by kernel_rfl) 24 (.tmp 3) rfl ⟨g1, 0, none⟩ rfl a.cells _ (fun w' hC => KA.out w' hC) Tryz.underlying24 rfl (SZ.out a) ?_
    simp only [Act.put, List.setIfInBounds_toArray, List.set_cons_zero, List.set_cons_succ, List.getElem_toArray, List.getElem_cons_zero, List.getElem_cons_succ]
    refine wpQuiet_loadG (by kernel_rfl) 24 (.tmp 4) rfl ⟨g2, 0, none⟩ rfl b.cells _ (fun w' hC => KB.out w' hC) Tryz.underlying24 rfl (SZ.out b) ?_
    simp only [Act.put, List.setIfInBounds_toArray, List.set_cons_zero, List.set_cons_succ, List.getElem_toArray, List.getElem_cons_zero, List.getElem_cons_succ]
    refine wpQuiet_callG (f := 27) (xs := #[.tmp 32, .tmp 33]) #[.agg a.cells.toArray, .agg b.cells.toArray] (.int .i64 x) (by kernel_rfl) rfl Tryz.func27 (by kernel_rfl) (by kernel_rfl) (by simp [Act.eval]) (fun W hW => (CX.out W hW).mono fun e w' h => ⟨h.1, Below.trans hW (h.2.mono hW.size)⟩) ?_
    simp only [Act.put, List.setIfInBounds_toArray, List.set_cons_zero, List.set_cons_succ, List.getElem_toArray, List.getElem_cons_zero, List.getElem_cons_succ]
    refine wpQuiet_loadG (by kernel_rfl) 24 (.tmp 3) rfl ⟨g1, 0, none⟩ rfl a.cells _ (fun w' hC => KA.out w' hC) Tryz.underlying24 rfl (SZ.out a) ?_
    simp only [Act.put, List.setIfInBounds_toArray, List.set_cons_zero, List.set_cons_succ, List.getElem_toArray, List.getElem_cons_zero, List.getElem_cons_succ]
    refine wpQuiet_loadG (by kernel_rfl) 24 (.tmp 4) rfl ⟨g2, 0, none⟩ rfl b.cells _ (fun w' hC => KB.out w' hC) Tryz.underlying24 rfl (SZ.out b) ?_
    simp only [Act.put, List.setIfInBounds_toArray, List.set_cons_zero, List.set_cons_succ, List.getElem_toArray, List.getElem_cons_zero, List.getElem_cons_succ]
    refine wpQuiet_callG (f := 20) (xs := #[.tmp 35, .tmp 36]) #[.agg a.cells.toArray, .agg b.cells.toArray] (.int .i64 y) (by kernel_rfl) rfl Tryz.func20 (by kernel_rfl) (by kernel_rfl) (by simp [Act.eval]) (fun W hW => (CY.out W hW).mono fun e w' h => ⟨h.1, Below.trans hW (h.2.mono hW.size)⟩) ?_
    simp only [Act.put, List.setIfInBounds_toArray, List.set_cons_zero, List.set_cons_succ, List.getElem_toArray, List.getElem_cons_zero, List.getElem_cons_succ]
    refine wpQuiet_runG (v := .int .i64 x) (by kernel_rfl) (fun w' hC => by rfl) ?_
    simp only [Act.put, List.setIfInBounds_toArray, List.set_cons_zero, List.set_cons_succ, List.getElem_toArray, List.getElem_cons_zero, List.getElem_cons_succ]
    refine wpQuiet_runG (v := .int .i64 y) (by kernel_rfl) (fun w' hC => by rfl) ?_
    simp only [Act.put, List.setIfInBounds_toArray, List.set_cons_zero, List.set_cons_succ, List.getElem_toArray, List.getElem_cons_zero, List.getElem_cons_succ]
    refine wpQuiet_nil ?_
    intro wa hCa
    have ka := Lib.hid (KA.out wa hCa)
    have kb := Lib.hid (KB.out wa hCa)
    go_wp2_with (first
      | (with_reducible show wpList _ _ _ _ _ _; refine wpList_loadWanted (by with_unfolding_all rfl) 24 (.tmp 3) rfl ⟨g1,0,none⟩ (by with_unfolding_all rfl) a.cells _ ka.out Tryz.underlying24 rfl (Tryz.valSize a) ?_)
      | (with_reducible show wpList _ _ _ _ _ _; refine wpList_loadWanted (by with_unfolding_all rfl) 24 (.tmp 4) rfl ⟨g2,0,none⟩ (by with_unfolding_all rfl) b.cells _ kb.out Tryz.underlying24 rfl (Tryz.valSize b) ?_))
    refine (CS.out wa hCa).mono ?_
    rintro e wb ⟨rfl, hab⟩
    have hCb := hCa.trans (hab.mono hCa.size)
    have ka2 := Lib.hid (KA.out wb hCb)
    have kb2 := Lib.hid (KB.out wb hCb)
    clear hab hCa
    go_wp2_with (first
      | (with_reducible show wpList _ _ _ _ _ _; refine wpList_loadWanted (by with_unfolding_all rfl) 24 (.tmp 3) rfl ⟨g1,0,none⟩ (by with_unfolding_all rfl) a.cells _ ka2.out Tryz.underlying24 rfl (Tryz.valSize a) ?_)
      | (with_reducible show wpList _ _ _ _ _ _; refine wpList_loadWanted (by with_unfolding_all rfl) 24 (.tmp 4) rfl ⟨g2,0,none⟩ (by with_unfolding_all rfl) b.cells _ kb2.out Tryz.underlying24 rfl (Tryz.valSize b) ?_))
    refine (CZ.out wb hCb).mono ?_
    rintro e wc ⟨rfl, hbc⟩
    have hCc := hCb.trans (hbc.mono hCb.size)
    clear hbc hCb
    have hSE := HSE'.out
    have CBAz := Lib.hid (fun (W : World) (h : Below wc.heap.size wc W) => CBA.out W (hCc.trans (h.mono hCc.size)))
    have CBBz := Lib.hid (fun (W : World) (h : Below wc.heap.size wc W) => CBB.out W (hCc.trans (h.mono hCc.size)))
    have KAz := Lib.hid (fun (W : World) (h : Below wc.heap.size wc W) => KA.out W (hCc.trans (h.mono hCc.size)))
    have KBz := Lib.hid (fun (W : World) (h : Below wc.heap.size wc W) => KB.out W (hCc.trans (h.mono hCc.size)))
    have RLz := Lib.hid (fun (W : World) (h : Below wc.heap.size wc W) => FIN.out W (UP.out W (hCc.trans (h.mono hCc.size))))
    go_upto_region 10 with fail
    refine wp_region_quiet_in (fun w' => Below wc.heap.size wc w') (by kernel_rfl) (by kernel_rfl) (below_drewG (Below.refl wc.heap.size wc) 1) ?_
    refine wpQuiet_loadG (by kernel_rfl) 24 (.tmp 3) rfl ⟨g1, 0, none⟩ rfl a.cells _ (fun w' hC => KAz.out w' hC) Tryz.underlying24 rfl (SZ.out a) ?_
    simp only [Act.put, List.setIfInBounds_toArray, List.set_cons_zero, List.set_cons_succ, List.getElem_toArray, List.getElem_cons_zero, List.getElem_cons_succ]
    refine wpQuiet_callG (f := 18) (xs := #[.tmp 81]) #[.agg a.cells.toArray] (.string SA) (by kernel_rfl) rfl Tryz.func18 (by kernel_rfl) (by kernel_rfl) (by simp [Act.eval]) (fun W hW => (CBAz.out W hW).mono fun e w' h => ⟨h.1, Below.trans hW (h.2.mono hW.size)⟩) ?_
    simp only [Act.put, List.setIfInBounds_toArray, List.set_cons_zero, List.set_cons_succ, List.getElem_toArray, List.getElem_cons_zero, List.getElem_cons_succ]
    refine wpQuiet_loadG (by kernel_rfl) 24 (.tmp 4) rfl ⟨g2, 0, none⟩ rfl b.cells _ (fun w' hC => KBz.out w' hC) Tryz.underlying24 rfl (SZ.out b) ?_
    simp only [Act.put, List.setIfInBounds_toArray, List.set_cons_zero, List.set_cons_succ, List.getElem_toArray, List.getElem_cons_zero, List.getElem_cons_succ]
    refine wpQuiet_callG (f := 18) (xs := #[.tmp 83]) #[.agg b.cells.toArray] (.string SB) (by kernel_rfl) rfl Tryz.func18 (by kernel_rfl) (by kernel_rfl) (by simp [Act.eval]) (fun W hW => (CBBz.out W hW).mono fun e w' h => ⟨h.1, Below.trans hW (h.2.mono hW.size)⟩) ?_
    simp only [Act.put, List.setIfInBounds_toArray, List.set_cons_zero, List.set_cons_succ, List.getElem_toArray, List.getElem_cons_zero, List.getElem_cons_succ]
    refine wpQuiet_runG (v := .bool false) (by kernel_rfl) (fun w' hC => by go_simp) ?_
    simp only [Act.put, List.setIfInBounds_toArray, List.set_cons_zero, List.set_cons_succ, List.getElem_toArray, List.getElem_cons_zero, List.getElem_cons_succ]
    refine wpQuiet_runG (v := .int .i64 y) (by kernel_rfl) (fun w' hC => by rfl) ?_
    simp only [Act.put, List.setIfInBounds_toArray, List.set_cons_zero, List.set_cons_succ, List.getElem_toArray, List.getElem_cons_zero, List.getElem_cons_succ]
    refine wpQuiet_runG (v := .bool false) (by kernel_rfl) (fun w' hC => by go_simp) ?_
    simp only [Act.put, List.setIfInBounds_toArray, List.set_cons_zero, List.set_cons_succ, List.getElem_toArray, List.getElem_cons_zero, List.getElem_cons_succ]
    refine wpQuiet_runG (v := .bool true) (by kernel_rfl) (fun w' hC => by go_simp) ?_
    simp only [Act.put, List.setIfInBounds_toArray, List.set_cons_zero, List.set_cons_succ, List.getElem_toArray, List.getElem_cons_zero, List.getElem_cons_succ]
    refine wpQuiet_runG (v := .bool true) (by kernel_rfl) (fun w' hC => by rfl) ?_
    simp only [Act.put, List.setIfInBounds_toArray, List.set_cons_zero, List.set_cons_succ, List.getElem_toArray, List.getElem_cons_zero, List.getElem_cons_succ]
    refine wpQuiet_nil ?_
    intro wf hCf
    go_wp2_with fail
    go_ret
    exact ⟨rfl, RLz.out wf hCf⟩
end Go.Proofs.YthfjahagmfgfeaaGreatDoor.Wi
