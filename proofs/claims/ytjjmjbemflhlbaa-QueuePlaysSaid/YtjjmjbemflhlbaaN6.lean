/- A link hangs behind the others, and comes loose. -/
import Derived.Test.YtjjmjbemflhlbaaN5
import Derived.Test.YtjjmjbemflhlbaaQt
namespace Go.Proofs.Ytjjmjbemflhlbaa.Qu
open Go Go.RowKit Go.Proofs.Ytjjmjbemflhlbaa
open Go.Proofs.Ytjjmjbemflhlbaa.Hp (K3 kv KLit wf3 i64wf kv_inj)
open Go.Proofs.Ytjjmjbemflhlbaa.Dk (Frm below_drewN Frm.of_below Frm.setCell)
set_option linter.unusedVariables false
set_option linter.unusedSimpArgs false
/-- A waiter's cells. -/
def wcs (k : K3) (s : Int) : List Value := [.int .i64 k.1, .int .i64 k.2.1, .int .i64 k.2.2, .int .i64 s]
theorem wtSize (k : K3) (s : Int) : (Try.prog.info? 112).map (·.size) = some (wcs k s).length := by kernel_rfl
theorem box_cells (w : World) (cs : List Value) (t : TypeId) : ∀ j v, cs[j]? = some v → (w.alloc (.cells cs.toArray t)).cell? ((⟨w.heap.size, 0, none⟩ : Addr).add j) = some v := fun j v hj => by
  rw [Addr.add_mid, Nat.zero_add, cell_of_row _ _ j _ _ _ (heap_alloc_new w _)]
  simpa using hj
set_option maxRecDepth 100000
variable {w : World} {b o : Nat} {R : Array Value} {ty : TypeId} {mo : Option Nat} {L : List Lk}
/-- The blocks that a queue's row and its links are. -/
def qT (b : Nat) (L : List Lk) (q : Nat) : Prop := q = b ∨ ∃ x ∈ L, x.ad = q
theorem hang_any (h : CAt w b o R ty mo L) (k : K3) (s : Int) : Calls Try.prog 46 #[.pointer (some ⟨b, o, none⟩), .agg (wcs k s).toArray] w fun e w' =>
    ∃ g, e = .returned (.pointer (some ⟨g, 0, none⟩)) ∧ w.heap.size ≤ g ∧ CAt w' b o R ty mo (L ++ [⟨k, s, g⟩]) ∧ Frm (qT b L) w w' := by
  obtain ⟨w1, hw1⟩ : ∃ x, x = w.alloc (.cells (wcs k s).toArray 112) := ⟨_, rfl⟩
  obtain ⟨g, hg⟩ : ∃ g, g = w.heap.size := ⟨_, rfl⟩
  have b1 : Below w.heap.size w w1 := by rw [hw1]; exact (Below.refl _ _).alloc (Nat.le_refl _) _
  have KT : ∀ j v, (wcs k s)[j]? = some v → w1.cell? ((⟨g, 0, none⟩ : Addr).add j) = some v := by rw [hw1, hg]; exact box_cells w _ _
  obtain ⟨c0, c1, c2, f0, f1, f2⟩ := (h.keep (w' := w1) (b1.block b h.row.lt) (fun x hx => b1.block _ (h.chain.lt x hx))).row.cells
  have HW := Lib.hid hw1
  have HG := Lib.hid hg
  have B1 := Lib.hid b1
  have H1 := Lib.hid (h.keep (w' := w1) (b1.block b h.row.lt) (fun x hx => b1.block _ (h.chain.lt x hx)))
  have HLT := Lib.hid (show b < w.heap.size ∧ ∀ x ∈ L, x.ad < w.heap.size from ⟨h.row.lt, h.chain.lt⟩)
  clear h hw1 hg b1 f0 f1 f2
  cases hl : lst L none with
  | none =>
    obtain ⟨rfl, _⟩ := lst_none hl
    replace c1 : w1.cell? ⟨b, o + 1, none⟩ = some (.pointer none) := c1
    go_enter Try.func46, Try.ntmps46
    go_upto_region 1 with fail
    rw [← HW.out, ← HG.out]
    refine wp_region_quiet_tail 6 (by kernel_rfl) (by kernel_rfl) ?_
    simp only [List.take_succ_cons, List.take_zero, List.drop_succ_cons, List.drop_zero]
    repeat (go_big_quiet_step (fail))
    refine wpQuiet_loadG (by kernel_rfl) 112 (.tmp 3) rfl ⟨g, 0, none⟩ rfl (wcs k s) _ (fun w' hC => by obtain ⟨nl, rfl⟩ := hC; exact KT) Try.underlying112 rfl (wtSize k s) ?_
    simp only [Act.put, List.setIfInBounds_toArray, List.set_cons_zero, List.set_cons_succ, List.getElem_toArray, List.getElem_cons_zero, List.getElem_cons_succ]
    repeat (go_big_quiet_step (fail))
    refine wpQuiet_runG (v := .agg (Lk.cells ⟨k, s, 0⟩ none none)) (by kernel_rfl) (fun w' hC => by obtain ⟨nl, rfl⟩ := hC; kernel_rfl) ?_
    simp only [Act.put, List.setIfInBounds_toArray, List.set_cons_zero, List.set_cons_succ, List.getElem_toArray, List.getElem_cons_zero, List.getElem_cons_succ]
    refine wpQuiet_nil ?_
    intro _ hw'
    obtain ⟨nq, hw''⟩ := hw'
    subst hw''
    obtain ⟨w2, hw2⟩ : ∃ x, x = w1.drewN nq := ⟨_, rfl⟩
    rw [← hw2]
    have b2 : Below w1.heap.size w1 w2 := by rw [hw2]; exact below_drewN (Below.refl _ _) nq
    have B2 := Lib.hid (B1.out.trans (b2.mono B1.out.size))
    have H2 := Lib.hid (H1.out.keep (w' := w2) (b2.block b H1.out.row.lt) (fun x hx => b2.block _ (H1.out.chain.lt x hx)))
    clear hw2 b2 c0 c1 c2 KT
    obtain ⟨w3, hw3⟩ : ∃ x, x = w2.alloc (.cells (Lk.cells ⟨k, s, 0⟩ none none) 118) := ⟨_, rfl⟩
    obtain ⟨g3, hg3⟩ : ∃ x, x = w2.heap.size := ⟨_, rfl⟩
    have b3 : Below w2.heap.size w2 w3 := by rw [hw3]; exact (Below.refl _ _).alloc (Nat.le_refl _) _
    have x3 : LkAt w3 ⟨k, s, g3⟩ none none := by unfold LkAt; rw [hw3, hg3]; exact heap_alloc_new _ _
    have h3 := H2.out.keep (w' := w3) (b3.block b H2.out.row.lt) (fun x hx => b3.block _ (H2.out.chain.lt x hx))
    obtain ⟨c0, c1, c2, f0, f1, f2⟩ := h3.row.cells
    have B3 := Lib.hid (B2.out.trans (b3.mono B2.out.size))
    have N3 := Lib.hid (show (∀ y ∈ ([] : List Lk), y.ad ≠ g3) ∧ w.heap.size ≤ g3 from ⟨fun y hy e => by have := H2.out.chain.lt y hy; omega, by rw [hg3]; exact B2.out.size⟩)
    have H3 := Lib.hid h3
    have X3 := Lib.hid x3
    have HW3 := Lib.hid hw3
    have HG3 := Lib.hid hg3
    clear b3 x3 h3 hw3 hg3
    replace c1 : w3.cell? ⟨b, o + 1, none⟩ = some (.pointer none) := c1
    go_upto_region 2 with fail
    have e3 : w2.alloc (.cells (Lk.cells ⟨k, s, 0⟩ none none) 118) = w3 := HW3.out.symm
    rw [e3, ← HG3.out]
    clear e3
    go_wp2_with fail
    go_ret
    refine ⟨g3, rfl, N3.out.2, H3.out.hangNil ⟨k, s, g3⟩ X3.out, ?_⟩
    exact (((Frm.of_below B3.out (Nat.le_refl _)).setCell (p := ⟨b, o, none⟩) (.inl (.inl rfl)) _).setCell (p := ⟨b, o + 1, none⟩) (.inl (.inl rfl)) _)
  | some a =>
    replace c1 : w1.cell? ⟨b, o + 1, none⟩ = some (.pointer (some ⟨a, 0, none⟩)) := by rw [c1, hl]; rfl
    have HA := Lib.hid hl
    clear hl
    go_enter Try.func46, Try.ntmps46
    go_upto_region 1 with fail
    rw [← HW.out, ← HG.out]
    refine wp_region_quiet_tail 6 (by kernel_rfl) (by kernel_rfl) ?_
    simp only [List.take_succ_cons, List.take_zero, List.drop_succ_cons, List.drop_zero]
    repeat (go_big_quiet_step (fail))
    refine wpQuiet_loadG (by kernel_rfl) 112 (.tmp 3) rfl ⟨g, 0, none⟩ rfl (wcs k s) _ (fun w' hC => by obtain ⟨nl, rfl⟩ := hC; exact KT) Try.underlying112 rfl (wtSize k s) ?_
    simp only [Act.put, List.setIfInBounds_toArray, List.set_cons_zero, List.set_cons_succ, List.getElem_toArray, List.getElem_cons_zero, List.getElem_cons_succ]
    repeat (go_big_quiet_step (fail))
    refine wpQuiet_runG (v := .agg (Lk.cells ⟨k, s, 0⟩ (some a) none)) (by kernel_rfl) (fun w' hC => by obtain ⟨nl, rfl⟩ := hC; kernel_rfl) ?_
    simp only [Act.put, List.setIfInBounds_toArray, List.set_cons_zero, List.set_cons_succ, List.getElem_toArray, List.getElem_cons_zero, List.getElem_cons_succ]
    refine wpQuiet_nil ?_
    intro _ hw'
    obtain ⟨nq, hw''⟩ := hw'
    subst hw''
    obtain ⟨w2, hw2⟩ : ∃ x, x = w1.drewN nq := ⟨_, rfl⟩
    rw [← hw2]
    have b2 : Below w1.heap.size w1 w2 := by rw [hw2]; exact below_drewN (Below.refl _ _) nq
    have B2 := Lib.hid (B1.out.trans (b2.mono B1.out.size))
    have H2 := Lib.hid (H1.out.keep (w' := w2) (b2.block b H1.out.row.lt) (fun x hx => b2.block _ (H1.out.chain.lt x hx)))
    clear hw2 b2 c0 c1 c2 KT
    obtain ⟨w3, hw3⟩ : ∃ x, x = w2.alloc (.cells (Lk.cells ⟨k, s, 0⟩ (some a) none) 118) := ⟨_, rfl⟩
    obtain ⟨g3, hg3⟩ : ∃ x, x = w2.heap.size := ⟨_, rfl⟩
    have b3 : Below w2.heap.size w2 w3 := by rw [hw3]; exact (Below.refl _ _).alloc (Nat.le_refl _) _
    have x3 : LkAt w3 ⟨k, s, g3⟩ (some a) none := by unfold LkAt; rw [hw3, hg3]; exact heap_alloc_new _ _
    have h3 := H2.out.keep (w' := w3) (b3.block b H2.out.row.lt) (fun x hx => b3.block _ (H2.out.chain.lt x hx))
    obtain ⟨c0, c1, c2, f0, f1, f2⟩ := h3.row.cells
    have B3 := Lib.hid (B2.out.trans (b3.mono B2.out.size))
    have N3 := Lib.hid (show (∀ y ∈ L, y.ad ≠ g3) ∧ w.heap.size ≤ g3 from ⟨fun y hy e => by have := H2.out.chain.lt y hy; omega, by rw [hg3]; exact B2.out.size⟩)
    have H3 := Lib.hid h3
    have X3 := Lib.hid x3
    have HW3 := Lib.hid hw3
    have HG3 := Lib.hid hg3
    clear b3 x3 h3 hw3 hg3
    replace c1 : w3.cell? ⟨b, o + 1, none⟩ = some (.pointer (some ⟨a, 0, none⟩)) := by rw [c1, HA.out]; rfl
    obtain ⟨A, y, hA, hya⟩ := lst_some HA.out
    have fa : w3.frozen? ⟨a, 5, none⟩ = false := by
      have hc := H3.out.chain
      rw [hA, chain_app] at hc
      rw [← hya]
      exact frozen_of_row w3 y.ad 5 _ _ hc.2.1
    have MA := Lib.hid (show ∃ x ∈ L, x.ad = a from ⟨y, by rw [hA]; simp, hya⟩)
    have ca : ∃ v, w3.cell? ⟨a, 5, none⟩ = some v := by
      have hc := H3.out.chain
      rw [hA, chain_app] at hc
      rw [← hya]
      exact ⟨_, by rw [cell_of_row w3 y.ad 5 _ _ _ hc.2.1]; rfl⟩
    obtain ⟨va, ca⟩ := ca
    clear hA hya
    obtain ⟨w4, hw4⟩ : ∃ x, x = w3.setCell ⟨a, 5, none⟩ (.pointer (some ⟨g3, 0, none⟩)) := ⟨_, rfl⟩
    have k4 : w4.heap[b]? = w3.heap[b]? := by
      rw [hw4]
      obtain ⟨x, hx, hxa⟩ := MA.out
      exact setCell_other _ _ _ (fun e => H3.out.sep x hx (hxa.trans e.symm))
    obtain ⟨d0, d1, d2, g0, g1, g2⟩ := (H3.out.row.keep k4).cells
    have HW4 := Lib.hid hw4
    clear hw4 k4 d0 d2 g0 g2
    go_upto_region 2 with fail
    have e3 : w2.alloc (.cells (Lk.cells ⟨k, s, 0⟩ (some a) none) 118) = w3 := HW3.out.symm
    rw [e3, ← HG3.out]
    clear e3
    go_upto_region 5 with fail
    rw [← HW4.out]
    go_wp2_with fail
    go_ret
    rw [HW4.out]
    refine ⟨g3, rfl, N3.out.2, H3.out.hangSome ⟨k, s, g3⟩ N3.out.1 HA.out X3.out, ?_⟩
    exact (((Frm.of_below B3.out (Nat.le_refl _)).setCell (p := ⟨a, 5, none⟩) (.inl (.inr MA.out)) _).setCell (p := ⟨b, o + 1, none⟩) (.inl (.inl rfl)) _)
end Go.Proofs.Ytjjmjbemflhlbaa.Qu
