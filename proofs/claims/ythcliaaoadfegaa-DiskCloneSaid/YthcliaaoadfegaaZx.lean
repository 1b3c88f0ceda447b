/- The laws' own play: the frame of its walk. -/
import Derived.Test.YthcliaaoadfegaaZs
import Derived.Test.YthcliaaoadfegaaZh
import Derived.Test.YthcliaaoadfegaaZp
import Derived.Test.YthcliaaoadfegaaDe
import Derived.Test.YthcliaaoadfegaaDu
namespace Go.Proofs.Ythcliaaoadfegaa.Dk
open Go Go.RowKit
set_option linter.unusedVariables false
set_option linter.unusedSimpArgs false
theorem opRow0 {w : World} {k : Nat} {p : OpD} (h : w.heap[k]? = some (.cells p.cells.toArray 37 (0, 0))) : w.cell? ⟨k, 0, none⟩ = some (.int .i64 p.kind) := by rw [cell_of_row w k 0 _ _ _ h]; rfl
theorem opRow1 {w : World} {k : Nat} {p : OpD} (h : w.heap[k]? = some (.cells p.cells.toArray 37 (0, 0))) : w.cell? ⟨k, 1, none⟩ = some (.int .i64 p.n) := by rw [cell_of_row w k 1 _ _ _ h]; rfl
theorem opRow2 {w : World} {k : Nat} {p : OpD} (h : w.heap[k]? = some (.cells p.cells.toArray 37 (0, 0))) : w.cell? ⟨k, 2, none⟩ = some (.int .i64 p.at_) := by rw [cell_of_row w k 2 _ _ _ h]; rfl
theorem opRow3 {w : World} {k : Nat} {p : OpD} (h : w.heap[k]? = some (.cells p.cells.toArray 37 (0, 0))) : w.cell? ⟨k, 3, none⟩ = some (.int .u8 p.x) := by rw [cell_of_row w k 3 _ _ _ h]; rfl
theorem opRow4 {w : World} {k : Nat} {p : OpD} (h : w.heap[k]? = some (.cells p.cells.toArray 37 (0, 0))) : w.cell? ⟨k, 4, none⟩ = some (.bool p.raw) := by rw [cell_of_row w k 4 _ _ _ h]; rfl
theorem opRow5 {w : World} {k : Nat} {p : OpD} (h : w.heap[k]? = some (.cells p.cells.toArray 37 (0, 0))) : w.cell? ⟨k, 5, none⟩ = some (.slice p.ao p.data.length p.cap) := by rw [cell_of_row w k 5 _ _ _ h]; rfl
theorem opRow6 {w : World} {k : Nat} {p : OpD} (h : w.heap[k]? = some (.cells p.cells.toArray 37 (0, 0))) : w.cell? ⟨k, 6, none⟩ = some (.slice p.ko p.keep.length p.kcap) := by rw [cell_of_row w k 6 _ _ _ h]; rfl
/-- The three blocks that play makes first. -/
def pent (w : World) (v : RV) (p : OpD) : World := ((w.alloc (.cells v.cells.toArray 32)).alloc (.cells p.cells.toArray 37)).alloc (.cells zeroR.cells.toArray 32)
theorem pent_lit {w w3 : World} {v : RV} {p : OpD} (h : w3 = pent w v p) : w3 = ((w.alloc (.cells v.cells.toArray 32)).alloc (.cells p.cells.toArray 37)).alloc (.cells #[.slice none 0 0, .slice none 0 0, .bool false, .int .i64 0, .int .i64 0, .int .i64 0] 32) := h
theorem pent_spec (w : World) (v : RV) (p : OpD) : RVB (pent w v p) w.heap.size v ∧ (pent w v p).heap[w.heap.size + 1]? = some (.cells p.cells.toArray 37 (0, 0)) ∧ RVB (pent w v p) (w.heap.size + 1 + 1) zeroR ∧ Below w.heap.size w (pent w v p) := by
  have e1 : (w.alloc (.cells v.cells.toArray 32)).heap.size = w.heap.size + 1 := Array.size_push _
  have e2 : ((w.alloc (.cells v.cells.toArray 32)).alloc (.cells p.cells.toArray 37)).heap.size = w.heap.size + 1 + 1 := by rw [← e1]; exact Array.size_push _
  refine ⟨?_, ?_, ?_, ?_⟩
  · exact (Below.heap_alloc _ _ _ (by rw [e2]; omega)).trans ((Below.heap_alloc _ _ _ (by rw [e1]; omega)).trans (heap_alloc_new _ _))
  · refine (Below.heap_alloc _ _ _ (by rw [e2]; omega)).trans ?_
    rw [← e1]
    exact heap_alloc_new _ _
  · rw [← e2]
    exact heap_alloc_new _ _
  · exact (((Below.refl _ w).alloc (Nat.le_refl _) _).alloc (by rw [e1]; omega) _).alloc (by rw [e2]; omega) _
/-- Where play stands, behind the operation. -/
def PyRel (T : Nat → Prop) (w : World) (d g m k4 k6 n L N : Nat) (a b : Value) (wx : World) : Prop :=
  ∃ (code : Int) (x' : DS) (v' : RV) (W' : List (Int × List UInt8)) (n' : Nat), a = .int .i64 code ∧ b = .int .i64 code ∧ DiskAt Try.prog wx d g m n' x' ∧ RVB wx k4 v' ∧ RVB wx k6 zeroR ∧ RVOf T wx v' x' W' ∧ Link x' W' ∧ Frm (own3 d g m) w wx ∧ n' ≤ n + 1 ∧ W'.length ≤ L + 1 ∧ x'.s.length = N
/-- What is known at the switch. -/
structure Py0 (T : Nat → Prop) (w w3 : World) (d g m k4 k5 k6 n : Nat) (x : DS) (v : RV) (W : List (Int × List UInt8)) (p : OpD) : Prop where
  D : DiskAt Try.prog w3 d g m n x
  R : RVB w3 k4 v
  O : w3.heap[k5]? = some (.cells p.cells.toArray 37 (0, 0))
  Z : RVB w3 k6 zeroR
  V : RVOf T w3 v x W
  L : Link x W
  be : Below w.heap.size w w3
  hO : ∀ k, own3 d g m k → T k ∧ k < w.heap.size
  hT : ∀ k, T k → k < w3.heap.size
  hK : w.heap.size ≤ k4 ∧ w.heap.size ≤ k5 ∧ w.heap.size ≤ k6 ∧ k4 ≠ k5 ∧ k4 ≠ k6 ∧ k5 ≠ k6 ∧ T k4
  hn : n ≤ 1000000
  hW : W.length ≤ 900000
  good : p.Good w3
  fit : p.fits = true
  pd : 0 < p.data.length → ∀ a, p.ao = some a → ¬ own3 d g m a.block
  pk : 0 < p.keep.length → ∀ a, p.ko = some a → ¬ own3 d g m a.block
theorem Py0.no {T : Nat → Prop} {w w3 : World} {d g m k4 k5 k6 n : Nat} {x : DS} {v : RV} {W : List (Int × List UInt8)} {p : OpD} (h : Py0 T w w3 d g m k4 k5 k6 n x v W p) : ¬ own3 d g m k4 ∧ ¬ own3 d g m k5 ∧ ¬ own3 d g m k6 :=
  ⟨fun e => by have := (h.hO _ e).2; have := h.hK; omega, fun e => by have := (h.hO _ e).2; have := h.hK; omega, fun e => by have := (h.hO _ e).2; have := h.hK; omega⟩
/-- Behind a call on the disk. -/
structure Py1 (T : Nat → Prop) (w w3 w4 : World) (d g m k4 k5 k6 n : Nat) (x x' : DS) (v : RV) (W : List (Int × List UInt8)) (p : OpD) : Prop where
  D : DiskAt Try.prog w4 d g m n x'
  R : RVB w4 k4 v
  O : w4.heap[k5]? = some (.cells p.cells.toArray 37 (0, 0))
  Z : RVB w4 k6 zeroR
  V : RVOf T w4 v x W
  F : Frm (own3 d g m) w w4
  hT : ∀ k, T k → k < w4.heap.size
theorem Py0.next {T : Nat → Prop} {w w3 w4 : World} {d g m k4 k5 k6 n n' : Nat} {x x' : DS} {v : RV} {W : List (Int × List UInt8)} {p : OpD} (h : Py0 T w w3 d g m k4 k5 k6 n x v W p) (hD : DiskAt Try.prog w4 d g m n' x') (f : Frm (own3 d g m) w3 w4) : Py1 T w w3 w4 d g m k4 k5 k6 n' x x' v W p :=
  ⟨hD, h.R.frame f h.no.1, (f.block k5 (lt_of_row h.O) h.no.2.1).trans h.O, h.Z.frame f h.no.2.2, h.V.frame f (fun k _ e => (h.hO k e).1), (Frm.of_below h.be (Nat.le_refl _)).trans f, fun k hk => Nat.lt_of_lt_of_le (h.hT k hk) f.size⟩
/-- Behind the reference's call too, its value stored. -/
theorem Py1.done {T : Nat → Prop} {w w3 w4 w5 : World} {d g m k4 k5 k6 n : Nat} {x x' : DS} {v v' : RV} {W W' : List (Int × List UInt8)} {p : OpD} (h0 : Py0 T w w3 d g m k4 k5 k6 n x v W p) {n' : Nat} (h : Py1 T w w3 w4 d g m k4 k5 k6 n' x x' v W p) (hb : Below w4.heap.size w4 w5) (hv : RVOf T w5 v' x' W') :
    DiskAt Try.prog (w5.setRow k4 v'.cells.toArray) d g m n' x' ∧ RVB (w5.setRow k4 v'.cells.toArray) k4 v' ∧ RVB (w5.setRow k4 v'.cells.toArray) k6 zeroR ∧ RVOf T (w5.setRow k4 v'.cells.toArray) v' x' W' ∧ Frm (own3 d g m) w (w5.setRow k4 v'.cells.toArray) := by
  have hK := h0.hK
  have hne : ∀ k, own3 d g m k → k ≠ k4 := fun k hk e => by have := (h0.hO k hk).2; omega
  have hb' := h.D.below hb (Nat.le_refl _)
  have f : Frm (fun k => k = k4) w5 (w5.setRow k4 v'.cells.toArray) := (Frm.refl (fun k => k = k4) w5).setRow (.inl rfl) _
  refine ⟨hb'.frame f (hne d (.inl rfl)) (hne g (.inr (.inl rfl))) (hne m (.inr (.inr rfl))), (h.R.below hb (Nat.le_refl _)).whole v', (h.Z.below hb (Nat.le_refl _)).frame f (fun e => hK.2.2.2.2.1 e.symm), hv.frame f (fun k _ e => e ▸ hK.2.2.2.2.2.2), ?_⟩
  exact (h.F.thenBelow hb (Nat.le_refl _)).setRow (.inr hK.1) _
end Go.Proofs.Ythcliaaoadfegaa.Dk
