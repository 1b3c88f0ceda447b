/- The law DiskOwn: its walk. -/
import Derived.Test.YtllnaocnojhlkaaDq
import Derived.Deep.RegionWith
namespace Go.Proofs.Ytllnaocnojhlkaa.Dk
open Go Go.RowKit
set_option linter.unusedVariables false
set_option linter.unusedSimpArgs false

/-- Numbers of a byte's size as cells. -/
def bis (zs : List Int) : List Value := zs.map (Value.int .u8)
theorem bvs_bis (l : List UInt8) : bvs l = bis (l.map fun b => (b.toNat : Int)) := by simp [bvs, bis, bv, Function.comp_def]
/-- Where a loop stands that raises each byte of a block. -/
def IncRel (w : World) (d g m n : Nat) (x : DS) (k : Nat) (t : TypeId) (u : Value) (wr : World) : Prop :=
  ∃ (j : Nat) (zs : List Int), u = .int .i64 (j : Int) ∧ j ≤ 128 ∧ zs.length = 128 ∧ wr.heap[k]? = some (.cells (bis zs).toArray t (0, 0)) ∧ DiskAt Try.prog wr d g m n x ∧ Below w.heap.size w wr
theorem inc_start {w wr : World} {d g m n : Nat} {x : DS} {k : Nat} {t : TypeId} {l : List UInt8} (h : wr.heap[k]? = some (.cells (bvs l).toArray t (0, 0))) (hl : l.length = 128) (hD : DiskAt Try.prog wr d g m n x) (hB : Below w.heap.size w wr) :
    IncRel w d g m n x k t (.int .i64 0) wr := ⟨0, l.map fun b => (b.toNat : Int), rfl, by omega, by simp [hl], by rw [bvs_bis] at h; exact h, hD, hB⟩
theorem inc_step {w wr : World} {d g m n : Nat} {x : DS} {k j : Nat} {t : TypeId} {zs : List Int} (hj : j < 128) (hz : zs.length = 128) (h : wr.heap[k]? = some (.cells (bis zs).toArray t (0, 0))) (hD : DiskAt Try.prog wr d g m n x) (hB : Below w.heap.size w wr) (hk : ¬ own3 d g m k) (hw : w.heap.size ≤ k) :
    wr.cell? ⟨k, j, none⟩ = some (.int .u8 (zs.getD j 0)) ∧ wr.frozen? ⟨k, j, none⟩ = false ∧ ∀ z : Int, IncRel w d g m n x k t (.int .i64 ((j + 1 : Nat) : Int)) (wr.setCell ⟨k, j, none⟩ (.int .u8 z)) := by
  refine ⟨?_, frozen_of_row wr k j _ _ h, fun z => ⟨j + 1, zs.set j z, rfl, by omega, by simp [hz], ?_, ?_, hB.setCell hw _⟩⟩
  · rw [cell_of_row wr k j _ _ _ h]
    simp [bis, List.getD, hz, hj]
  · have := Go.Joins.block_setCell (i := j) h (.int .u8 z)
    simpa [bis, List.map_set] using this
  · have hne : ∀ i, own3 d g m i → i ≠ k := fun i hi e => hk (e ▸ hi)
    exact hD.keep (Below.heap_setCell wr ⟨k, j, none⟩ _ d (hne d (.inl rfl))) (Below.heap_setCell wr ⟨k, j, none⟩ _ g (hne g (.inr (.inl rfl)))) (Below.heap_setCell wr ⟨k, j, none⟩ _ m (hne m (.inr (.inr rfl))))
def oA (p : List UInt8) : DS := ⟨[zeros], upd (fun _ => none) 0 p, -1, false, 1, 0⟩
def oB (p : List UInt8) : DS := ⟨[p], fun _ => none, -1, false, 1, 1⟩
theorem own_a {p : List UInt8} (hp : p.length = 128) : (DS.new 1).write 0 p = oA p ∧ (DS.new 1).wcode 0 128 = 0 := by
  constructor
  · simp [DS.write, DS.new, DS.has, DS.spend, oA, hp, wrap64]
  · simp [DS.wcode, DS.new, DS.has]
theorem own_b {p : List UInt8} : (oA p).flush = oB p ∧ (oA p).fcode = 0 := by
  constructor
  · simp [DS.flush, DS.spend, oA, oB, wrap64, laid, upd]
  · simp [DS.fcode, oA]
theorem own_r {p : List UInt8} : (oA p).read 0 = (p, 0) ∧ (oB p).read 0 = (p, 0) ∧ (oB p).sure 0 = (p, 0) := by
  refine ⟨?_, ?_, ?_⟩
  · simp [DS.read, oA, upd]
  · simp [DS.read, DS.sure, DS.has, oB]
  · simp [DS.sure, DS.has, oB]
theorem own_in {p : List UInt8} : ∀ i l, wfi i → (oA p).S i = some l → (oA p).has i = true := by
  intro i l _ h
  simp [oA, upd] at h
  simp [DS.has, oA, h.1]
theorem sl_row {w : World} {k n c : Nat} {t : TypeId} {l : List UInt8} (h : w.heap[k]? = some (.cells (bvs l).toArray t (0, 0))) (hl : l.length = n) : Sl w (.slice (some ⟨k, 0, none⟩) n c) l := by
  refine ⟨some ⟨k, 0, none⟩, c, (by rw [hl]), (fun e => by cases e), fun a ha j u hu => ?_⟩
  cases ha
  rw [Addr.add_mid, cell_of_row w k (0 + j) _ _ _ h, Nat.zero_add]
  simpa using hu
end Go.Proofs.Ytllnaocnojhlkaa.Dk
