/- What the laws' own sector and full leave. -/
import Derived.Test.YtecjhhljjddcmabDw
import Derived.Laws.CopyOwn
import Derived.OwnWalk
namespace Go.Proofs.Ytecjhhljjddcmab.Dk
open Go Go.RowKit
set_option linter.unusedVariables false
set_option linter.unusedSimpArgs false

theorem Try.infoU8 : (Try.prog.info? 5).map (fun i => (i.zero, i.size, i.bytes)) = some (some (.int .u8 0), 1, 1) := by kernel_rfl
/-- Bytes, noughts behind them. -/
def pad (xs : List UInt8) : List UInt8 := xs.take 128 ++ List.replicate (128 - xs.length) 0
theorem pad_length (xs : List UInt8) : (pad xs).length = 128 := by simp [pad]; omega
/-- Bytes in a block of their own. -/
def Own (w0 w : World) (v : Value) (l : List UInt8) : Prop := ∃ g, v = .slice (some ⟨g, 0, none⟩) 128 128 ∧ w0.heap.size ≤ g ∧ w.heap[g]? = some (.cells (bvs l).toArray 5 (0, 0)) ∧ l.length = 128
theorem made_u8 (n : Nat) : (madeCells #[.int .u8 0] n).toList = List.replicate n (.int .u8 0) := by
  apply List.ext_getElem
  · simp [madeCells]
  · intro i h1 h2
    simp [madeCells, Nat.mod_one]
theorem bvs_set (L : List UInt8) (k : Nat) (x : UInt8) : (bvs L).toArray.setIfInBounds k (bv x) = (bvs (L.set k x)).toArray := by simp [bvs, List.map_set]
/-- What the loop of full keeps. -/
def FullRel (w : World) (g : Nat) (x : UInt8) (u : Value) (wr : World) : Prop :=
  ∃ (k : Nat) (L : List UInt8), u = .int .i64 (k : Int) ∧ k ≤ 128 ∧ L.length = 128 ∧ (∀ j, j < k → L[j]? = some x) ∧ wr.heap[g]? = some (.cells (bvs L).toArray 5 (0, 0)) ∧ Below w.heap.size w wr
theorem all_same {L : List UInt8} {x : UInt8} {n : Nat} (h : L.length = n) (hx : ∀ j, j < n → L[j]? = some x) : L = List.replicate n x := by
  apply List.ext_getElem?
  intro i
  by_cases hi : i < n
  · rw [hx i hi]; simp [hi]
  · rw [List.getElem?_eq_none (by omega), List.getElem?_eq_none (by simp; omega)]
end Go.Proofs.Ytecjhhljjddcmab.Dk
