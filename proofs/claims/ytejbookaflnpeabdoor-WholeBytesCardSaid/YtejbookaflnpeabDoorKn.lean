/- The head of the sum laws: known. -/
import Derived.Test.YtejbookaflnpeabDoorKc
import Derived.Lib.SlBytesConst
namespace Go.Proofs.YtejbookaflnpeabDoor
open Go Go.RowKit
set_option linter.unusedVariables false
theorem conv_bytes (w : World) (C : Array Value) (n c : Nat) : (Go.convert 41 41 (.slice (some ⟨w.heap.size, 0, none⟩) n c)).run Tryd.prog (w.alloc (.cells C 5)) = .ok (.slice (some ⟨w.heap.size, 0, none⟩) n c) (w.alloc (.cells C 5 (C.size, C.size + 1))) := Lib.run_convert_bytes_const (P := Tryd.prog) w 41 5 C n c Tryd.underlying41 Tryd.underlying5
theorem index_sum (cs : Array Value) (i : Nat) (u : Value) (hi : i < 32) (hs : cs.size = 32) (h : cs[i]? = some u) (k : IntKind) (w : World) : (Instr.index 43 (.agg cs) (.int k (i : Int))).run Tryd.prog w = .ok u w := by
  have hu : Tryd.prog.underlying 43 = some (.array 32 5) := by kernel_rfl
  obtain ⟨i0, hi0, hz0, hz1, hz2⟩ := info_parts Tryd.info5
  have hi' : i < cs.size := by omega
  have hv : cs[i] = u := by rw [Array.getElem?_eq_getElem hi'] at h; exact Option.some.inj h
  simp [Instr.index, run_underlying hu, asIntOf, go_sem, hi, sizeOf, typeInfo, hi0, hz1, hv, hi']
theorem bvs_lit (l : List UInt8) (i : Nat) (h : i < l.length) : (bvs l).toArray[i]? = some (.int .u8 ((l.getD i 0).toNat : Int)) := by
  simp [bvs, bv, List.getD, h]
end Go.Proofs.YtejbookaflnpeabDoor
