/- A slice of bytes made a string. -/
import Derived.Test.YtejbookaflnpeabDoorDa
import Derived.ShutString
namespace Go.Proofs.YtejbookaflnpeabDoor
open Go Go.RowKit
set_option linter.unusedVariables false

def str (ys : List UInt8) : ByteArray := ⟨ys.toArray⟩
theorem str_size (ys : List UInt8) : (str ys).size = ys.length := by simp [str, ByteArray.size]
theorem str_list (ys : List UInt8) : (str ys).data.toList = ys := by simp [str]
theorem str_of_nums (ys : List UInt8) : strOfNums (ys.map fun b => (b.toNat : Int)) = str ys := by
  simp [strOfNums, str, Function.comp_def]
theorem run_convert_sl {w : World} {ao : Option Addr} {n c : Nat} {ys : List UInt8} (hn : ys.length = n) (hno : ao = Option.none → ys = []) (hs : ∀ a, ao = some a → ∀ j u, (bvs ys)[j]? = some u → w.cell? (a.add j) = some u) :
    (convert 41 9 (.slice ao n c)).run Tryd.prog w = .ok (.string (str ys)) w := by
  cases ao with
  | none =>
    obtain rfl := hno rfl
    subst hn
    exact run_convert_bytes_nil w 41 5 Tryd.underlying41 Tryd.underlying5 _ _ 9 Tryd.underlying9
  | some a =>
    have hl : (loadCells a n).run Tryd.prog w = .ok ((ys.map fun b => (b.toNat : Int)).map (Value.int .u8)).toArray w := by
      have := run_loadCells_list (P := Tryd.prog) w a (bvs ys) (hs a rfl)
      rw [bvs_length, hn] at this
      rw [this]
      simp [bvs, bv, Function.comp_def]
    rw [run_convert_bytes_string w 41 9 5 _ n c Tryd.underlying41 Tryd.underlying5 Tryd.underlying9, run_bytesToString w _ n c _ hl, foldl_push_bytes, ← str_of_nums]
    simp [strOfNums, ByteArray.empty, ByteArray.emptyWithCapacity]
    rfl
theorem Bs.str {w : World} {ao : Option Addr} {n c : Nat} {xs : List UInt8} (h : Bs w (.slice ao n c) xs) : (convert 41 9 (.slice ao n c)).run Tryd.prog w = .ok (.string (str xs)) w := by
  obtain ⟨ao', c', hv, hc, hno, hs⟩ := h
  obtain ⟨rfl, rfl, rfl⟩ : ao = ao' ∧ n = xs.length ∧ c = c' := by simpa using hv
  exact run_convert_sl rfl (fun e => List.eq_nil_of_length_eq_zero (hno e)) hs
theorem Bs.len {w : World} {ao : Option Addr} {n c : Nat} {xs : List UInt8} (h : Bs w (.slice ao n c) xs) : n = xs.length := by
  obtain ⟨ao', c', hv, _⟩ := h
  simp at hv
  exact hv.2.1
end Go.Proofs.YtejbookaflnpeabDoor
