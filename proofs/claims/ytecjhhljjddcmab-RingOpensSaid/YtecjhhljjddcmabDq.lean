/- The laws' head: works answers true. -/
import Derived.Test.YtecjhhljjddcmabDy
import Derived.Test.YtecjhhljjddcmabDn
import Derived.Test.YtecjhhljjddcmabDl
import Derived.Test.YtecjhhljjddcmabDu
import Derived.Test.YtecjhhljjddcmabDe
namespace Go.Proofs.Ytecjhhljjddcmab.Dk
open Go Go.RowKit
set_option linter.unusedVariables false
set_option linter.unusedSimpArgs false

/-- Bytes of one's own are written. -/
theorem write_own {w : World} {d g m n : Nat} {x : DS} (h : DiskAt Try.prog w d g m n x) (hn : n < maxLen) (i : Int) (hw : wfi i) {v : Value} {l : List UInt8} {t : TypeId} (hv : ∃ k, v = .slice (some ⟨k, 0, none⟩) 128 128 ∧ w.heap[k]? = some (.cells (bvs l).toArray t (0, 0)) ∧ l.length = 128 ∧ ¬ own3 d g m k) :
    Calls Try.prog 82 #[.pointer (some ⟨d, 0, none⟩), .int .i64 i, v] w fun e w' => e = .returned (.int .i64 (x.wcode i 128)) ∧ DiskAt Try.prog w' d g m (n + 1) (x.write i l) ∧ Frm (own3 d g m) w w' := by
  obtain ⟨k, rfl, hb, hl, hk⟩ := hv
  have := write_any h hn i hw (some ⟨k, 0, none⟩) l 128 (by
    intro k' o e
    cases e
    intro j u hu
    rw [cell_of_row w k (0 + j) _ _ _ hb, Nat.zero_add]
    simpa using hu) (fun _ => ⟨k, 0, rfl, hk⟩)
  rw [hl] at this
  exact this
theorem ks_nil {w : World} {d g m : Nat} : ∀ j, j < ([] : List Int).length → ∃ a, (none : Option Addr) = some a ∧ w.cell? (a.add j) = some (.int .i64 (([] : List Int).getD j 0)) ∧ ¬ own3 d g m (a.add j).block := fun j hj => by simp at hj
/-- A disk's life in works. -/
def dA (b : List UInt8) : DS := ⟨[zeros, zeros], upd (fun _ => none) 1 b, -1, false, 1, 0⟩
def dB (b : List UInt8) : DS := ⟨[zeros, b], fun _ => none, -1, false, 1, 1⟩
def dC (b c : List UInt8) : DS := ⟨[zeros, b], upd (fun _ => none) 1 c, -1, false, 2, 1⟩
def dD (b c : List UInt8) : DS := ⟨[zeros, c.take 3 ++ b.drop 3], fun _ => none, -1, true, 2, 1⟩
def dE (b c : List UInt8) : DS := ⟨[zeros, c.take 3 ++ b.drop 3], fun _ => none, -1, false, 2, 1⟩
theorem life_a {b : List UInt8} (hb : b.length = 128) : (DS.new 2).write 1 b = dA b ∧ (DS.new 2).wcode 1 128 = 0 := by
  constructor
  · simp [DS.write, DS.new, DS.has, DS.spend, dA, hb, wrap64]
  · simp [DS.wcode, DS.new, DS.has]
theorem life_b {b : List UInt8} : (dA b).flush = dB b ∧ (dA b).fcode = 0 := by
  constructor
  · simp [DS.flush, DS.spend, dA, dB, wrap64, laid, upd]
  · simp [DS.fcode, dA]
theorem life_c {b c : List UInt8} (hc : c.length = 128) : (dB b).write 1 c = dC b c ∧ (dB b).wcode 1 128 = 0 := by
  constructor
  · simp [DS.write, dB, DS.has, DS.spend, dC, hc, wrap64]
  · simp [DS.wcode, dB, DS.has]
theorem life_d {b c : List UInt8} : (dC b c).crash [] 1 3 = dD b c := by
  have e : (min (max (3 : Int) 0) 128).toNat = 3 := by decide
  simp [DS.crash, DS.settle, dC, dD, upd, e]
theorem life_e {b c : List UInt8} : (dD b c).up = dE b c := by
  simp [DS.up, dD, dE]
theorem life_f {b c : List UInt8} : (dE b c).read 1 = (c.take 3 ++ b.drop 3, 0) := by
  simp [DS.read, DS.sure, DS.has, dE]
theorem life_in {x : DS} {b : List UInt8} (hS : x.S = upd (fun _ => none) 1 b) (hs : x.s.length = 2) : ∀ i l, wfi i → x.S i = some l → x.has i = true := by
  intro i l _ h
  rw [hS] at h
  simp [upd] at h
  simp [DS.has, hs, h.1]
theorem sec_at {w0 w : World} {v : Value} {l : List UInt8} (h : Sec w0 w v l) : ∃ g, v = .slice (some ⟨g, 0, none⟩) 128 128 ∧ w0.heap.size ≤ g ∧ w.heap[g]? = some (.cells (bvs l).toArray 119 (0, 0)) := by
  obtain ⟨g, e, h1, h2, _⟩ := h
  exact ⟨g, e, h1, h2⟩
end Go.Proofs.Ytecjhhljjddcmab.Dk
