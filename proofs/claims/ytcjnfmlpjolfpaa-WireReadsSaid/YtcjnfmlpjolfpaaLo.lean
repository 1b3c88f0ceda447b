/- The reference's Low: bytes as a number, the lowest first. -/
import Derived.Test.YtcjnfmlpjolfpaaTk
namespace Go.Proofs.Ytcjnfmlpjolfpaa
open Go Go.RowKit
set_option linter.unusedVariables false

def lwN : List UInt8 → Nat
  | [] => 0
  | x :: L => (lwN L * 256 % 4294967296 + x.toNat) % 4294967296
theorem lwN_lt : ∀ L, lwN L < 4294967296
  | [] => by simp [lwN]
  | x :: L => Nat.mod_lt _ (by decide)
theorem lwN_drop (L : List UInt8) {k : Nat} (h : k < L.length) : lwN (L.drop k) = (lwN (L.drop (k + 1)) * 256 % 4294967296 + (L.getD k 0).toNat) % 4294967296 := by
  rw [List.drop_eq_getElem_cons h]
  simp [lwN, List.getD, h]
def LoRel (w : World) (L : List UInt8) (x u : Value) (wr : World) : Prop := ∃ k : Nat, u = .int .i64 ((k : Int) - 1) ∧ k ≤ L.length ∧ x = .int .u32 ((lwN (L.drop k) : Nat) : Int) ∧ wr = w
theorem str_at (L : List UInt8) {k : Nat} (h : k < L.length) (h' : k < (str L).size) : (str L)[k] = L.getD k 0 := by
  show (str L).data[k] = _
  simp [str, List.getD, h]
set_option maxRecDepth 100000 in
set_option maxHeartbeats 800000 in
theorem refLow_any (L : List UInt8) (hL : L.length ≤ 1000000) (w : World) : Calls Try.prog 31 #[.string (str L)] w fun e w' => e = .returned (.int .u32 ((lwN L : Nat) : Int)) ∧ w = w' := by
  have hsz := wstr_size L
  go_enter Try.func31, Try.ntmps31
  go_wp2_with fail
  go_loopw [3, 4] (fun x u wr => LoRel w L x u wr) (fun _ u _ => (intOf u + 1).toNat)
  case atStart => exact ⟨L.length, rfl, Nat.le_refl _, by simp [lwN], rfl⟩
  case round =>
    obtain ⟨k, rfl, hk, rfl, hwr⟩ := hrel
    obtain rfl := hwr.symm
    by_cases h0 : 0 < k
    · obtain ⟨j, rfl⟩ : ∃ j, k = j + 1 := ⟨k - 1, by omega⟩
      have hd := lwN_drop L (show j < L.length by omega)
      have hlt := lwN_lt (L.drop (j + 1))
      have hat := fun h' => str_at L (show j < L.length by omega) h'
      have b8 := (L.getD j 0).toNat_lt
      have j1 : (j : Int) < (L.length : Int) := by omega
      generalize lwN (L.drop (j + 1)) = x0 at *
      generalize L.getD j 0 = y at *
      have HD := Lib.hid hd
      clear hd
      rw [show ((j + 1 : Nat) : Int) - 1 = (j : Int) by omega]
      go_wp2_with fail
      refine ⟨⟨j, rfl, by omega, ?_, rfl⟩, by simp [intOf]⟩
      rw [HD.out]
      congr 1
      omega
    · obtain rfl : k = 0 := by omega
      rw [show ((0 : Nat) : Int) - 1 = -1 from rfl]
      go_wp2_with fail
      go_ret
      exact ⟨rfl, rfl⟩
/-- Both numbers are the same. -/
theorem rfN_lwN (L : List UInt8) (h : L.length = 4) : rfN L 4 = lwN L := by
  match L, h with
  | [a, b, c, d], _ =>
    have ha := a.toNat_lt
    have hb := b.toNat_lt
    have hc := c.toNat_lt
    have hd := d.toNat_lt
    simp [rfN, lwN]
    omega
theorem rfN_leTo (n : Nat) (hn : n < 4294967296) : rfN (leTo n 4) 4 = n := by
  simp [leTo, rfN]
  omega
end Go.Proofs.Ytcjnfmlpjolfpaa
