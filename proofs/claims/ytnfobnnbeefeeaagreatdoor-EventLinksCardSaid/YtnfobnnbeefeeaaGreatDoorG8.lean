/- The parser in memory: fail, take, next. -/
import Derived.Test.YtnfobnnbeefeeaaGreatDoorG7
import Derived.Test.YtnfobnnbeefeeaaGreatDoorG2
import Derived.Test.YtnfobnnbeefeeaaGreatDoorSr
namespace Go.Proofs.YtnfobnnbeefeeaaGreatDoor.Wi
open Go Go.RowKit
set_option linter.unusedVariables false
set_option linter.unusedSimpArgs false
theorem str_extractV (l : List UInt8) (a b : Nat) : (str l).extract a b = str ((l.take b).drop a) := by
  simp [str, ByteArray.ext_iff, List.drop_take]
def tkV (p l : List UInt8) (k : Nat) : Bool := p.isPrefixOf (l.drop k)
def tkN (p l : List UInt8) (k : Nat) : Nat := if tkV p l k = true then k + p.length else k
theorem tkN_le {p l : List UInt8} {k : Nat} (hk : k ≤ l.length) : tkN p l k ≤ l.length := by
  unfold tkN
  by_cases h : tkV p l k = true
  · rw [if_pos h]
    have h2 := (List.isPrefixOf_iff_prefix.1 h).length_le
    rw [List.length_drop] at h2
    omega
  · rw [if_neg h]; exact hk
/-- What next tells: the byte, how far, the error. -/
def nxV (l : List UInt8) (k : Nat) (e : Int) : UInt8 × Nat × Int := if k = l.length then (0, k, fe e 8) else (l.getD k 0, k + 1, e)
theorem nxV_le {l : List UInt8} {k : Nat} {e : Int} (hk : k ≤ l.length) : (nxV l k e).2.1 ≤ l.length := by
  unfold nxV
  by_cases h : k = l.length
  · rw [if_pos h]; exact hk
  · rw [if_neg h]; show k + 1 ≤ _; omega
end Go.Proofs.YtnfobnnbeefeeaaGreatDoor.Wi
/- The parser's hexDigit, char. -/
namespace Go.Proofs.YtnfobnnbeefeeaaGreatDoor.Wi
open Go Go.RowKit
set_option linter.unusedVariables false
set_option linter.unusedSimpArgs false
def hexL : List UInt8 := [48, 49, 50, 51, 52, 53, 54, 55, 56, 57, 97, 98, 99, 100, 101, 102]
def hxi (c : UInt8) : Int := Lib.indexByte hexL c
theorem hxi_all : ∀ c : Fin 256, -1 ≤ hxi (UInt8.ofNat c.val) ∧ hxi (UInt8.ofNat c.val) < 16 := by decide +kernel
theorem hxi_lt (c : UInt8) : -1 ≤ hxi c ∧ hxi c < 16 := by
  have h := hxi_all ⟨c.toNat, c.toNat_lt⟩
  simpa using h
def hxV (l : List UInt8) (k : Nat) (e : Int) : UInt8 × Nat × Int :=
  let X := nxV l k e
  if hxi X.1 < 0 then (0, X.2.1, fe X.2.2 8) else (UInt8.ofNat (hxi X.1).toNat, X.2.1, X.2.2)
theorem hxV_le {l : List UInt8} {k : Nat} {e : Int} (hk : k ≤ l.length) : (hxV l k e).2.1 ≤ l.length := by
  have h := nxV_le (e := e) hk
  unfold hxV
  dsimp only
  by_cases h2 : hxi (nxV l k e).1 < 0
  · rw [if_pos h2]; exact h
  · rw [if_neg h2]; exact h
theorem hxV_lt (l : List UInt8) (k : Nat) (e : Int) : (hxV l k e).1.toNat < 16 := by
  unfold hxV
  dsimp only
  have h := hxi_lt (nxV l k e).1
  by_cases h2 : hxi (nxV l k e).1 < 0
  · rw [if_pos h2]; show (0 : UInt8).toNat < 16; decide
  · rw [if_neg h2]
    show (UInt8.ofNat (hxi (nxV l k e).1).toNat).toNat < 16
    rw [UInt8.toNat_ofNat']
    omega
def chV (l : List UInt8) (k : Nat) (e : Int) : UInt8 × Nat × Int :=
  let X := nxV l k e
  if X.1 ≠ 92 then X else
    let Y := nxV l X.2.1 X.2.2
    if Y.1 ≠ 120 then Y else
      let A := hxV l Y.2.1 Y.2.2
      let B := hxV l A.2.1 A.2.2
      (A.1 * 16 + B.1, B.2.1, B.2.2)
theorem chV_le {l : List UInt8} {k : Nat} {e : Int} (hk : k ≤ l.length) : (chV l k e).2.1 ≤ l.length := by
  have h1 := nxV_le (e := e) hk
  have h2 := nxV_le (l := l) (e := (nxV l k e).2.2) h1
  have h3 := hxV_le (l := l) (e := (nxV l (nxV l k e).2.1 (nxV l k e).2.2).2.2) h2
  have h4 := hxV_le (l := l) (e := (hxV l (nxV l (nxV l k e).2.1 (nxV l k e).2.2).2.1 (nxV l (nxV l k e).2.1 (nxV l k e).2.2).2.2).2.2) h3
  unfold chV
  dsimp only
  split
  · exact h1
  · split
    · exact h2
    · exact h4
end Go.Proofs.YtnfobnnbeefeeaaGreatDoor.Wi
/- The parser's text. -/
namespace Go.Proofs.YtnfobnnbeefeeaaGreatDoor.Wi
open Go Go.RowKit
set_option linter.unusedVariables false
set_option linter.unusedSimpArgs false
def kOf (w : World) (b : Nat) : Nat := match w.cell? ⟨b, 1, none⟩ with | some (.int _ i) => i.toNat | _ => 0
def eOf (w : World) (b : Nat) : Int := match w.cell? ⟨b, 2, none⟩ with | some (.int _ i) => i | _ => 0
def mes (l : List UInt8) (k : Nat) (e : Int) : Nat := 2 * (l.length - k) + (if e = 0 then 1 else 0)
theorem nxV_mes {l : List UInt8} {k : Nat} (hk : k ≤ l.length) : mes l (nxV l k 0).2.1 (nxV l k 0).2.2 < mes l k 0 := by
  unfold nxV
  by_cases h : k = l.length
  · rw [if_pos h]; simp [mes, fe]
  · rw [if_neg h]
    show mes l (k + 1) 0 < mes l k 0
    unfold mes
    omega
theorem fe_mes (l : List UInt8) (k : Nat) (e e' : Int) (h' : e' ≠ 0) : mes l k (fe e e') ≤ mes l k e := by
  unfold mes fe
  by_cases h : e = 0
  · rw [if_pos h, if_neg h', if_pos h]; omega
  · rw [if_neg h]; exact Nat.le_refl _
theorem nxV_mesle {l : List UInt8} {k : Nat} {e : Int} (hk : k ≤ l.length) : mes l (nxV l k e).2.1 (nxV l k e).2.2 ≤ mes l k e := by
  unfold nxV
  by_cases h : k = l.length
  · rw [if_pos h]
    exact fe_mes l k e 8 (by decide)
  · rw [if_neg h]
    show mes l (k + 1) e ≤ mes l k e
    unfold mes
    omega
theorem hxV_mesle {l : List UInt8} {k : Nat} {e : Int} (hk : k ≤ l.length) : mes l (hxV l k e).2.1 (hxV l k e).2.2 ≤ mes l k e := by
  have h := nxV_mesle (e := e) hk
  unfold hxV
  dsimp only
  by_cases h2 : hxi (nxV l k e).1 < 0
  · rw [if_pos h2]
    exact Nat.le_trans (fe_mes l _ _ 8 (by decide)) h
  · rw [if_neg h2]; exact h
theorem chV_mes {l : List UInt8} {k : Nat} (hk : k ≤ l.length) : mes l (chV l k 0).2.1 (chV l k 0).2.2 < mes l k 0 := by
  have h1 := nxV_mes hk
  have k1 := nxV_le (e := 0) hk
  have h2 := nxV_mesle (l := l) (e := (nxV l k 0).2.2) k1
  have k2 := nxV_le (l := l) (e := (nxV l k 0).2.2) k1
  have h3 := hxV_mesle (l := l) (e := (nxV l (nxV l k 0).2.1 (nxV l k 0).2.2).2.2) k2
  have k3 := hxV_le (l := l) (e := (nxV l (nxV l k 0).2.1 (nxV l k 0).2.2).2.2) k2
  have h4 := hxV_mesle (l := l) (e := (hxV l (nxV l (nxV l k 0).2.1 (nxV l k 0).2.2).2.1 (nxV l (nxV l k 0).2.1 (nxV l k 0).2.2).2.2).2.2) k3
  unfold chV
  dsimp only
  split
  · exact h1
  · split
    · omega
    · dsimp only; omega
theorem nxV_ge (l : List UInt8) (k : Nat) (e : Int) : k ≤ (nxV l k e).2.1 := by
  unfold nxV
  by_cases h : k = l.length
  · rw [if_pos h]; exact Nat.le_refl _
  · rw [if_neg h]; exact Nat.le_succ _
theorem hxV_ge (l : List UInt8) (k : Nat) (e : Int) : k ≤ (hxV l k e).2.1 := by
  unfold hxV
  dsimp only
  split <;> exact nxV_ge l k e
theorem chV_ge (l : List UInt8) (k : Nat) (e : Int) : k ≤ (chV l k e).2.1 := by
  unfold chV
  dsimp only
  have h1 := nxV_ge l k e
  have h2 := nxV_ge l (nxV l k e).2.1 (nxV l k e).2.2
  have h3 := hxV_ge l (nxV l (nxV l k e).2.1 (nxV l k e).2.2).2.1 (nxV l (nxV l k e).2.1 (nxV l k e).2.2).2.2
  have h4 := hxV_ge l (hxV l (nxV l (nxV l k e).2.1 (nxV l k e).2.2).2.1 (nxV l (nxV l k e).2.1 (nxV l k e).2.2).2.2).2.1 (hxV l (nxV l (nxV l k e).2.1 (nxV l k e).2.2).2.1 (nxV l (nxV l k e).2.1 (nxV l k e).2.2).2.2).2.2
  split
  · exact h1
  · split
    · omega
    · dsimp only; omega
/-- The bytes of a text, up to its end. -/
def txL (l : List UInt8) : Nat → Nat → Int → List UInt8 → List UInt8 × Nat × Int
  | 0, k, e, acc => (acc, k, e)
  | f + 1, k, e, acc => if e ≠ 0 then (acc, k, e) else if tkV [34] l k = true then (acc, k + 1, e) else txL l f (chV l k e).2.1 (chV l k e).2.2 (acc ++ [(chV l k e).1])
def tqV (l : List UInt8) (k : Nat) (e : Int) : List UInt8 × Nat × Int :=
  let R := txL l (2 * l.length + 3) k e []
  (R.1, R.2.1, if qt R.1 = (l.take R.2.1).drop (k - 1) then R.2.2 else fe R.2.2 8)
theorem txL_le (l : List UInt8) : ∀ (f k : Nat) (e : Int) (acc : List UInt8), k ≤ l.length → (txL l f k e acc).2.1 ≤ l.length := by
  intro f
  induction f with
  | zero => intro k e acc hk; exact hk
  | succ f ih =>
    intro k e acc hk
    rw [txL]
    by_cases h1 : e ≠ 0
    · rw [if_pos h1]; exact hk
    rw [if_neg h1]
    by_cases h2 : tkV [34] l k = true
    · rw [if_pos h2]
      have := tkN_le (p := [34]) hk
      unfold tkN at this
      rw [if_pos h2] at this
      exact this
    · rw [if_neg h2]
      exact ih _ _ _ (chV_le hk)
theorem beq_strV (a c : List UInt8) : ((str a).toList == (str c).toList) = decide (a = c) := by
  rw [ByteArray.toList_eq, ByteArray.toList_eq, show (str a).data = a.toArray from rfl, show (str c).data = c.toArray from rfl, Bool.eq_iff_iff, beq_iff_eq, decide_eq_true_eq]
theorem below_frZ {w w' : World} (h : Below w.heap.size w w') (b : Nat) : Fr w w' b none := ⟨h.os, h.tape, h.output, h.size, fun k hk _ _ => h.block k hk⟩
end Go.Proofs.YtnfobnnbeefeeaaGreatDoor.Wi
