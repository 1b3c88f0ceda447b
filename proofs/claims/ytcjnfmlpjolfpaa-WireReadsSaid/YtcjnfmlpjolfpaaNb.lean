/- The reference's Number. -/
import Derived.Test.YtcjnfmlpjolfpaaLo
import Derived.Lib.SmallJoins
namespace Go.Proofs.Ytcjnfmlpjolfpaa
open Go Go.RowKit
set_option linter.unusedVariables false

/-- A number's digits, the lowest first. -/
def dv : List Nat → Nat
  | [] => 0
  | d :: D => (dv D * 128 % 18446744073709551616 + d) % 18446744073709551616
theorem dv_lt : ∀ D, dv D < 18446744073709551616
  | [] => by simp [dv]
  | d :: D => Nat.mod_lt _ (by decide)
/-- Whether a digit mayn't stand there, as the reference asks. -/
def badR (l x : Nat) : Bool := (l == 9 && decide (1 < x)) || (decide (0 < l) && x == 0)
def nr : Nat → List UInt8 → List Nat → Nat → Nat × List UInt8 × Int
  | 0, _, _, _ => (0, [], 8)
  | f + 1, [], _, _ => (0, [], 6)
  | f + 1, x :: L, D, most =>
    if badR D.length x.toNat then (0, [], 8)
    else if x.toNat < 128 then (if most < dv (D ++ [x.toNat % 128]) then (0, [], 2) else (dv (D ++ [x.toNat % 128]), L, 0))
    else nr f L (D ++ [x.toNat % 128]) most
/-- The next number of what is left, at most so much. -/
def nrc (c : Int) (f : Nat) (L : List UInt8) (D : List Nat) (most : Nat) : Nat × List UInt8 × Int := if c ≠ 0 then (0, [], c) else nr f L D most
def u64v (D : List Nat) : List Value := D.map fun d => .int .u64 ((d : Nat) : Int)
theorem u64v_length (D : List Nat) : (u64v D).length = D.length := by simp [u64v]
/-- So the loop goes. -/
def NbRel (w : World) (X : Nat × List UInt8 × Int) (most : Nat) (v : Value) (wr : World) : Prop :=
  ∃ (f : Nat) (c : Int) (L : List UInt8) (D : List Nat), D.length + f = 9 ∧ L.length ≤ 1000000 ∧ X = nrc c (f + 1) L D most ∧ (∀ d ∈ D, d < 128) ∧ Below w.heap.size w wr ∧
    w.heap.size + 2 ≤ wr.heap.size ∧ wr.heap[w.heap.size]? = some (.cells #[.string (str L), .int .i64 c] 57 (0, 0)) ∧ wr.heap[w.heap.size + 1]? = some (.cells #[.string ⟨#[]⟩, .int .i64 0] 57 (0, 0)) ∧
    wr.ownsRow (w.heap.size + 2) 27 1 v D.length (u64v D) ∧ ∃ ao cap, v = .slice ao D.length cap
def lenOf (v : Value) : Nat := match v with | .slice _ n _ => n | _ => 0
theorem tk_one (L : List UInt8) (c : Int) : tk L c 1 = if c ≠ 0 then ([], [], c) else match L with | [] => ([], [], 6) | x :: L => ([x], L, 0) := by
  unfold tk
  split
  · rfl
  · match L with
    | [] => rfl
    | x :: L => simp
theorem nb_stop {c y3 : Int} {f : Nat} {L y1 y2 : List UInt8} {D : List Nat} {most : Nat} (h : (y1, y2, y3) = if c ≠ 0 then ([], [], c) else match L with | [] => ([], [], 6) | x :: L => ([x], L, 0)) (hy : y3 ≠ 0) : y2 = [] ∧ nrc c (f + 1) L D most = (0, [], y3) := by
  unfold nrc
  split at h
  · cases h
    rw [if_pos (by assumption)]
    exact ⟨rfl, rfl⟩
  · rw [if_neg (by assumption)]
    match L, h with
    | [], h => cases h; exact ⟨rfl, rfl⟩
    | x :: L, h => cases h; exact absurd rfl hy
theorem nb_goes {c : Int} {L y1 y2 : List UInt8} (h : (y1, y2, (0 : Int)) = if c ≠ 0 then ([], [], c) else match L with | [] => ([], [], 6) | x :: L => ([x], L, 0)) : c = 0 ∧ ∃ x, L = x :: y2 ∧ y1 = [x] := by
  split at h
  · rename_i hc
    cases h
    exact absurd rfl hc
  · rename_i hc
    refine ⟨by simpa using hc, ?_⟩
    match L, h with
    | [], h => cases h
    | x :: L, h => cases h; exact ⟨x, rfl, rfl⟩
end Go.Proofs.Ytcjnfmlpjolfpaa
