/- The parser's value. -/
import Derived.Test.YtnfobnnbeefeeaaGreatDoorG9
import Derived.Test.YtnfobnnbeefeeaaGreatDoorG6
import Derived.Test.YtnfobnnbeefeeaaGreatDoorG2
namespace Go.Proofs.YtnfobnnbeefeeaaGreatDoor.Wi
open Go Go.RowKit
set_option linter.unusedVariables false
set_option linter.unusedSimpArgs false
theorem zV_nzV : (VT.mk 0 0 [] none 0 []).nz = VT.mk 0 0 [] none 0 [] := by rw [VT.nz]; rfl
theorem txL_len (l : List UInt8) : ∀ (f k : Nat) (e : Int) (acc : List UInt8), (txL l f k e acc).1.length ≤ acc.length + f := by
  intro f
  induction f with
  | zero => intro k e acc; exact Nat.le_refl _
  | succ f ih =>
    intro k e acc
    rw [txL]
    by_cases h1 : e ≠ 0
    · rw [if_pos h1]; exact Nat.le_add_right _ _
    rw [if_neg h1]
    by_cases h2 : tkV [34] l k = true
    · rw [if_pos h2]; exact Nat.le_add_right _ _
    · rw [if_neg h2]
      have h := ih (chV l k e).2.1 (chV l k e).2.2 (acc ++ [(chV l k e).1])
      rw [List.length_append, List.length_cons, List.length_nil] at h
      omega
theorem tqV_len (l : List UInt8) (k : Nat) (e : Int) : (tqV l k e).1.length ≤ 2 * l.length + 3 := by
  have h := txL_len l (2 * l.length + 3) k e []
  rw [List.length_nil, Nat.zero_add] at h
  exact h
theorem nuV_fits (l : List UInt8) (k : Nat) (e : Int) : -9223372036854775808 ≤ (nuV l k e).1 ∧ (nuV l k e).1 ≤ 9223372036854775807 := by
  unfold nuV
  dsimp only
  unfold nuQ
  split
  · rename_i v h
    exact pib_fits h
  · show -9223372036854775808 ≤ (0 : Int) ∧ (0 : Int) ≤ 9223372036854775807
    exact ⟨by decide, by decide⟩
  · show _ ≤ Lib.intSat 64 _ ∧ Lib.intSat 64 _ ≤ _
    unfold Lib.intSat
    split
    · exact ⟨by decide, by decide⟩
    · exact ⟨by decide, by decide⟩
end Go.Proofs.YtnfobnnbeefeeaaGreatDoor.Wi
/- Parse. -/
namespace Go.Proofs.YtnfobnnbeefeeaaGreatDoor.Wi
open Go Go.RowKit
set_option linter.unusedVariables false
set_option linter.unusedSimpArgs false
/-- What Parse answers: the value, the error. -/
def prV (l : List UInt8) : VT × Int :=
  let X := paV l 9 0 0 0
  let e1 := if X.2.1 < l.length then fe X.2.2 8 else X.2.2
  let e2 := if e1 = 0 then X.1.vE else e1
  (if e2 = 0 then X.1 else zV, e2)
theorem slot_store {P : Program} {o : Oper} {a : Act} {w : World} {K : Act → World → Prop} {Q : Exit → Act → World → Prop} (ty : TypeId) (x y : Operand) (ho : o.op = .store ty x y)
    (g : Nat) (t : TypeId) (old cells : Array Value) (hx : a.eval x = .pointer (some ⟨g, 0, none⟩)) (hy : a.eval y = .agg cells) (hg : w.heap[g]? = some (.cells old t (0, 0)))
    (hi : (P.info? ty).map (·.size) = some cells.size) (hs : old.size = cells.size) (h1 : cells.all (·.oneCell') = true)
    (h : K (a.put o.dst undef) (w.setRow g cells)) : o.wp P a w K Q := by
  unfold Oper.wp execOp
  simp only [ho, hx, hy, Instr.storeAt, Instr.sureAddr, Sem.run_bind, Sem.run_pure, Result.andThen_ok, run_storeVar_row w g t ty old cells hg hi hs h1]
  exact h
theorem runPe {P : Program} {o : Oper} {a : Act} {w : World} {r : Result Next} (ev : Operand → Value) (h1 : (execOp a.eval o).run P w = (execOp ev o).run P w) (h2 : (execOp ev o).run P w = r) : (execOp a.eval o).run P w = r := h1.trans h2
def PeF (b : Nat) (e2 : Int) (j : Nat) (v : Value) : Prop := match j with
  | 0 => v = .agg #[.int .i64 0, .int .i64 0, .string ⟨#[]⟩, .slice none 0 0]
  | 1 => v = .pointer (some ⟨b, 2, none⟩)
  | 2 => v = .int .i64 e2
  | 4 => v = .int .i64 e2
  | _ => True
end Go.Proofs.YtnfobnnbeefeeaaGreatDoor.Wi
/- Parts. -/
namespace Go.Proofs.YtnfobnnbeefeeaaGreatDoor.Wi
open Go Go.RowKit
set_option linter.unusedVariables false
set_option linter.unusedSimpArgs false
mutual
/-- How many values a value is. -/
def VT.pts : VT → Nat
  | .mk k n s ao c l => if k = 3 then 1 + ptsL l else 1
def ptsL : List VT → Nat
  | [] => 0
  | x :: l => x.pts + ptsL l
end
theorem ptsL_app : ∀ (l m : List VT), ptsL (l ++ m) = ptsL l + ptsL m
  | [], m => by rw [List.nil_append, ptsL, Nat.zero_add]
  | x :: l, m => by rw [List.cons_append, ptsL, ptsL, ptsL_app l m]; omega
theorem ptsL_take {l : List VT} {j : Nat} {x : VT} (h : l[j]? = some x) : ptsL (l.take (j + 1)) = ptsL (l.take j) + x.pts := by
  have e : l.take (j + 1) = l.take j ++ [x] := by rw [List.take_add_one, h]; rfl
  rw [e, ptsL_app, ptsL, ptsL]
  omega
theorem ptsL_le (l : List VT) (j : Nat) : ptsL (l.take j) ≤ ptsL l := by
  have h := ptsL_app (l.take j) (l.drop j)
  rw [List.take_append_drop] at h
  omega
def ptRel (w : World) (l : List VT) (i s : Value) (wr : World) : Prop := ∃ j : Nat, i = .int .i64 (j : Int) ∧ j ≤ l.length ∧ s = .int .i64 ((1 + ptsL (l.take j) : Nat) : Int) ∧ Below w.heap.size w wr
end Go.Proofs.YtnfobnnbeefeeaaGreatDoor.Wi
