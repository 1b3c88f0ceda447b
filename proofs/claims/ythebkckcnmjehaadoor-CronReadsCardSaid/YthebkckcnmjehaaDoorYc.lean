/- The reference's Parse. -/
import Derived.Test.YthebkckcnmjehaaDoorYb
import Derived.Test.YthebkckcnmjehaaDoorYd
namespace Go.Proofs.YthebkckcnmjehaaDoor
open Go Go.RowKit
set_option linter.unusedVariables false
set_option linter.unusedSimpArgs false
/-- A field as it lies in memory: where its numbers are, and how much room is there. -/
abbrev RF := Option Addr × Nat × List Nat × Bool
def fcs (E : List RF) : List Value := (E.map fun x => [Value.slice x.1 x.2.2.1.length x.2.1, .bool x.2.2.2]).flatten
def fdD (E : List RF) : List (List Nat × Bool) := E.map fun x => x.2.2
theorem fcs_length : ∀ E : List RF, (fcs E).length = E.length * 2
  | [] => rfl
  | x :: E => by
    have := fcs_length E
    simp only [fcs, List.map_cons, List.flatten_cons, List.length_append, List.length_cons, List.length_nil] at this ⊢
    omega
theorem fcs_app (E F : List RF) : fcs (E ++ F) = fcs E ++ fcs F := by simp [fcs]
theorem fcs_at : ∀ (E : List RF) (j : Nat), j < E.length → ∃ x, E[j]? = some x ∧ (fcs E)[j * 2]? = some (.slice x.1 x.2.2.1.length x.2.1) ∧ (fcs E)[j * 2 + 1]? = some (.bool x.2.2.2)
  | [], j, h => absurd h (Nat.not_lt_zero j)
  | x :: E, 0, h => ⟨x, rfl, rfl, rfl⟩
  | x :: E, j + 1, h => by
    obtain ⟨y, h1, h2, h3⟩ := fcs_at E j (by simpa using h)
    refine ⟨y, by simpa using h1, ?_, ?_⟩
    · rw [show (j + 1) * 2 = j * 2 + 1 + 1 by omega]; exact h2
    · rw [show (j + 1) * 2 + 1 = j * 2 + 1 + 1 + 1 by omega]; exact h3
theorem fcs_one (E : List RF) : ∀ u ∈ fcs E, u.oneCell' = true := by
  intro u hu
  simp only [fcs, List.mem_flatten, List.mem_map] at hu
  obtain ⟨l, ⟨x, _, rfl⟩, hu⟩ := hu
  simp at hu
  rcases hu with rfl | rfl <;> rfl
theorem ap_len {t s : Nat} : ∀ (n : Nat), (ap t s n).length ≤ t + 1 - n := by
  intro n
  induction h : t + 1 - n using Nat.strongRecOn generalizing n with
  | _ d ih =>
    by_cases hc : n ≤ t ∧ 0 < s
    · rw [ap_go hc.1 hc.2]
      have := ih (t + 1 - (n + s)) (by omega) (n + s) rfl
      simp only [List.length_cons]
      omega
    · rw [ap, dif_neg hc]
      exact Nat.zero_le _
theorem ppR_len (l : List UInt8) (lo hi : Nat) (hhi : hi ≤ 63) : (ppR l lo hi).2.length ≤ 64 := by
  unfold ppR
  split
  · exact Nat.zero_le _
  · split
    · exact Nat.zero_le _
    · split
      · exact Nat.zero_le _
      · rename_i p _ h
        have := ap_len (t := p.2) (s := if (cutL 47 l).2.2 = true then psV (cutL 47 l).2.1 else 1) p.1
        dsimp only
        omega
theorem reach_lohi {k : Nat} (hk : k < 5) : reachL.getD k (0, 0) = (loK k, hiK k) := by
  obtain rfl | rfl | rfl | rfl | rfl : k = 0 ∨ k = 1 ∨ k = 2 ∨ k = 3 ∨ k = 4 := by omega
  all_goals rfl
theorem hiK_le {k : Nat} (hk : k < 5) : hiK k ≤ 63 := by
  obtain rfl | rfl | rfl | rfl | rfl : k = 0 ∨ k = 1 ∨ k = 2 ∨ k = 3 ∨ k = 4 := by omega
  all_goals decide
def RpPost (w : World) (R : Int × List (List Nat × Bool)) (e : Ending) (w' : World) : Prop :=
  Below w.heap.size w w' ∧ if R.1 = 0 then ∃ gF cp, e = .returned (.tuple #[.slice (some ⟨gF, 0, none⟩) 5 cp, .int .i64 0]) ∧ FldAt w' gF R.2 else e = .returned (.tuple #[.slice none 0 0, .int .i64 R.1])
theorem RpPost.bad {w w' : World} {R : Int × List (List Nat × Bool)} {n : Int} (hR : R.1 = n) (h0 : n ≠ 0) (hb : Below w.heap.size w w') : RpPost w R (.returned (.tuple #[.slice none 0 0, .int .i64 n])) w' := by
  refine ⟨hb, ?_⟩
  rw [if_neg (by rw [hR]; exact h0), hR]
theorem Tryd.infoRF : (Tryd.prog.info? 67).map (fun i => (i.zero, i.size, i.bytes)) = some (some (.agg #[.slice none 0 0, .bool false]), 2, 32) := by kernel_rfl
def rpRows (wr : World) (E : List RF) : Prop := ∀ x ∈ E, x.2.2.1.length ≤ 1000000 ∧ Blk 3 wr x.1 (numVs x.2.2.1)
def rpRel (w : World) (gS : Nat) (P : List (List UInt8)) (out i : Value) (wr : World) : Prop :=
  ∃ (k : Nat) (E : List RF) (F : List (Nat × Bool)), i = .int .i64 (k : Int) ∧ E.length = k ∧ PsSt P k (fdD E) F ∧ wr.ownsRow w.heap.size 67 2 out k (fcs E) ∧ rpRows wr E ∧ Blk 9 wr (some ⟨gS, 0, none⟩) (strVs P) ∧ Below w.heap.size w wr
structure rpW (wJ : World) (fB BJ : Nat) (wr : World) : Prop where
  os : wr.os = wJ.os
  tape : wr.tape = wJ.tape
  output : wr.output = wJ.output
  size : BJ ≤ wr.heap.size
  block : ∀ k, k < BJ → k ≠ fB → wr.heap[k]? = wJ.heap[k]?
theorem rpW.below {wJ wr : World} {fB BJ B : Nat} (h : rpW wJ fB BJ wr) (h1 : B ≤ fB) (h2 : B ≤ BJ) (h3 : BJ = wJ.heap.size) : Below B wJ wr :=
  ⟨h.os, h.tape, h.output, by rw [← h3]; exact h.size, fun k hk => h.block k (by omega) (by omega)⟩
theorem frozen_of_rowK (w : World) (k i : Nat) (cs : Array Value) (t : TypeId) (h : w.heap[k]? = some (.cells cs t (0, 0))) : w.frozen? ⟨k, i, none⟩ = false := frozen_of_row w k i cs t h
def rpIn (wJ : World) (fB BJ lo hi : Nat) (Q : List (List UInt8)) (st : Bool) (i : Value) (wr : World) : Prop :=
  ∃ (j : Nat) (L : List Nat) (ao : Option Addr) (c : Nat), i = .int .i64 (j : Int) ∧ PfSt Q lo hi j L ∧ L.length ≤ 64 * j ∧ wr.heap[fB]? = some (.cells #[.slice ao L.length c, .bool st] 67 (0, 0)) ∧ wr.ownsRow BJ 3 1 (.slice ao L.length c) L.length (numVs L) ∧ rpW wJ fB BJ wr
theorem strVs_get {P : List (List UInt8)} {k : Nat} (hk : k < P.length) : (strVs P)[k]? = some (.string (str (P.getD k []))) := by simp [strVs, List.getD, hk]
theorem getD_mem {P : List (List UInt8)} {k : Nat} (hk : k < P.length) : P.getD k [] ∈ P := by
  simp [List.getD, hk]
theorem numVs_one (L : List Nat) : ∀ u ∈ numVs L, u.oneCell' = true := by
  intro u hu
  simp only [numVs, List.mem_map] at hu
  obtain ⟨x, _, rfl⟩ := hu
  rfl
theorem fldAt_of {w : World} {gF cap B : Nat} {E : List RF} (hE : E.length = 5) (own : w.ownsRow B 67 2 (.slice (some ⟨gF, 0, none⟩) 5 cap) 5 (fcs E)) (hr : rpRows w E) : FldAt w gF (fdD E) := by
  intro k hk
  obtain ⟨x, h1, h2, h3⟩ := fcs_at E k (by omega)
  have hx : (fdD E).getD k ([], false) = x.2.2 := by simp [fdD, List.getD, h1]
  have hm : x ∈ E := List.mem_of_getElem? h1
  obtain ⟨g2, q1, _, _, q2⟩ := own_cellK own h2
  obtain ⟨g3, q3, _, _, q4⟩ := own_cellK own h3
  injection q1 with q1
  injection q1 with q1
  injection q3 with q3
  injection q3 with q3
  subst q1
  subst q3
  rw [hx]
  refine ⟨(hr x hm).1, x.1, x.2.1, fun j hj => ?_, q2, q4⟩
  obtain ⟨gp, a1, a2, a3⟩ := (hr x hm).2.cell (j := j) (v := .int .i64 (x.2.2.1.getD j 0 : Nat)) (by simp [numVs, List.getD, hj])
  exact ⟨gp, a1, a2, a3⟩
end Go.Proofs.YthebkckcnmjehaaDoor
