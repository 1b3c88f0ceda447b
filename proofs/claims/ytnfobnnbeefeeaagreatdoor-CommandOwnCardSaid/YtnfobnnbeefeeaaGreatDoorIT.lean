/- The walk of EventOwn. -/
import Derived.Test.YtnfobnnbeefeeaaGreatDoorGV
import Derived.Test.YtnfobnnbeefeeaaGreatDoorGQ
import Derived.Test.YtnfobnnbeefeeaaGreatDoorG2
namespace Go.Proofs.YtnfobnnbeefeeaaGreatDoor.Wi
open Go Go.RowKit
set_option linter.unusedVariables false
set_option linter.unusedSimpArgs false
theorem setCells_block (b : Nat) : ∀ (vs : List Value) (o : Nat) (w : World) (cur : Array Value) (t : TypeId) (fr : Nat × Nat), w.heap[b]? = some (.cells cur t fr) → ∃ cur', (w.setCells b o vs).heap[b]? = some (.cells cur' t fr) ∧ cur'.size = cur.size
  | [], _, w, cur, t, fr, h => ⟨cur, h, rfl⟩
  | v :: vs, o, w, cur, t, fr, h => by
    rw [World.setCells]
    obtain ⟨c2, h2, e2⟩ := setCells_block b vs (o + 1) (w.setCell ⟨b, o, none⟩ v) _ t fr (Go.Joins.block_setCell (i := o) h v)
    exact ⟨c2, h2, by rw [e2]; simp⟩
theorem setCells_other (b k : Nat) (hk : k ≠ b) : ∀ (vs : List Value) (o : Nat) (w : World), (w.setCells b o vs).heap[k]? = w.heap[k]?
  | [], _, w => rfl
  | v :: vs, o, w => by rw [World.setCells, setCells_other b k hk vs]; exact Below.heap_setCell w ⟨b, o, none⟩ v k hk
theorem below_setCells {B : Nat} {w0 : World} (b : Nat) (hb : B ≤ b) : ∀ (vs : List Value) (o : Nat) (w : World), Below B w0 w → Below B w0 (w.setCells b o vs)
  | [], _, w, h => h
  | v :: vs, o, w, h => by rw [World.setCells]; exact below_setCells b hb vs (o + 1) _ (h.setCell (p := ⟨b, o, none⟩) hb v)
/-- A row of values of which one is written anew is a row still. -/
theorem own_setCells {B g n c : Nat} {w : World} {cs : List Value} (h : w.ownsRow B 26 4 (.slice (some ⟨g, 0, none⟩) n c) n cs) (o : Nat) (vs : List Value) : ∃ cs', (w.setCells g o vs).ownsRow B 26 4 (.slice (some ⟨g, 0, none⟩) n c) n cs' := by
  rcases h.2 with ⟨e1, _⟩ | ⟨g', cap, cur, e1, hB, hr, hc, hm, hs, _⟩
  · cases e1
  · injection e1 with e1 e2 e3
    injection e1 with e1
    injection e1 with e1 _ _
    subst e1 e3
    obtain ⟨cur', h1, h2⟩ := setCells_block g vs o w cur _ _ hr
    refine ⟨cur'.toList.take (n * 4), ?_, Or.inr ⟨g, c, cur', rfl, hB, h1, hc, hm, by rw [h2, hs], rfl⟩⟩
    rw [List.length_take, Array.length_toList, h2, hs, Nat.min_eq_left]
    exact Nat.mul_le_mul_right 4 hc
theorem own_there {B g n c : Nat} {w : World} {cs : List Value} (h : w.ownsRow B 26 4 (.slice (some ⟨g, 0, none⟩) n c) n cs) {j : Nat} (hj : j < n) : w.there g (j * 4) 4 := by
  intro i hi
  have hl := h.1
  rcases h.2 with ⟨e1, _⟩ | ⟨g', cap, cur, e1, hB, hr, hc, hm, hs, _⟩
  · cases e1
  · injection e1 with e1 e2 e3
    injection e1 with e1
    injection e1 with e1 _ _
    subst e1 e3
    refine ⟨?_, ?_⟩
    · rw [cell_of_rowW _ g (j * 4 + i) _ _ _ hr]
      have : j * 4 + i < cur.size := by rw [hs]; omega
      simp [this]
    · simp [World.frozen?, hr]
def EoAns (w : World) (e : Ending) (w' : World) : Prop :=
  ∃ g c va n vc cs, e = .returned (.slice (some ⟨g, 0, none⟩) 1 c) ∧ 1 ≤ c ∧ Below w.heap.size w w' ∧ w.heap.size ≤ g ∧ g < w'.heap.size ∧ w'.cell? ⟨g, 10, none⟩ = some (.slice va n vc) ∧ n ≤ 140737488355328 ∧ (n ≠ 0 → w'.ownsRow w.heap.size 26 4 (.slice va n vc) n cs ∧ some g ≠ (Value.slice va n vc).ownBlock)
structure EoLoop (w6 : World) (g : Nat) (va : Option Addr) (n vc : Nat) (wr : World) : Prop where
  low : Below w6.heap.size w6 wr
  size : g < wr.heap.size
  cell : wr.cell? ⟨g, 10, none⟩ = some (.slice va n vc)
  own : n ≠ 0 → (∃ cs, wr.ownsRow w6.heap.size 26 4 (.slice va n vc) n cs) ∧ some g ≠ (Value.slice va n vc).ownBlock
def eoRel (w6 : World) (g : Nat) (va : Option Addr) (n vc : Nat) (i : Value) (wr : World) : Prop := ∃ j : Nat, i = .int .i64 (j : Int) ∧ j ≤ n ∧ EoLoop w6 g va n vc wr
def stE : List (Nat × Nat) := [(8, 7), (8, 6), (7, 4), (7, 5), (4, 3), (3, 2), (2, 1), (1, 0)]
theorem stE_upd {L : Nat → Bool} (h : ∀ p ∈ stE, L p.1 = true → L p.2 = true) {k : Nat} (hk : ∀ p ∈ stE, p.1 = k → L p.2 = true) : ∀ p ∈ stE, upd L k true p.1 = true → upd L k true p.2 = true := by
  intro p hp h1
  by_cases h2 : p.2 = k
  · rw [h2, upd_self]
  · rw [upd_ne _ _ h2]
    by_cases h3 : p.1 = k
    · exact hk p hp h3
    · rw [upd_ne _ _ h3] at h1
      exact h p hp h1
theorem stE_last {L : Nat → Bool} (h : ∀ p ∈ stE, L p.1 = true → L p.2 = true) {i : Nat} (hi : L i = false) (hc : i < 8) : L 8 = false := by
  cases h8 : L 8 with
  | false => rfl
  | true =>
    have a7 := h (8, 7) (by simp [stE]) h8
    have a6 := h (8, 6) (by simp [stE]) h8
    have a4 := h (7, 4) (by simp [stE]) a7
    have a5 := h (7, 5) (by simp [stE]) a7
    have a3 := h (4, 3) (by simp [stE]) a4
    have a2 := h (3, 2) (by simp [stE]) a3
    have a1 := h (2, 1) (by simp [stE]) a2
    have a0 := h (1, 0) (by simp [stE]) a1
    dsimp only at a7 a6 a5 a4 a3 a2 a1 a0
    have hc2 : i = 0 ∨ i = 1 ∨ i = 2 ∨ i = 3 ∨ i = 4 ∨ i = 5 ∨ i = 6 ∨ i = 7 := by omega
    rcases hc2 with rfl | rfl | rfl | rfl | rfl | rfl | rfl | rfl <;> simp_all
def ZN : VT := ofV 9
theorem ZN_any (w : World) : Calls Tryz.prog 42 #[.int .i64 9] w (AnsV ZN w) := vof_any 9 w
end Go.Proofs.YtnfobnnbeefeeaaGreatDoor.Wi
