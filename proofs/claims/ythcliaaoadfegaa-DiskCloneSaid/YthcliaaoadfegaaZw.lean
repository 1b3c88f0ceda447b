/- The bytes of a string in a row of their own; a row of strings of which one is turned. -/
import Derived.Test.YthcliaaoadfegaaZx
import Derived.Lib.ConvBytes
namespace Go.Proofs.Ythcliaaoadfegaa.Dk
open Go Go.RowKit
set_option linter.unusedVariables false
set_option linter.unusedSimpArgs false
/-- Bytes in a row. -/
def BRow (w : World) (g : Nat) (l : List UInt8) : Prop := ∃ C fr, w.heap[g]? = some (.cells C 5 fr) ∧ l.length ≤ fr.1 ∧ ∀ j, j < l.length → C[j]? = some (.int .u8 ((l.getD j 0).toNat : Int))
variable {w w' : World} {g : Nat} {l : List UInt8}
theorem BRow.lt (h : BRow w g l) : g < w.heap.size := by obtain ⟨C, fr, h, _⟩ := h; exact lt_of_row h
theorem BRow.frame {T : Nat → Prop} (h : BRow w g l) (f : Frm T w w') (hg : ¬ T g) : BRow w' g l := by
  have hlt := h.lt
  obtain ⟨C, fr, h1, h2, h3⟩ := h
  exact ⟨C, fr, (f.block g hlt hg).trans h1, h2, h3⟩
theorem BRow.cell (h : BRow w g l) {j : Nat} (hj : j < l.length) : w.cell? ⟨g, j, none⟩ = some (.int .u8 ((l.getD j 0).toNat : Int)) := by
  obtain ⟨C, fr, h1, h2, h3⟩ := h
  rw [cell_of_row w g j _ _ _ h1]
  exact h3 j hj
theorem BRow.free (h : BRow w g l) {j : Nat} (hj : j < l.length) : w.frozen? ⟨g, j, none⟩ = false := by
  obtain ⟨C, ⟨lo, hi⟩, h1, h2, h3⟩ := h
  simp only [World.frozen?, h1]
  have h4 : l.length ≤ lo := h2
  simp
  intro h5
  omega
theorem BRow.set (h : BRow w g l) {q : Nat} (hq : q < l.length) (b : UInt8) : BRow (w.setCell ⟨g, q, none⟩ (.int .u8 ((b.toNat : Nat) : Int))) g (l.set q b) := by
  obtain ⟨C, fr, h1, h2, h3⟩ := h
  refine ⟨_, fr, Go.Joins.block_setCell (i := q) h1 _, by simpa using h2, fun j hj => ?_⟩
  rw [List.length_set] at hj
  have hc := h3 j hj
  have hlt : q < C.size := by
    have := h3 q hq
    exact (Array.getElem?_eq_some_iff.1 this).1
  by_cases e : q = j
  · subst e
    rw [Array.getElem?_setIfInBounds, if_pos rfl, if_pos hlt]
    simp [List.getD, hq]
  · rw [Array.getElem?_setIfInBounds, if_neg e, hc]
    simp only [List.getD_eq_getElem?_getD]
    rw [List.getElem?_set_ne e]
theorem BRow.sl (h : BRow w g l) (c : Nat) : Sl w (.slice (some ⟨g, 0, none⟩) l.length c) l := by
  refine ⟨_, c, rfl, (fun e => by cases e), fun a ha j u hu => ?_⟩
  cases ha
  have hj : j < l.length := by have := (List.getElem?_eq_some_iff.1 hu).1; simpa [bvs] using this
  rw [Addr.add_mid, Nat.zero_add, h.cell hj, ← hu]
  simp [bvs, bv, List.getD, hj]
theorem bytes_row (w : World) (l : List UInt8) : BRow (Lib.bytesWorld w 5 (str l)) w.heap.size l := by
  refine ⟨_, _, Lib.bytesWorld_at_new w 5 (str l), ?_, fun j hj => ?_⟩
  · have : (str l).size = l.length := r5s_size l
    simp [Lib.bytesCells, str]
  · have h := Lib.bytesWorld_cell w 5 (str l) j (by rw [r5s_size]; exact hj)
    rw [cell_of_row _ _ j _ _ _ (Lib.bytesWorld_at_new w 5 (str l))] at h
    rw [h]
    simp [str]
theorem bytes_below (w : World) (s : ByteArray) : Below w.heap.size w (Lib.bytesWorld w 5 s) := by
  refine ⟨?_, ?_, ?_, ?_, fun k hk => Lib.bytesWorld_at_old w 5 s k hk⟩
  · unfold Lib.bytesWorld World.freeze; split <;> rfl
  · unfold Lib.bytesWorld World.freeze; split <;> rfl
  · unfold Lib.bytesWorld World.freeze; split <;> rfl
  · rw [Lib.bytesWorld_size]; omega
theorem StrA.src {T : Nat → Prop} {so : Option Addr} {sc : Nat} {s : List (List UInt8)} (h : StrA T w so s) : Go.Src Try.prog 1 29 (.slice so s.length sc) s.length (s.map fun b => .string (str b)) w := by
  refine Src.any _ (e' := 9) Try.underlying29 so s.length sc _ (by simp) (fun e => by rw [h.1 e]; rfl) (fun a ha j u hu => ?_) (fun u hu => ?_)
  · obtain ⟨k, rfl, _, _, hc⟩ := h.2 a ha
    have hj : j < s.length := by have := (List.getElem?_eq_some_iff.1 hu).1; simpa using this
    rw [Addr.add_mid, Nat.zero_add, hc j hj, ← hu]
    simp [List.getD, hj]
  · obtain ⟨b, _, rfl⟩ := List.mem_map.1 hu
    rfl
theorem own_some {w : World} {base size n : Nat} {e : TypeId} {v : Value} {xs : List Value} (h : w.ownsRow base e size v n xs) (hn : 0 < n) : ∃ g c, v = .slice (some ⟨g, 0, none⟩) n c := by
  rcases h.2 with ⟨_, h0⟩ | ⟨g, cap, cur, rfl, _⟩
  · omega
  · exact ⟨g, cap, rfl⟩
/-- One string of a row is turned. -/
theorem own_set {w : World} {gs c k : Nat} {s : List (List UInt8)} {B : Nat} (h : w.ownsRow B 9 1 (.slice (some ⟨gs, 0, none⟩) s.length c) s.length (s.map fun b => .string (str b))) (hk : k < s.length) (l : List UInt8) {T : Nat → Prop} (hT : ∀ k, T k → k < B) :
    StrA T (w.setCell ⟨gs, k, none⟩ (.string (str l))) (some ⟨gs, 0, none⟩) (s.set k l) ∧ w.cell? ⟨gs, k, none⟩ = some (.string (str (s.getD k []))) ∧ w.frozen? ⟨gs, k, none⟩ = false ∧ B ≤ gs ∧ gs < w.heap.size := by
  rcases h.2 with ⟨h', _⟩ | ⟨g', cap', cur, h', hb, hh, h1, h2, h3, h4⟩
  · cases h'
  · injection h' with e1 e2 e3
    injection e1 with e1
    injection e1 with e1
    subst e1
    have key : ∀ i, i < s.length → cur[i]? = some (.string (str (s.getD i []))) := fun i hi => by
      have h5 : (cur.toList.take (s.length * 1))[i]? = (s.map fun b => Value.string (str b))[i]? := by rw [h4]
      rw [List.getElem?_take, if_pos (by omega)] at h5
      rw [← Array.getElem?_toList, h5]
      simp [List.getD, hi]
    have hlt : k < cur.size := (Array.getElem?_eq_some_iff.1 (key k hk)).1
    refine ⟨⟨(fun e => by cases e), fun a e => ?_⟩, ?_, frozen_of_row w gs k _ _ hh, hb, lt_of_row hh⟩
    · cases e
      refine ⟨gs, rfl, by simpa [World.setCell] using lt_of_row hh, fun e => by have := hT gs e; omega, fun j hj => ?_⟩
      rw [List.length_set] at hj
      rw [cell_of_row _ gs j _ _ _ (Go.Joins.block_setCell (i := k) hh _)]
      by_cases e : k = j
      · subst e
        rw [Array.getElem?_setIfInBounds, if_pos rfl, if_pos hlt]
        simp [List.getD, hk]
      · rw [Array.getElem?_setIfInBounds, if_neg e, key j hj]
        simp only [List.getD_eq_getElem?_getD]
        rw [List.getElem?_set_ne e]
    · rw [cell_of_row w gs k _ _ _ hh]
      exact key k hk
end Go.Proofs.Ythcliaaoadfegaa.Dk
