/- An owned slice that grows, in short words: nothing of a program's text. -/
import Derived.Test.YtjjmjbemflhlbaaApp
import Derived.Deep.MidRow
namespace Go.Proofs.Ytjjmjbemflhlbaa
open Go Go.RowKit
set_option linter.unusedVariables false
set_option linter.unusedSimpArgs false
section
variable {P : Program}
theorem own_slK {w : World} {base : Nat} {e : TypeId} {size : Nat} {v : Value} {n : Nat} {xs : List Value} (h : w.ownsRow base e size v n xs) : ∃ ao c, v = .slice ao n c := by
  rcases h.2 with ⟨rfl, rfl⟩ | ⟨g, cap, cur, rfl, _⟩
  · exact ⟨_, _, rfl⟩
  · exact ⟨_, _, rfl⟩
theorem own_keepK {w w' : World} {base : Nat} {e : TypeId} {size n : Nat} {v : Value} {xs : List Value} (h : w.ownsRow base e size v n xs) (hb : ∀ b, v.ownBlock = some b → b < w.heap.size → w'.heap[b]? = w.heap[b]?) : w'.ownsRow base e size v n xs := by
  have hl := h.lt
  refine ⟨h.1, ?_⟩
  rcases h.2 with h0 | ⟨g, cap, cur, rfl, hB, hh, r⟩
  · exact .inl h0
  · exact .inr ⟨g, cap, cur, rfl, hB, (hb g rfl (hl g rfl).2).trans hh, r⟩
theorem own_belowK {w w' : World} {base : Nat} {e : TypeId} {size n : Nat} {v : Value} {xs : List Value} (h : w.ownsRow base e size v n xs) (hb : Below w.heap.size w w') : w'.ownsRow base e size v n xs :=
  own_keepK h fun b _ h => hb.block b h
theorem alloc_keepK (w : World) (o : Obj) (k : Nat) (hk : k < w.heap.size) : (w.alloc o).heap[k]? = w.heap[k]? := Below.heap_alloc w o k hk
/-- What one more leaves, behind the memory that it is handed in. -/
theorem grew_oneK {w w' : World} {o : Obj} {B C : Nat} {e : TypeId} {size n m : Nat} {v v' : Value} {xs ys : List Value} (own : w.ownsRow B e size v n xs) (hBw : B ≤ w.heap.size) (hC : C ≤ B)
    (g : Grew (w.alloc o) w' B e size v v' m ys) : ∃ ao c, v' = .slice ao m c ∧ w'.ownsRow B e size (.slice ao m c) m ys ∧ Below C w w' ∧ ∀ k, k < w.heap.size → some k ≠ v.ownBlock → w'.heap[k]? = w.heap[k]? := by
  obtain ⟨own', gr, hat⟩ := g
  obtain ⟨ao, c, rfl⟩ := own_slK own'
  have hl := own.lt
  have blk : ∀ k, k < w.heap.size → some k ≠ v.ownBlock → w'.heap[k]? = w.heap[k]? := fun k hk hne => (gr.block k (by simp; omega) hne).trans (alloc_keepK w o k hk)
  refine ⟨ao, c, rfl, own', ⟨gr.os, gr.tape, gr.output, ?_, fun k hk => blk k (by omega) (fun e => ?_)⟩, blk⟩
  · have := gr.size; simp at this; omega
  · have := hl k e.symm; omega
theorem grew_zeroK {w w' : World} {B C : Nat} {e : TypeId} {size n m : Nat} {v v' : Value} {xs ys : List Value} (own : w.ownsRow B e size v n xs) (hBw : B ≤ w.heap.size) (hC : C ≤ B)
    (g : Grew w w' B e size v v' m ys) : ∃ ao c, v' = .slice ao m c ∧ w'.ownsRow B e size (.slice ao m c) m ys ∧ Below C w w' ∧ ∀ k, k < w.heap.size → some k ≠ v.ownBlock → w'.heap[k]? = w.heap[k]? := by
  obtain ⟨own', gr, hat⟩ := g
  obtain ⟨ao, c, rfl⟩ := own_slK own'
  have hl := own.lt
  refine ⟨ao, c, rfl, own', ⟨gr.os, gr.tape, gr.output, gr.size, fun k hk => gr.block k (by omega) (fun e => ?_)⟩, fun k hk hne => gr.block k hk hne⟩
  have := hl k e.symm; omega
/-- The source that a list of one element is. -/
theorem src_oneK {tx e : TypeId} {size : Nat} (hk : P.underlying tx = some (.slice e)) (w : World) (cs : List Value) (hl : cs.length = size) (h1 : ∀ u ∈ cs, u.oneCell' = true) : Go.Src P size tx (.slice (some ⟨w.heap.size, 0, none⟩) 1 1) 1 cs (w.alloc (.cells cs.toArray e)) :=
  Src.any _ (e' := e) hk _ 1 1 cs (by omega) (fun h => by cases h) (fun a ha j u hu => by
    cases ha
    rw [Addr.add_mid, Nat.zero_add, cell_of_row _ _ j _ _ _ (heap_alloc_new w _)]
    simpa using hu) h1
/-- The cells of an owned row. -/
theorem own_cellK {w : World} {base : Nat} {e : TypeId} {size n c : Nat} {ao : Option Addr} {xs : List Value} (h : w.ownsRow base e size (.slice ao n c) n xs) {j : Nat} {u : Value} (hj : xs[j]? = some u) : ∃ g, ao = some ⟨g, 0, none⟩ ∧ base ≤ g ∧ g < w.heap.size ∧ w.cell? ⟨g, j, none⟩ = some u := by
  have hl := h.lt
  rcases h.2 with ⟨e1, e0⟩ | ⟨g, cap', cur, e1, hb, hh, _⟩
  · have hx := h.1
    subst e0
    obtain rfl : xs = [] := List.eq_nil_of_length_eq_zero (by omega)
    simp at hj
  · injection e1 with e1 e2 e3
    subst e1
    refine ⟨g, rfl, hb, (hl g rfl).2, ?_⟩
    have := h.cells rfl j u hj
    rwa [Addr.add_mid, Nat.zero_add] at this
theorem lt_of_rowK {w : World} {k : Nat} {o : Obj} (h : w.heap[k]? = some o) : k < w.heap.size := by
  rcases Nat.lt_or_ge k w.heap.size with h1 | h1
  · exact h1
  · rw [Array.getElem?_eq_none h1] at h; cases h
/-- What lies in a block of its own kind, from its beginning on. -/
def Blk (t : TypeId) (w : World) (ao : Option Addr) (vs : List Value) : Prop :=
  vs = [] ∨ ∃ gp cur, ao = some ⟨gp, 0, none⟩ ∧ w.heap[gp]? = some (.cells cur t (0, 0)) ∧ ∀ (j : Nat) v, vs[j]? = some v → cur[j]? = some v
theorem Blk.nil (t : TypeId) (w : World) (ao : Option Addr) : Blk t w ao [] := .inl rfl
theorem Blk.own {w : World} {t : TypeId} {base size n c : Nat} {ao : Option Addr} {xs : List Value} (h : w.ownsRow base t size (.slice ao n c) n xs) : Blk t w ao xs := by
  rcases h.2 with ⟨e1, e0⟩ | ⟨g, cap', cur, e1, hb, hh, h1, h2, h3, h4⟩
  · have hx := h.1
    subst e0
    exact .inl (List.eq_nil_of_length_eq_zero (by omega))
  · injection e1 with e1 e2 e3
    subst e1
    refine .inr ⟨g, cur, rfl, hh, fun j v hj => ?_⟩
    rw [← h4, List.getElem?_take] at hj
    split at hj
    · rw [← Array.getElem?_toList]; exact hj
    · cases hj
theorem Blk.cell {t : TypeId} {w : World} {ao : Option Addr} {vs : List Value} (h : Blk t w ao vs) {j : Nat} {v : Value} (hj : vs[j]? = some v) : ∃ gp, ao = some ⟨gp, 0, none⟩ ∧ gp < w.heap.size ∧ w.cell? ⟨gp, j, none⟩ = some v := by
  rcases h with rfl | ⟨gp, cur, h1, h2, h3⟩
  · simp at hj
  · exact ⟨gp, h1, lt_of_rowK h2, by rw [cell_of_row w gp j _ _ _ h2]; exact h3 j v hj⟩
theorem Blk.at {t : TypeId} {w : World} {gp : Nat} {vs : List Value} (h : Blk t w (some ⟨gp, 0, none⟩) vs) {j : Nat} {v : Value} (hj : vs[j]? = some v) : w.cell? ⟨gp, j, none⟩ = some v := by
  obtain ⟨g, h1, h2, h3⟩ := h.cell hj
  injection h1 with h1
  injection h1 with h1
  rw [h1]
  exact h3
theorem Blk.keep {t : TypeId} {w w' : World} {ao : Option Addr} {vs : List Value} (h : Blk t w ao vs) (hk : ∀ (gp : Nat) (cur : Array Value), w.heap[gp]? = some (Obj.cells cur t (0, 0)) → w'.heap[gp]? = w.heap[gp]?) : Blk t w' ao vs := by
  rcases h with h | ⟨gp, cur, h1, h2, h3⟩
  · exact .inl h
  · exact .inr ⟨gp, cur, h1, (hk gp cur h2).trans h2, h3⟩
theorem Blk.below {t : TypeId} {w w' : World} {ao : Option Addr} {vs : List Value} (h : Blk t w ao vs) (hb : Below w.heap.size w w') : Blk t w' ao vs := h.keep fun gp cur e => hb.block gp (lt_of_rowK e)
theorem own_neK {w : World} {base : Nat} {e t : TypeId} {size n : Nat} {v : Value} {xs : List Value} (h : w.ownsRow base e size v n xs) {k : Nat} {cs : Array Value} {fr : Nat × Nat} (hk : w.heap[k]? = some (.cells cs t fr)) (hte : t ≠ e) : some k ≠ v.ownBlock := by
  rcases h.2 with ⟨rfl, e0⟩ | ⟨g, cap', cur, rfl, hb, hh, h1, h2, h3, h4⟩
  · intro h; cases h
  · intro h
    have h : k = g := by simpa [Value.ownBlock] using h
    subst h
    rw [hk] at hh
    injection hh with hh
    injection hh with _ hh _
    exact hte hh
/-- A source out of such a block. -/
theorem Blk.src {t tx : TypeId} {w : World} {ao : Option Addr} {vs : List Value} {c size n : Nat} (h : Blk t w ao vs) (hk : P.underlying tx = some (.slice t)) (hl : vs.length = n * size) (hs : 0 < size) (h1 : ∀ u ∈ vs, u.oneCell' = true) : Go.Src P size tx (.slice ao n c) n vs w := by
  refine Src.any _ (e' := t) hk ao n c vs hl (fun hno => ?_) (fun a ha j u hu => ?_) h1
  · rcases h with rfl | ⟨gp, cur, e1, _⟩
    · have h0 : n * size = 0 := by simpa using hl.symm
      rcases Nat.mul_eq_zero.1 h0 with h0 | h0
      · exact h0
      · omega
    · rw [e1] at hno; cases hno
  · obtain ⟨gp, e1, e2, e3⟩ := h.cell hu
    rw [ha] at e1
    injection e1 with e1
    rw [e1, Addr.add_mid, Nat.zero_add]
    exact e3
end
end Go.Proofs.Ytjjmjbemflhlbaa
