/- What calls leave that turn some blocks alone. -/
import Derived.Test.YtjjmjbemflhlbaaDm
import Derived.Laws.Rows
import Derived.Deep.MidRow
import Derived.WalkLawsBesides
import Derived.WalkSpells
import Derived.Handy
import Derived.Outline
namespace Go.Proofs.Ytjjmjbemflhlbaa.Dk
open Go Go.RowKit
set_option linter.unusedVariables false
set_option linter.unusedSimpArgs false

/-- From w to w' no block is turned but those of which T is true, and new ones. -/
structure Frm (T : Nat → Prop) (w w' : World) : Prop where
  os : w'.os = w.os
  tape : w'.tape = w.tape
  output : w'.output = w.output
  size : w.heap.size ≤ w'.heap.size
  block : ∀ k, k < w.heap.size → ¬ T k → w'.heap[k]? = w.heap[k]?
variable {T T' : Nat → Prop} {a w w' : World}
theorem Frm.refl (T : Nat → Prop) (w : World) : Frm T w w := ⟨rfl, rfl, rfl, Nat.le_refl _, fun _ _ _ => rfl⟩
theorem Frm.transT (h : Frm T a w) (k : Frm T' w w') (hT : ∀ i, i < a.heap.size → T' i → T i) : Frm T a w' :=
  ⟨k.os.trans h.os, k.tape.trans h.tape, k.output.trans h.output, Nat.le_trans h.size k.size, fun i hi hn => (k.block i (Nat.lt_of_lt_of_le hi h.size) (fun ht => hn (hT i hi ht))).trans (h.block i hi hn)⟩
theorem Frm.trans (h : Frm T a w) (k : Frm T w w') : Frm T a w' := h.transT k (fun _ _ h => h)
theorem Frm.mono (h : Frm T a w) (hT : ∀ i, i < a.heap.size → T i → T' i) : Frm T' a w := ⟨h.os, h.tape, h.output, h.size, fun i hi hn => h.block i hi (fun ht => hn (hT i hi ht))⟩
theorem Frm.drew (h : Frm T a w) : Frm T a w.drew := ⟨h.os, h.tape, h.output, h.size, h.block⟩
theorem Frm.drewN (h : Frm T a w) (n : Nat) : Frm T a (w.drewN n) := ⟨h.os, h.tape, h.output, h.size, h.block⟩
theorem Frm.alloc (h : Frm T a w) (o : Obj) : Frm T a (w.alloc o) :=
  ⟨h.os, h.tape, h.output, by simpa using Nat.le_succ_of_le h.size, fun k hk hn => (Below.heap_alloc w o k (Nat.lt_of_lt_of_le hk h.size)).trans (h.block k hk hn)⟩
theorem Frm.setCell (h : Frm T a w) {p : Addr} (hp : T p.block ∨ a.heap.size ≤ p.block) (v : Value) : Frm T a (w.setCell p v) :=
  ⟨h.os, h.tape, h.output, by simpa [World.setCell] using h.size, fun k hk hn => (Below.heap_setCell w _ v k (by rintro rfl; exact hp.elim hn (fun hp => by omega))).trans (h.block k hk hn)⟩
theorem Frm.setRow (h : Frm T a w) {g : Nat} (hp : T g ∨ a.heap.size ≤ g) (cs : Array Value) : Frm T a (w.setRow g cs) :=
  ⟨h.os, h.tape, h.output, by simpa using h.size, fun k hk hn => (setRow_other w g k cs (by rintro rfl; exact hp.elim hn (fun hp => by omega))).trans (h.block k hk hn)⟩
theorem Frm.setCells (h : Frm T a w) {g : Nat} (hp : T g ∨ a.heap.size ≤ g) : ∀ (vs : List Value) (off : Nat), Frm T a (w.setCells g off vs) := by
  intro vs
  induction vs generalizing w with
  | nil => exact fun _ => h
  | cons v vs ih => exact fun off => ih (h.setCell (p := ⟨g, off, none⟩) hp v) (off + 1)
theorem Frm.grown (h : Frm T a w) {row : Option Nat} (hg : w.grownBy w' row) (hr : ∀ j, row = some j → T j ∨ a.heap.size ≤ j) : Frm T a w' :=
  ⟨hg.os.trans h.os, hg.tape.trans h.tape, hg.output.trans h.output, Nat.le_trans h.size hg.size, fun k hk hn => (hg.block k (Nat.lt_of_lt_of_le hk h.size) (fun e => by exact (hr k e.symm).elim hn (fun hr => by omega))).trans (h.block k hk hn)⟩
theorem Frm.turned (h : Frm T a w) {m : Nat} (ht : w.mapTurned w' m) (hm : T m ∨ a.heap.size ≤ m) : Frm T a w' := h.grown ht.grown (fun j e => by cases e; exact hm)
/-- Blocks from B on alone are turned. -/
theorem Frm.below {B : Nat} (h : Frm T a w) (hT : ∀ i, i < a.heap.size → T i → B ≤ i) (hB : B ≤ a.heap.size) : Below B a w := ⟨h.os, h.tape, h.output, h.size, fun k hk => h.block k (by omega) (fun ht => by have := hT k (by omega) ht; omega)⟩
theorem Frm.of_below {B : Nat} (h : Below B a w) (hB : a.heap.size ≤ B) : Frm T a w := ⟨h.os, h.tape, h.output, h.size, fun k hk _ => h.block k (by omega)⟩
theorem Frm.thenBelow {B : Nat} (h : Frm T a w) (k : Below B w w') (hB : w.heap.size ≤ B) : Frm T a w' := h.trans (Frm.of_below k hB)
theorem Frm.row {g : Nat} {x : Option Obj} (h : Frm T a w) (hg : a.heap[g]? = x) (hx : g < a.heap.size) (hn : ¬ T g) : w.heap[g]? = x := (h.block g hx hn).trans hg
theorem below_drewN {B : Nat} {a w : World} (h : Below B a w) (n : Nat) : Below B a (w.drewN n) := ⟨h.os, h.tape, h.output, h.size, h.block⟩
theorem lt_of_row {w : World} {g : Nat} {x : Obj} (h : w.heap[g]? = some x) : g < w.heap.size := (Array.getElem?_eq_some_iff.1 h).1
end Go.Proofs.Ytjjmjbemflhlbaa.Dk
