/- A wire.Reader in memory; what Read and a Reader's calls next, Fail, Err, At and Left leave. -/
import Derived.Test.YtcjnfmlpjolfpaaWn
import Derived.Deep.QuietTactic
import Derived.BigQuiet
import Derived.RegionTactic
import Derived.ChangeAlike
import Derived.BigRegion
namespace Go.Proofs.Ytcjnfmlpjolfpaa
open Go Go.RowKit
set_option linter.unusedVariables false

/-- A Reader at block b, whose row is r, over the bytes xs, of which 'at' are read; its error's number. -/
def Rd (w : World) (b : Nat) (r : Option Nat) (xs : List UInt8) (k : Nat) (err : Int) : Prop :=
  k ≤ xs.length ∧ ∃ v, w.heap[b]? = some (.cells #[v, .int .i64 (k : Int), .int .i64 err] 70 (0, 0)) ∧ w.ownsRow 0 5 1 v xs.length (bvs xs) ∧ v.ownBlock = r

theorem Rd.keep {w w' : World} {b : Nat} {r : Option Nat} {xs : List UInt8} {k : Nat} {err : Int} (h : Rd w b r xs k err) (hb : w'.heap[b]? = w.heap[b]?) (hr : ∀ g, r = some g → w'.heap[g]? = w.heap[g]?) : Rd w' b r xs k err := by
  obtain ⟨hk, v, h1, ⟨h2, h3⟩, rfl⟩ := h
  refine ⟨hk, v, hb.trans h1, ⟨h2, ?_⟩, rfl⟩
  rcases h3 with h3 | ⟨g, cap, cur, rfl, hg, hh, rest⟩
  · exact Or.inl h3
  · exact Or.inr ⟨g, cap, cur, rfl, hg, (hr g rfl).trans hh, rest⟩
theorem Rd.lt {w : World} {b : Nat} {r : Option Nat} {xs : List UInt8} {k : Nat} {err : Int} (h : Rd w b r xs k err) : b < w.heap.size := by
  obtain ⟨_, v, h1, _⟩ := h
  exact (Array.getElem?_eq_some_iff.1 h1).1
theorem Rd.rlt {w : World} {b : Nat} {r : Option Nat} {xs : List UInt8} {k : Nat} {err : Int} (h : Rd w b r xs k err) : ∀ g, r = some g → g < w.heap.size := by
  obtain ⟨_, v, _, h2, rfl⟩ := h
  exact fun g hg => (h2.lt g hg).2
theorem Rd.ne {w : World} {b : Nat} {r : Option Nat} {xs : List UInt8} {k : Nat} {err : Int} (h : Rd w b r xs k err) : r ≠ some b := by
  obtain ⟨_, v, h1, h2, rfl⟩ := h
  rcases h2.2 with ⟨rfl, _⟩ | ⟨g, cap, cur, rfl, _, hh, _⟩
  · simp [Value.ownBlock]
  · intro e
    have : g = b := by simpa [Value.ownBlock] using e
    subst this
    rw [hh] at h1
    simp at h1
theorem Rd.alloc {w : World} {b : Nat} {r : Option Nat} {xs : List UInt8} {k : Nat} {err : Int} (h : Rd w b r xs k err) (o : Obj) : Rd (w.alloc o) b r xs k err :=
  h.keep (Below.heap_alloc w o b h.lt) (fun g hg => Below.heap_alloc w o g (h.rlt g hg))
theorem Rd.below {B : Nat} {w w' : World} {b : Nat} {r : Option Nat} {xs : List UInt8} {k : Nat} {err : Int} (h : Rd w b r xs k err) (hB : Below w.heap.size w w') : Rd w' b r xs k err :=
  h.keep (hB.block b h.lt) (fun g hg => hB.block g (h.rlt g hg))
/-- A Reader's three cells. -/
theorem Rd.cells {w : World} {b : Nat} {r : Option Nat} {xs : List UInt8} {k : Nat} {err : Int} (h : Rd w b r xs k err) :
    ∃ ao c, w.cell? ⟨b, 0, none⟩ = some (.slice ao xs.length c) ∧ w.cell? ⟨b, 1, none⟩ = some (.int .i64 (k : Int)) ∧ w.cell? ⟨b, 2, none⟩ = some (.int .i64 err) ∧
      w.frozen? ⟨b, 1, none⟩ = false ∧ w.frozen? ⟨b, 2, none⟩ = false ∧ w.ownsRow 0 5 1 (.slice ao xs.length c) xs.length (bvs xs) ∧ (Value.slice ao xs.length c).ownBlock = r := by
  obtain ⟨_, v, h1, h2, h3⟩ := h
  have hc : ∀ i, w.cell? ⟨b, i, none⟩ = (#[v, .int .i64 (k : Int), .int .i64 err] : Array Value)[i]? := fun i => by simp [World.cell?, h1]
  have hf : ∀ i, w.frozen? ⟨b, i, none⟩ = false := fun i => by simp [World.frozen?, h1]
  rcases h2.2 with ⟨hv, h0⟩ | ⟨g, cap, cur, hv, _⟩
  · subst hv
    rw [h0]
    exact ⟨none, 0, hc 0, hc 1, hc 2, hf 1, hf 2, by rw [h0] at h2; exact h2, h3⟩
  · subst hv
    exact ⟨_, cap, hc 0, hc 1, hc 2, hf 1, hf 2, h2, h3⟩
theorem Rd.setAt {w : World} {b : Nat} {r : Option Nat} {xs : List UInt8} {k : Nat} {err : Int} (h : Rd w b r xs k err) (k' : Nat) (hk : k' ≤ xs.length) (x : Int) (hx : x = (k' : Int)) : Rd (w.setCell ⟨b, 1, none⟩ (.int .i64 x)) b r xs k' err := by
  subst hx
  have hne := h.ne
  obtain ⟨_, v, h1, h2, rfl⟩ := h
  refine ⟨hk, v, by simp [World.setCell, Array.getElem?_modify, h1], ⟨h2.1, ?_⟩, rfl⟩
  rcases h2.2 with h | ⟨g, cap, cur, rfl, hg, hh, rest⟩
  · exact Or.inl h
  · exact Or.inr ⟨g, cap, cur, rfl, hg, (Below.heap_setCell w _ _ g (by intro e; apply hne; simp [Value.ownBlock, e])).trans hh, rest⟩
theorem Rd.setErr {w : World} {b : Nat} {r : Option Nat} {xs : List UInt8} {k : Nat} {err : Int} (h : Rd w b r xs k err) (e' : Int) : Rd (w.setCell ⟨b, 2, none⟩ (.int .i64 e')) b r xs k e' := by
  have hne := h.ne
  obtain ⟨hk, v, h1, h2, rfl⟩ := h
  refine ⟨hk, v, by simp [World.setCell, Array.getElem?_modify, h1], ⟨h2.1, ?_⟩, rfl⟩
  rcases h2.2 with h | ⟨g, cap, cur, rfl, hg, hh, rest⟩
  · exact Or.inl h
  · exact Or.inr ⟨g, cap, cur, rfl, hg, (Below.heap_setCell w _ _ g (by intro e; apply hne; simp [Value.ownBlock, e])).trans hh, rest⟩
theorem Rd.drew {w : World} {b : Nat} {r : Option Nat} {xs : List UInt8} {k : Nat} {err : Int} (h : Rd w b r xs k err) : Rd w.drew b r xs k err := h
theorem Rd.drewN {w : World} {b : Nat} {r : Option Nat} {xs : List UInt8} {k : Nat} {err : Int} (h : Rd w b r xs k err) (n : Nat) : Rd (w.drewN n) b r xs k err := h
theorem Fr.drewN {a w : World} {b : Nat} {r : Option Nat} (h : Fr a w b r) (n : Nat) : Fr a (w.drewN n) b r := ⟨h.os, h.tape, h.output, h.size, h.block⟩

theorem err_any {w : World} {b : Nat} {r : Option Nat} {xs : List UInt8} {k : Nat} {err : Int} (h : Rd w b r xs k err) :
    Calls Try.prog 33 #[.pointer (some ⟨b, 0, none⟩)] w fun e w' => e = .returned (.int .i64 err) ∧ w = w' := by
  obtain ⟨ao, c, c0, c1, c2, f1, f2, _⟩ := h.cells
  go_enter Try.func33, Try.ntmps33
  go_wp2
  go_ret
  exact ⟨rfl, rfl⟩
theorem at_any {w : World} {b : Nat} {r : Option Nat} {xs : List UInt8} {k : Nat} {err : Int} (h : Rd w b r xs k err) :
    Calls Try.prog 27 #[.pointer (some ⟨b, 0, none⟩)] w fun e w' => e = .returned (.int .i64 (k : Int)) ∧ w = w' := by
  obtain ⟨ao, c, c0, c1, c2, f1, f2, _⟩ := h.cells
  go_enter Try.func27, Try.ntmps27
  go_wp2
  go_ret
  exact ⟨rfl, rfl⟩
/-- Fail keeps the first error. -/
theorem fail_no {w : World} {b : Nat} {r : Option Nat} {xs : List UInt8} {k : Nat} {err : Int} (h : Rd w b r xs k err) (he : err ≠ 0) (e' : Int) :
    Calls Try.prog 37 #[.pointer (some ⟨b, 0, none⟩), .int .i64 e'] w fun e w' => e = .returned (.tuple #[]) ∧ w = w' := by
  obtain ⟨ao, c, c0, c1, c2, f1, f2, _⟩ := h.cells
  have hb : (err == 0) = false := by simpa using he
  go_enter Try.func37, Try.ntmps37
  go_wp2
  go_end0
  exact ⟨rfl, rfl⟩
theorem fail_yes {w : World} {b : Nat} {r : Option Nat} {xs : List UInt8} {k : Nat} (h : Rd w b r xs k 0) (e' : Int) :
    Calls Try.prog 37 #[.pointer (some ⟨b, 0, none⟩), .int .i64 e'] w fun e w' => e = .returned (.tuple #[]) ∧ w.setCell ⟨b, 2, none⟩ (.int .i64 e') = w' := by
  obtain ⟨ao, c, c0, c1, c2, f1, f2, _⟩ := h.cells
  go_enter Try.func37, Try.ntmps37
  go_wp2
  go_end0
  exact ⟨rfl, rfl⟩
/-- What Fail makes of an error. -/
def fe (err e' : Int) : Int := if err = 0 then e' else err
theorem fail_any {w : World} {b : Nat} {r : Option Nat} {xs : List UInt8} {k : Nat} {err : Int} (h : Rd w b r xs k err) (e' : Int) :
    Calls Try.prog 37 #[.pointer (some ⟨b, 0, none⟩), .int .i64 e'] w fun e w' => e = .returned (.tuple #[]) ∧ Rd w' b r xs k (fe err e') ∧ Fr w w' b none := by
  unfold fe
  by_cases he : err = 0
  · subst he
    refine (fail_yes h e').mono ?_
    rintro e w' ⟨rfl, rfl⟩
    exact ⟨rfl, h.setErr e', (Fr.refl w b none).set 2 _⟩
  · rw [if_neg he]
    refine (fail_no h he e').mono ?_
    rintro e w' ⟨rfl, rfl⟩
    exact ⟨rfl, h, Fr.refl w b none⟩
/-- Left, without an error and behind one. -/
theorem left_ok {w : World} {b : Nat} {r : Option Nat} {xs : List UInt8} {k : Nat} (h : Rd w b r xs k 0) (hsz : xs.length ≤ 140737488355328) :
    Calls Try.prog 26 #[.pointer (some ⟨b, 0, none⟩)] w fun e w' => e = .returned (.int .i64 ((xs.length - k : Nat) : Int)) ∧ ∃ n, w' = w.drewN n := by
  obtain ⟨ao, c, c0, c1, c2, f1, f2, _⟩ := h.cells
  have hk := h.1
  go_enter Try.func26, Try.ntmps26
  go_wp2
  go_quiet (fail)
  go_wp2
  go_ret
  exact ⟨ret_int (by omega), _, rfl⟩
theorem left_err {w : World} {b : Nat} {r : Option Nat} {xs : List UInt8} {k : Nat} {err : Int} (h : Rd w b r xs k err) (he : err ≠ 0) :
    Calls Try.prog 26 #[.pointer (some ⟨b, 0, none⟩)] w fun e w' => e = .returned (.int .i64 0) ∧ w = w' := by
  obtain ⟨ao, c, c0, c1, c2, f1, f2, _⟩ := h.cells
  have hb : (err != 0) = true := by simpa using he
  go_enter Try.func26, Try.ntmps26
  go_wp2
  go_ret
  exact ⟨rfl, rfl⟩
end Go.Proofs.Ytcjnfmlpjolfpaa
