/- The walk of ValueWrites. -/
import Derived.Test.YthfjahagmfgfeaaGreatDoorH4
namespace Go.Proofs.YthfjahagmfgfeaaGreatDoor.Wi
open Go Go.RowKit Go.ChangeShapes Go.WideShapes Go.ChangeAt
set_option linter.unusedVariables false
set_option linter.unusedSimpArgs false
set_option maxRecDepth 100000 in
/-- A list of values that came in. -/
theorem open_vals {H : Type} {enc : TypeId × Value → H} {W : World} {base : Nat} {v : Value} {d : DataW H} {p : List MemPlace} (hv : Value.okWide Tryz.prog W .any base 22 v) (h : DataW.Trod enc Tryz.prog W 0 (fun _ => true) true 22 v d p)
    (hw : ∀ k ∈ d.weights Tryz.prog 22, k ≤ reachBytes) : ∃ (ao : Option Addr) (c : Nat) (l : List VT), v = .slice ao l.length c ∧ (VT.mk 3 0 [] ao c l).At W.heap.size W := by
  obtain ⟨a0, len, cap, rfl⟩ := okWide_slice Tryz.underlying22 hv
  obtain ⟨fuel, hf⟩ := h
  obtain ⟨ao, c, l, e, h1, h2, h3⟩ := open_list (x := (d, p)) (fun m _ cs y h hw => open_cells m cs y h hw) hf hw
  refine ⟨ao, c, l, e, ?_⟩
  rw [VT.At]
  exact ⟨by omega, by omega, by simp, h1, h3, atL_of h2⟩
theorem vbL_short : ∀ {l : List VT}, (∀ x ∈ l, x.vE = 0) → (vbL l).length ≤ 512 * l.length
  | [], _ => by rw [vbL]; simp
  | x :: l, h => by
    have h1 := (fine (h x (by simp))).vb
    have h2 := vbL_short (l := l) fun y hy => h y (by simp [hy])
    rw [vbL, List.length_append, List.length_cons]
    omega
def wrR (w2 : World) (q : Nat) (l : List VT) (nv i : Value) (wr : World) : Prop := ∃ (j : Nat) (r : Option Nat), i = .int .i64 (j : Int) ∧ nv = .int .i64 ((vbL (l.take j)).length : Int) ∧ j ≤ l.length ∧ (∀ x ∈ l.take j, x.vE = 0) ∧ Wr wr q r (vbL (l.take j)) ∧ (∀ g, r = some g → w2.heap.size ≤ g) ∧ Below w2.heap.size w2 wr
def rdR (w2 : World) (b : Nat) (r : Option Nat) (l : List VT) (i : Value) (wr : World) : Prop := ∃ j : Nat, i = .int .i64 (j : Int) ∧ j ≤ l.length ∧ Rd wr b r (vbL l) (vbL (l.take j)).length 0 ∧ Below w2.heap.size w2 wr
end Go.Proofs.YthfjahagmfgfeaaGreatDoor.Wi
