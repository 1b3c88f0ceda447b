/- The list that WholeTold makes: its region in every order. -/
import Derived.Test.YthfjahagmfgfeaaGreatDoorH4
import Derived.Test.YthfjahagmfgfeaaGreatDoorG2
import Derived.Test.YthfjahagmfgfeaaGreatDoorGA
import Derived.Lib.SmallJoins
namespace Go.Proofs.YthfjahagmfgfeaaGreatDoor.Wi
open Go Go.RowKit Go.ChangeShapes Go.WideShapes Go.ChangeAt
set_option linter.unusedVariables false
set_option linter.unusedSimpArgs false
def wtF (v : VT) (S : ByteArray) (t : Int) (s : List UInt8) (L3 : List VT) (XN : VT) (B : Nat) (j : Nat) (q : Value) (W : World) : Prop := match j with
  | 0 => q = .agg v.cells.toArray
  | 1 => q = .string S
  | 2 => q = .agg (txV s).cells.toArray
  | 3 => q = .int .i64 t
  | 4 => q = .agg (ofV t).cells.toArray
  | 5 => ∃ g5, q = .slice (some ⟨g5, 0, none⟩) 3 3 ∧ (VT.mk 3 0 [] (some ⟨g5, 0, none⟩) 3 L3).At W.heap.size W
  | 6 => ∃ X : VT, q = .agg X.cells.toArray ∧ X.nz = XN ∧ X.At W.heap.size W
  | 7 => ∃ g7, q = .pointer (some ⟨g7, 0, none⟩) ∧ B ≤ g7 ∧ W.heap[g7]? = some (.cells z4.toArray 24 (0, 0))
  | _ => True
def wtG (XN : VT) (B : Nat) (row : VT → Array Value) (y : Nat → Value) (W : World) : Prop := ∃ (X : VT) (g7 : Nat), y 6 = .agg X.cells.toArray ∧ y 7 = .pointer (some ⟨g7, 0, none⟩) ∧ B ≤ g7 ∧ W.heap[g7]? = some (.cells (row X) 24 (0, 0)) ∧ X.nz = XN ∧ X.At W.heap.size W ∧ X.In (· ≠ g7)
structure wtJ (v : VT) (S : ByteArray) (t : Int) (s : List UInt8) (L3 : List VT) (XN : VT) (w5 : World) (L : Nat → Bool) (y : Nat → Value) (w : World) : Prop where
  low : Below w5.heap.size w5 w
  pre : L 8 = false → (∀ j, L j = true → wtF v S t s L3 XN w5.heap.size j (y j) w) ∧ (L 6 = true → L 7 = true → wtG XN w5.heap.size (fun _ => z4.toArray) y w)
  post : L 8 = true → (∀ j, j < 8 → L j = true) ∧ wtG XN w5.heap.size (fun X => X.cells.toArray) y w
theorem wtF.below {v : VT} {S : ByteArray} {t : Int} {s : List UInt8} {L3 : List VT} {XN : VT} {B j : Nat} {q : Value} {W W' : World} (h : wtF v S t s L3 XN B j q W) (hb : Below W.heap.size W W') : wtF v S t s L3 XN B j q W' := by
  match j, h with
  | 0, h => exact h
  | 1, h => exact h
  | 2, h => exact h
  | 3, h => exact h
  | 4, h => exact h
  | 5, ⟨g5, e, ha⟩ => exact ⟨g5, e, (ha.below hb).mono hb.size⟩
  | 6, ⟨X, e, hz, ha⟩ => exact ⟨X, e, hz, (ha.below hb).mono hb.size⟩
  | 7, ⟨g7, e, hB, hr⟩ => exact ⟨g7, e, hB, (hb.block g7 (lt_of_rowK hr)).trans hr⟩
  | k + 8, _ => trivial
theorem wtJ.open8 {v : VT} {S : ByteArray} {t : Int} {s : List UInt8} {L3 : List VT} {XN : VT} {w5 : World} {L : Nat → Bool} {y : Nat → Value} {w : World} (h : wtJ v S t s L3 XN w5 L y w) {i : Nat} (hi : L i = false) (h8 : i < 8) : L 8 = false := by
  cases hb : L 8 with
  | false => rfl
  | true => have := (h.post hb).1 i h8; rw [hi] at this; cases this
theorem wtJ.step {v : VT} {S : ByteArray} {t : Int} {s : List UInt8} {L3 : List VT} {XN : VT} {w5 : World} {L : Nat → Bool} {y : Nat → Value} {w w' : World} (h : wtJ v S t s L3 XN w5 L y w) {i : Nat} {q : Value} (hi : L i = false) (h8 : i < 8) (hb : Below w.heap.size w w')
    (hf : wtF v S t s L3 XN w5.heap.size i q w') (hg : i = 6 ∨ i = 7 → upd L i true 6 = true → upd L i true 7 = true → wtG XN w5.heap.size (fun _ => z4.toArray) (upd y i q) w') : wtJ v S t s L3 XN w5 (upd L i true) (upd y i q) w' := by
  have h0 := h.open8 hi h8
  obtain ⟨p1, p2⟩ := h.pre h0
  have e8 : upd L i true 8 = false := by rw [upd_ne _ _ (by omega)]; exact h0
  refine ⟨h.low.trans (hb.mono h.low.size), fun _ => ⟨fun j hj => ?_, fun h6 h7 => ?_⟩, fun hh => by rw [e8] at hh; cases hh⟩
  · by_cases hji : j = i
    · subst hji; rw [upd_self]; exact hf
    · rw [upd_ne _ _ hji] at hj ⊢
      exact (p1 j hj).below hb
  · by_cases hk : i = 6 ∨ i = 7
    · exact hg hk h6 h7
    · rw [upd_ne _ _ (by omega)] at h6 h7
      obtain ⟨X, g7, e6, e7, hB, hr, hz, ha, hn⟩ := p2 h6 h7
      exact ⟨X, g7, by rw [upd_ne _ _ (by omega)]; exact e6, by rw [upd_ne _ _ (by omega)]; exact e7, hB, (hb.block g7 (lt_of_rowK hr)).trans hr, hz, (ha.below hb).mono hb.size, hn⟩
theorem wtJ.start {v : VT} {S : ByteArray} {t : Int} {s : List UInt8} {L3 : List VT} {XN : VT} {w5 : World} {y : Nat → Value} : wtJ v S t s L3 XN w5 (fun _ => false) y w5.drew :=
  ⟨below_drewG (Below.refl _ _) 1, fun _ => ⟨(fun j h => by cases h), (fun h => by cases h)⟩, (fun h => by cases h)⟩
/-- The value is stored. -/
theorem wtJ.stored {v : VT} {S : ByteArray} {t : Int} {s : List UInt8} {L3 : List VT} {XN : VT} {w5 : World} {L : Nat → Bool} {y : Nat → Value} {w : World} (h : wtJ v S t s L3 XN w5 L y w) (h8 : L 8 = false) (hall : ∀ j, j < 8 → L j = true) {X : VT} {g7 : Nat} (e6 : y 6 = .agg X.cells.toArray) (e7 : y 7 = .pointer (some ⟨g7, 0, none⟩)) (hB : w5.heap.size ≤ g7) (hr : w.heap[g7]? = some (.cells z4.toArray 24 (0, 0))) (hz : X.nz = XN) (ha : X.At w.heap.size w) (hn : X.In (· ≠ g7)) :
    wtJ v S t s L3 XN w5 (upd L 8 true) (upd y 8 undef) (w.setRow g7 X.cells.toArray) := by
  refine ⟨below_setRow h.low hB _, (fun hh => by rw [upd_self] at hh; cases hh), fun _ => ⟨fun j hj => by rw [upd_ne _ _ (by omega)]; exact hall j hj, X, g7, by rw [upd_ne _ _ (by omega)]; exact e6, by rw [upd_ne _ _ (by omega)]; exact e7, hB, setRow_heap w g7 _ _ _ _ hr, hz, ?_, hn⟩⟩
  have h1 : (w.setRow g7 X.cells.toArray).heap.size = w.heap.size := by simp
  rw [h1]
  exact ha.keepT hn fun k _ hk => setRow_other w g7 k _ hk
/-- A slice of three values is built. -/
theorem bs3_run (x y z : VT) (o : Oper) (ho : o.op = .buildSlice 22 3 #[(0, .tmp 51), (1, .tmp 53), (2, .tmp 55)]) (w : World) :
    (execOp (fun q => match q with | .tmp 51 => .agg x.cells.toArray | .tmp 53 => .agg y.cells.toArray | .tmp 55 => .agg z.cells.toArray | _ => undef) o).run Tryz.prog w = .ok (.value (.slice (some ⟨w.heap.size, 0, none⟩) 3 3)) (w.alloc (.cells (vcs [x, y, z]).toArray 24)) := by
  unfold execOp
  rw [ho]
  obtain ⟨xk, xn, xs, xa, xc, xl⟩ := x
  obtain ⟨yk, yn, ys, ya, yc, yl⟩ := y
  obtain ⟨zk, zn, zs, za, zc, zl⟩ := z
  simp only [vcs, List.map_cons, List.map_nil, VT.cells]
  go_simp
theorem three_inv {Z v : VT} {s : List UInt8} {t : Int} {N : Nat} {w : World} (h : Z.nz = (VT.mk 3 0 [] none 0 [v, txV s, ofV t]).nz) (ha : Z.At N w) :
    ∃ (ad : Addr) (zc : Nat), Z.cells[3]? = some (.slice (some ad) 3 zc) ∧ ad.block < N ∧ w.cell? ((ad.add 4).add 2) = some (.string (str s)) ∧ w.cell? ((ad.add 8).add 1) = some (.int .i64 t) := by
  obtain ⟨zk, zn, zs, za, zc, zl⟩ := Z
  have h1 : zk = 3 ∧ (if zk = 3 then nzL zl else []) = [v.nz, (txV s).nz, (ofV t).nz] := by
    rw [VT.nz, VT.nz] at h
    injection h with a1 a2 a3 a4 a5 a6
    refine ⟨a1, a6.trans ?_⟩
    simp [nzL]
  obtain ⟨rfl, h2⟩ := h1
  rw [if_pos rfl] at h2
  match zl, h2 with
  | [], h2 => simp [nzL] at h2
  | [_], h2 => simp [nzL] at h2
  | [_, _], h2 => simp [nzL] at h2
  | _ :: _ :: _ :: _ :: _, h2 => simp [nzL] at h2
  | [z0, z1, z2], h2 =>
    simp only [nzL, List.cons.injEq, and_true] at h2
    obtain ⟨_, e1, e2⟩ := h2
    obtain ⟨_, ad, rfl, hb, hc⟩ := ha.elem (i := 1) (x := z1) rfl
    obtain ⟨_, ad', e', _, hc'⟩ := ha.elem (i := 2) (x := z2) rfl
    injection e' with e'
    subst e'
    refine ⟨ad, zc, rfl, hb, hc w (fun _ _ => rfl) 2 _ ?_, hc' w (fun _ _ => rfl) 1 _ ?_⟩
    · obtain ⟨k, n, q, a, c, l⟩ := z1
      simp only [VT.nz, txV] at e1
      injection e1 with a1 a2 a3
      subst a1
      simp at a3
      rw [a3]
      rfl
    · obtain ⟨k, n, q, a, c, l⟩ := z2
      simp only [VT.nz, ofV] at e2
      injection e2 with a1 a2 a3
      subst a1
      simp at a2
      rw [a2]
      rfl
end Go.Proofs.YthfjahagmfgfeaaGreatDoor.Wi
