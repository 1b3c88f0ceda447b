/- One structure is written behind an owned row of structures. Of no program. -/
import Derived.Test.YtjjmjbemflhlbaaYo
import Derived.Deep.AppendSrc
namespace Go.Proofs.Ytjjmjbemflhlbaa
open Go Go.RowKit
set_option linter.unusedVariables false
set_option linter.unusedSimpArgs false
theorem info_partsK {P : Program} {e : TypeId} {z : Option Value} {n b : Nat} (h : (P.info? e).map (fun i => (i.zero, i.size, i.bytes)) = some (z, n, b)) : ∃ i, P.info? e = some i ∧ i.zero = z ∧ i.size = n ∧ i.bytes = b := by
  cases hq : P.info? e with
  | none => rw [hq] at h; cases h
  | some i =>
    rw [hq] at h
    simp at h
    exact ⟨i, rfl, h.1, h.2.1, h.2.2⟩
theorem wpList_apK {P : Program} {ops : Array Oper} {rest : List Oper} {o : Oper} {a : Act} {Q : Exit → Act → World → Prop} {w : World} (hgd : o.guard = none) (s x : Operand) (tS e : TypeId) (size bytes : Nat) (zv : Value)
    (ho : o.op = .call { callee := .builtin .append, args := #[s, x], argTypes := #[tS, tS] }) (hu : P.underlying tS = some (.slice e)) (hinfo : (P.info? e).map (fun i => (i.zero, i.size, i.bytes)) = some (some zv, size, bytes)) (hb : bytes ≤ 128)
    (hzv : zv.cells.size = size)
    (B : Nat) (ao : Option Addr) (c : Nat) (xs : List Value) (n : Nat) (hsv : a.eval s = .slice ao n c) (own : w.ownsRow B e size (.slice ao n c) n xs) (hB : B ≤ w.heap.size)
    (cs : List Value) (hcl : cs.length = size) (h1 : ∀ u ∈ cs, u.oneCell' = true) (hx : a.eval x = .slice (some ⟨w.heap.size, 0, none⟩) 1 1) (hlim : n + 1 ≤ 1000000)
    (h : ∀ ao' c' w', w'.ownsRow B e size (.slice ao' (n + 1) c') (n + 1) (xs ++ cs) → Below B w w' → (∀ k, k < w.heap.size → some k ≠ (Value.slice ao n c).ownBlock → w'.heap[k]? = w.heap[k]?) → wpList P ops Q rest (a.put o.dst (.slice ao' (n + 1) c')) w') :
    wpList P ops Q (o :: rest) a (w.alloc (.cells cs.toArray e)) := by
  obtain ⟨i0, hi, hz0, hz1, hz2⟩ := info_partsK hinfo
  refine wpList_append_own_src _ hgd s x tS tS ho B e i0 zv size bytes hu hi hz0 hz1 hz2 hzv _ n xs hsv (own.alloc _) _ 1 cs hx ?_ (by unfold maxLen; omega) ?_ (by simp; omega) ?_
  · exact src_oneK hu w cs hcl h1
  · have : (n + 1) * bytes ≤ (n + 1) * 128 := Nat.mul_le_mul_left _ hb
    omega
  · intro v' w' hg
    obtain ⟨a2, c2, rfl, own4, hb4, blk4⟩ := grew_oneK own hB (Nat.le_refl _) hg
    exact h a2 c2 w' own4 hb4 blk4
end Go.Proofs.Ytjjmjbemflhlbaa
