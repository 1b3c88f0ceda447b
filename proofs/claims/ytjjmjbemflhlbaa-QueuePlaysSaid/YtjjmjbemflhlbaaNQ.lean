/- One structure is written behind an owned row of structures: where the row lies then. Of no program. -/
import Derived.Test.YtjjmjbemflhlbaaN3
namespace Go.Proofs.Ytjjmjbemflhlbaa
open Go Go.RowKit
set_option linter.unusedVariables false
set_option linter.unusedSimpArgs false
theorem wpList_apK2 {P : Program} {ops : Array Oper} {rest : List Oper} {o : Oper} {a : Act} {Q : Exit → Act → World → Prop} {w : World} (hgd : o.guard = none) (s x : Operand) (tS e : TypeId) (size bytes : Nat) (zv : Value)
    (ho : o.op = .call { callee := .builtin .append, args := #[s, x], argTypes := #[tS, tS] }) (hu : P.underlying tS = some (.slice e)) (hinfo : (P.info? e).map (fun i => (i.zero, i.size, i.bytes)) = some (some zv, size, bytes)) (hb : bytes ≤ 128)
    (hzv : zv.cells.size = size)
    (B : Nat) (ao : Option Addr) (c : Nat) (xs : List Value) (n : Nat) (hsv : a.eval s = .slice ao n c) (own : w.ownsRow B e size (.slice ao n c) n xs) (hB : B ≤ w.heap.size)
    (cs : List Value) (hcl : cs.length = size) (h1 : ∀ u ∈ cs, u.oneCell' = true) (hx : a.eval x = .slice (some ⟨w.heap.size, 0, none⟩) 1 1) (hlim : n + 1 ≤ 1000000)
    (h : ∀ ao' c' w', w'.ownsRow B e size (.slice ao' (n + 1) c') (n + 1) (xs ++ cs) → Below B w w' → (∀ k, k < w.heap.size → some k ≠ (Value.slice ao n c).ownBlock → w'.heap[k]? = w.heap[k]?) → ((Value.slice ao' (n + 1) c').ownBlock = (Value.slice ao n c).ownBlock ∨ (Value.slice ao' (n + 1) c').ownBlock = some (w.heap.size + 1)) → wpList P ops Q rest (a.put o.dst (.slice ao' (n + 1) c')) w') :
    wpList P ops Q (o :: rest) a (w.alloc (.cells cs.toArray e)) := by
  obtain ⟨i0, hi, hz0, hz1, hz2⟩ := info_partsK hinfo
  refine wpList_append_own_src _ hgd s x tS tS ho B e i0 zv size bytes hu hi hz0 hz1 hz2 hzv _ n xs hsv (own.alloc _) _ 1 cs hx ?_ (by unfold maxLen; omega) ?_ (by simp; omega) ?_
  · exact src_oneK hu w cs hcl h1
  · have : (n + 1) * bytes ≤ (n + 1) * 128 := Nat.mul_le_mul_left _ hb
    omega
  · intro v' w' hg
    have gr := hg.2.2
    obtain ⟨a2, c2, rfl, own4, hb4, blk4⟩ := grew_oneK own hB (Nat.le_refl _) hg
    exact h a2 c2 w' own4 hb4 blk4 (by simpa using gr)
end Go.Proofs.Ytjjmjbemflhlbaa
