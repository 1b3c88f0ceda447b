/- A map of numbers to truth values (map[uint64]bool), as a function of the key. -/
import Derived.Maps.RangeWalk
import Derived.Maps.OwnSet
import Derived.Maps.Views
import Derived.Below
import Derived.Lib.Hide
namespace Go.Proofs.Ytgbmkolpdnenlaa.Dk
open Go Go.RowKit Go.ChangeMaps Go.MapKept
open Go.WideElems (Fit rd rg pl)
open Go.Maps (Keyed)
set_option linter.unusedVariables false
set_option linter.unusedSimpArgs false
def boolElem (v : Value) : Option (DataW Unit × List MemPlace) := match v with
  | .bool b => some (.lit (.bool b), [])
  | _ => none
theorem boolElem_inv {v : Value} {y : DataW Unit × List MemPlace} (h : boolElem v = some y) : ∃ b, v = .bool b ∧ y = (.lit (.bool b), []) := by
  unfold boolElem at h
  split at h
  · cases h; exact ⟨_, rfl, rfl⟩
  · cases h
def wfu (x : Int) : Prop := (Lit.int .u64 x).wf = true
/-- Block m is a map of at most n numbers, S at each key; false where there is none. -/
def BMap (P : Program) (k : TypeId) (w : World) (m n : Nat) (S : Int → Bool) : Prop := ∃ D : DataW Unit, w.ownsMap P k boolElem m n D ∧ ∀ x, wfu x → D.atKey (.int .u64 x) (.lit (.bool false)) = .lit (.bool (S x))
variable {P : Program} {k t e : TypeId} {w : World} {m n : Nat} {S : Int → Bool}
theorem BMap.made (w : World) : BMap P k (w.alloc (.map #[] 0)) w.heap.size 0 (fun _ => false) := ⟨.map [], World.ownsMap_made w P k boolElem, fun x _ => rfl⟩
theorem BMap.keep {w' : World} (h : BMap P k w m n S) (hb : w'.heap[m]? = w.heap[m]?) : BMap P k w' m n S := by
  obtain ⟨D, ⟨es, c, h1, h2⟩, h3⟩ := h
  exact ⟨D, ⟨es, c, hb.trans h1, h2⟩, h3⟩
theorem BMap.lt (h : BMap P k w m n S) : m < w.heap.size := by
  obtain ⟨D, ⟨es, c, h1, h2⟩, h3⟩ := h
  exact (Array.getElem?_eq_some_iff.1 h1).1
theorem BMap.below {w' : World} {B : Nat} (h : BMap P k w m n S) (hb : Below B w w') (hB : w.heap.size ≤ B) : BMap P k w' m n S := h.keep (hb.block m (by have := h.lt; omega))
theorem BMap.ext {S' : Int → Bool} (h : BMap P k w m n S) (he : ∀ x, wfu x → S' x = S x) : BMap P k w m n S' := by
  obtain ⟨D, h1, h3⟩ := h
  exact ⟨D, h1, fun x hx => by rw [he x hx]; exact h3 x hx⟩
/-- 'm[x]'. -/
theorem BMap.look (h : BMap P k w m n S) (hk : P.underlying k = some (.int .u64)) (ht : P.underlying t = some (.map k e)) (hz : (zeroValue e).run P w = .ok (.bool false) w) {x : Int} (hw : wfu x) :
    (Instr.lookup t (.map (some m)) (.int .u64 x) false).run P w = .ok (.bool (S x)) w := by
  obtain ⟨D, h1, h2⟩ := h
  obtain ⟨v, ps, hrun, hv⟩ := h1.lookup (Maps.int_keyed hk) ht hz (zd := .lit (.bool false)) (zp := []) rfl (Maps.keyOf_int_mk hk hw)
  obtain ⟨b, rfl, hb⟩ := boolElem_inv hv
  have := congrArg Prod.fst hb
  rw [h2 x hw] at this
  simp only at this
  injection this with h3
  injection h3 with h4
  rw [h4]
  exact hrun
/-- The same, as an equation on the operation's run. -/
theorem BMap.put_run (h : BMap P k w m n S) (hk : P.underlying k = some (.int .u64)) (ht : P.underlying t = some (.map k e)) (hn : n < maxLen) {x : Int} (hw : wfu x) (b : Bool) :
    ∃ w', (Instr.mapUpdate t (.map (some m)) (.int .u64 x) (.bool b)).run P w = .ok () w' ∧ BMap P k w' m (n + 1) (fun y => if y = x then b else S y) ∧ w.mapTurned w' m := by
  obtain ⟨D, h1, h2⟩ := h
  obtain ⟨w', hrun, r1, r2⟩ := h1.store (Maps.int_keyed hk) ht hn (Maps.keyOf_int_mk hk hw) (show boolElem (.bool b) = some (.lit (.bool b), []) from rfl)
  refine ⟨w', hrun, ⟨_, r1, fun y hy => ?_⟩, r2⟩
  show _ = DataW.lit (Lit.bool (if y = x then b else S y))
  by_cases he : y = x
  · subst he
    rw [if_pos rfl]
    exact Maps.atKey_put_same (k := .int .u64 y) h1.isMap (by trivial) _ _
  · have hne : Lit.int .u64 y ≠ Lit.int .u64 x := by intro e; cases e; exact he rfl
    rw [if_neg he, Maps.atKey_put_other hne]
    exact h2 y hy
end Go.Proofs.Ytgbmkolpdnenlaa.Dk
