/- A map from keys of three numbers to numbers, as a function of the key; its laws for the walk. Of no program. -/
import Derived.Maps.RangeWalk
import Derived.Maps.OwnSet
import Derived.Maps.Views
import Derived.Below
import Derived.Lib.Hide
import Derived.DeepKeys5
namespace Go.Proofs.Ytjjmjbemflhlbaa.Hp
open Go Go.RowKit Go.ChangeMaps Go.MapKept
open Go.Maps (Keyed)
set_option linter.unusedVariables false
set_option linter.unusedSimpArgs false
abbrev K3 := Int × Int × Int
def kv (x : K3) : Value := .agg #[.int .i64 x.1, .int .i64 x.2.1, .int .i64 x.2.2]
def KLit (x : K3) : Lit := .string (keyBytes [.int .i64 x.1, .int .i64 x.2.1, .int .i64 x.2.2])
def i64wf (n : Int) : Prop := (Lit.int .i64 n).wf = true
def wf3 (x : K3) : Prop := i64wf x.1 ∧ i64wf x.2.1 ∧ i64wf x.2.2
/-- What a program's map of places must be. -/
structure Key3 (P : Program) (t k e : TypeId) : Prop where
  keyed : Keyed P k
  map : P.underlying t = some (.map k e)
  elem : P.underlying e = some (.int .i64)
  zero : ∀ w, (zeroValue e).run P w = .ok (.int .i64 0) w
  key : ∀ x, wf3 x → keyOf P k (kv x) = some (KLit x)
theorem kv_inj {x y : K3} (h : kv x = kv y) : x = y := by
  obtain ⟨a, b, c⟩ := x
  obtain ⟨p, q, r⟩ := y
  simpa [kv] using h
theorem Key3.inj {P : Program} {t k e : TypeId} (K : Key3 P t k e) {x y : K3} (hx : wf3 x) (hy : wf3 y) (h : KLit x = KLit y) : x = y :=
  kv_inj (K.keyed.inj (K.key x hx) (by rw [h]; exact K.key y hy))
def litI (d : DataW Unit) : Int := match d with
  | .lit (.int _ n) => n
  | _ => 0
def viewK (D : DataW Unit) (x : K3) : Option Int := if Maps.has D (KLit x) = true then some (litI (D.atKey (KLit x) (.lit (.int .i64 0)))) else none
/-- Block m is a map of c places, S at each key. -/
def MapK (P : Program) (k e : TypeId) (w : World) (m c : Nat) (S : K3 → Option Int) : Prop := ∃ D : DataW Unit, w.ownsMap P k (plainElem P e) m c D ∧ Maps.size D = c ∧ ∀ x, wf3 x → S x = viewK D x
variable {P : Program} {t k e : TypeId} {w : World} {m c : Nat} {S : K3 → Option Int}
theorem MapK.made (w : World) : MapK P k e (w.alloc (.map #[] 0)) w.heap.size 0 (fun _ => none) := ⟨.map [], World.ownsMap_made w P k _, rfl, fun x _ => rfl⟩
theorem MapK.keep {w' : World} (h : MapK P k e w m c S) (hb : w'.heap[m]? = w.heap[m]?) : MapK P k e w' m c S := by
  obtain ⟨D, ⟨es, cl, h1, h2⟩, h3⟩ := h
  exact ⟨D, ⟨es, cl, hb.trans h1, h2⟩, h3⟩
theorem MapK.lt (h : MapK P k e w m c S) : m < w.heap.size := by
  obtain ⟨D, h1, h2⟩ := h
  exact h1.lt
theorem MapK.ext {S' : K3 → Option Int} (h : MapK P k e w m c S) (he : ∀ x, wf3 x → S' x = S x) : MapK P k e w m c S' := by
  obtain ⟨D, h1, h2, h3⟩ := h
  exact ⟨D, h1, h2, fun x hx => (he x hx).trans (h3 x hx)⟩
theorem MapK.ne (h : MapK P k e w m c S) {g : Nat} {cs : Array Value} {ty : TypeId} {fr : Nat × Nat} (hg : w.heap[g]? = some (.cells cs ty fr)) : m ≠ g := by
  obtain ⟨D, ⟨es, cl, h1, h2⟩, h3⟩ := h
  rintro rfl
  rw [hg] at h1
  cases h1
variable {ops : Array Oper} {rest : List Oper} {o : Oper} {a : Act} {Q : Exit → Act → World → Prop}
/-- 'i, ok := m[k]'. -/
theorem wpList_lookK (hg : o.guard = none) (mo xo : Operand) (hop : o.op = Op.lookup t mo xo true) (K : Key3 P t k e) (hm : a.eval mo = .map (some m)) (h : MapK P k e w m c S) {x : K3} (hx : a.eval xo = kv x) (hw : wf3 x)
    (n : Int) (b : Bool) (hl : ∀ i, S x = some i → n = i) (hn : S x = none → n = 0) (hb : b = (S x).isSome) (hK : wpList P ops Q rest (a.put o.dst (.tuple #[.int .i64 n, .bool b])) w) : wpList P ops Q (o :: rest) a w := by
  obtain ⟨D, h1, _, h3⟩ := h
  have hS := h3 x hw
  refine wpList_lookup_own_ok_int w hg mo xo t hop k e .i64 K.keyed K.map K.elem (K.zero w) m c D hm h1 (kv x) (KLit x) hx (K.key x hw) ?_
  intro i hi _
  unfold viewK at hS
  have e1 : Maps.has D (KLit x) = b := by
    rw [hb, hS]
    cases Maps.has D (KLit x) <;> rfl
  have e2 : i = n := by
    cases hh : Maps.has D (KLit x) with
    | true =>
      rw [hh, if_pos rfl, hi] at hS
      exact (hl _ hS).symm
    | false =>
      rw [hh, if_neg (by decide)] at hS
      rw [hn hS]
      have := Maps.atKey_of_not_has hh (.lit (.int .i64 0))
      rw [hi] at this
      injection this with this
      injection this
  rw [e1, e2]
  exact hK
/-- 'm[k] = i'. -/
theorem wpList_putK (hg : o.guard = none) (mo xo vo : Operand) (hop : o.op = Op.mapUpdate t mo xo vo) (K : Key3 P t k e) (hm : a.eval mo = .map (some m)) (h : MapK P k e w m c S) (hc : c < maxLen) {x : K3} (hx : a.eval xo = kv x) (hw : wf3 x) {i : Int} (hv : a.eval vo = .int .i64 i) (hi : i64wf i)
    (hK : ∀ w', MapK P k e w' m (if (S x).isSome then c else c + 1) (fun y => if y = x then some i else S y) → w.mapTurned w' m → wpList P ops Q rest (a.put o.dst undef) w') : wpList P ops Q (o :: rest) a w := by
  obtain ⟨D, h1, h2, h3⟩ := h
  refine wpList_mapUpdate_in w hg mo xo vo t hop k e K.keyed K.map (plainElem P e) m c D hm h1 hc (kv x) (.int .i64 i) (KLit x) hx hv (K.key x hw) (.lit (.int .i64 i)) [] (plainElem_int K.elem hi) ?_
  intro w' h1' ht
  have ht2 := h1.tidy K.keyed
  have hsz := Maps.size_put (k := KLit x) ht2 (.lit (.int .i64 i))
  have hS := h3 x hw
  have hh : Maps.has D (KLit x) = (S x).isSome := by
    rw [hS]; unfold viewK
    cases Maps.has D (KLit x) <;> rfl
  refine hK w' ⟨D.put (KLit x) (.lit (.int .i64 i)), ?_, ?_, fun y hy => ?_⟩ ht
  · obtain ⟨es, cl, g1, g2, g3, g4⟩ := h1'
    refine ⟨es, cl, g1, g2, ?_, g4⟩
    have : Maps.size (D.put (KLit x) (.lit (.int .i64 i))) = es.size := by
      rw [g4]
      show ((es.toList.map (WideElems.rg P k (plainElem P e))).foldr DataW.insert []).length = es.size
      rw [length_sorted]
      simp
    rw [hsz, hh, h2] at this
    omega
  · rw [hsz, hh, h2]
  · dsimp only
    by_cases hyx : y = x
    · subst hyx
      rw [if_pos rfl]
      unfold viewK
      rw [Maps.has_put_same h1.isMap (K.keyed.key (K.key y hy)), if_pos rfl, Maps.atKey_put_same h1.isMap (K.keyed.key (K.key y hy))]
      rfl
    · have hne : KLit y ≠ KLit x := fun e => hyx (K.inj hy hw e)
      rw [if_neg hyx, h3 y hy]
      unfold viewK
      rw [Maps.has_put_other hne, Maps.atKey_put_other hne]
/-- 'delete(m, k)'. -/
theorem wpList_delK (hg : o.guard = none) (mo xo : Operand) (hop : o.op = Op.call { callee := Callee.builtin Builtin.delete, args := #[mo, xo], argTypes := #[t, k] }) (K : Key3 P t k e) (hm : a.eval mo = .map (some m)) (h : MapK P k e w m c S) {x : K3} (hx : a.eval xo = kv x) (hw : wf3 x)
    (hK : ∀ w', MapK P k e w' m (if (S x).isSome then c - 1 else c) (fun y => if y = x then none else S y) → w.mapTurned w' m → wpList P ops Q rest (a.put o.dst (.tuple #[])) w') : wpList P ops Q (o :: rest) a w := by
  obtain ⟨D, h1, h2, h3⟩ := h
  refine wpList_delete_own w hg mo xo t k hop e K.keyed K.map (plainElem P e) m c D hm h1 (kv x) (KLit x) hx (K.key x hw) ?_
  intro w' h1' ht
  have ht2 := h1.tidy K.keyed
  have hsz := Maps.size_del (k := KLit x) ht2
  have hS := h3 x hw
  have hh : Maps.has D (KLit x) = (S x).isSome := by
    rw [hS]; unfold viewK
    cases Maps.has D (KLit x) <;> rfl
  have hc' : Maps.size (D.del (KLit x)) = if (S x).isSome then c - 1 else c := by
    rw [hh, h2] at hsz
    split at hsz
    · rename_i hq; rw [if_pos hq]; omega
    · rename_i hq; rw [if_neg hq]; omega
  refine hK w' ⟨D.del (KLit x), ?_, hc', fun y hy => ?_⟩ ht
  · obtain ⟨es, cl, g1, g2, g3, g4⟩ := h1'
    refine ⟨es, cl, g1, g2, ?_, g4⟩
    have : Maps.size (D.del (KLit x)) = es.size := by
      rw [g4]
      show ((es.toList.map (WideElems.rg P k (plainElem P e))).foldr DataW.insert []).length = es.size
      rw [length_sorted]
      simp
    omega
  · dsimp only
    by_cases hyx : y = x
    · subst hyx
      rw [if_pos rfl]
      unfold viewK
      rw [Maps.has_del_same, if_neg (by decide)]
    · have hne : KLit y ≠ KLit x := fun e => hyx (K.inj hy hw e)
      rw [if_neg hyx, h3 y hy]
      unfold viewK
      rw [Maps.has_del_other hne, Maps.atKey_del_other hne]
end Go.Proofs.Ytjjmjbemflhlbaa.Hp
