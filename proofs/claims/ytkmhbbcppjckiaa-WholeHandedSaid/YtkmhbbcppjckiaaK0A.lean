/- A map from keys of three numbers to numbers, as a function of the key; its laws for the walk. Of no program. -/
import Derived.Maps.RangeWalk
import Derived.Maps.OwnSet
import Derived.Maps.Views
import Derived.Below
import Derived.Lib.Hide
import Derived.DeepKeys5
import Derived.Laws.Rows
import Derived.Deep.MidRow
import Derived.WalkLawsBesides
import Derived.WalkSpells
import Derived.Handy
import Derived.Outline
namespace Go.Proofs.Ytkmhbbcppjckiaa.Hp
open Go Go.RowKit Go.ChangeMaps Go.MapKept
open Go.Maps (Keyed)
set_option linter.unusedVariables false
set_option linter.unusedSimpArgs false
abbrev K3 := Int × Int × Int
def kv (x : K3) : Value := .agg #[.int .i64 x.1, .int .i64 x.2.1, .int .i64 x.2.2]
def KLit (x : K3) : Lit := .string (keyBytes [.int .i64 x.1, .int .i64 x.2.1, .int .i64 x.2.2])
def i64wf (n : Int) : Prop := (Lit.int .i64 n).wf = true
def wf3 (x : K3) : Prop := i64wf x.1 ∧ i64wf x.2.1 ∧ i64wf x.2.2
/-- What a program's map of places must be. -/
structure Key3 (P : Program) (t k e : TypeId) : Prop where
  keyed : Keyed P k
  map : P.underlying t = some (.map k e)
  elem : P.underlying e = some (.int .i64)
  zero : ∀ w, (zeroValue e).run P w = .ok (.int .i64 0) w
  key : ∀ x, wf3 x → keyOf P k (kv x) = some (KLit x)
theorem kv_inj {x y : K3} (h : kv x = kv y) : x = y := by
  obtain ⟨a, b, c⟩ := x
  obtain ⟨p, q, r⟩ := y
  simpa [kv] using h
theorem Key3.inj {P : Program} {t k e : TypeId} (K : Key3 P t k e) {x y : K3} (hx : wf3 x) (hy : wf3 y) (h : KLit x = KLit y) : x = y :=
  kv_inj (K.keyed.inj (K.key x hx) (by rw [h]; exact K.key y hy))
def litI (d : DataW Unit) : Int := match d with
  | .lit (.int _ n) => n
  | _ => 0
def viewK (D : DataW Unit) (x : K3) : Option Int := if Maps.has D (KLit x) = true then some (litI (D.atKey (KLit x) (.lit (.int .i64 0)))) else none
/-- Block m is a map of c places, S at each key. -/
def MapK (P : Program) (k e : TypeId) (w : World) (m c : Nat) (S : K3 → Option Int) : Prop := ∃ D : DataW Unit, w.ownsMap P k (plainElem P e) m c D ∧ Maps.size D = c ∧ ∀ x, wf3 x → S x = viewK D x
variable {P : Program} {t k e : TypeId} {w : World} {m c : Nat} {S : K3 → Option Int}
theorem MapK.made (w : World) : MapK P k e (w.alloc (.map #[] 0)) w.heap.size 0 (fun _ => none) := ⟨.map [], World.ownsMap_made w P k _, rfl, fun x _ => rfl⟩
theorem MapK.keep {w' : World} (h : MapK P k e w m c S) (hb : w'.heap[m]? = w.heap[m]?) : MapK P k e w' m c S := by
  obtain ⟨D, ⟨es, cl, h1, h2⟩, h3⟩ := h
  exact ⟨D, ⟨es, cl, hb.trans h1, h2⟩, h3⟩
theorem MapK.lt (h : MapK P k e w m c S) : m < w.heap.size := by
  obtain ⟨D, h1, h2⟩ := h
  exact h1.lt
theorem MapK.ext {S' : K3 → Option Int} (h : MapK P k e w m c S) (he : ∀ x, wf3 x → S' x = S x) : MapK P k e w m c S' := by
  obtain ⟨D, h1, h2, h3⟩ := h
  exact ⟨D, h1, h2, fun x hx => (he x hx).trans (h3 x hx)⟩
theorem MapK.ne (h : MapK P k e w m c S) {g : Nat} {cs : Array Value} {ty : TypeId} {fr : Nat × Nat} (hg : w.heap[g]? = some (.cells cs ty fr)) : m ≠ g := by
  obtain ⟨D, ⟨es, cl, h1, h2⟩, h3⟩ := h
  rintro rfl
  rw [hg] at h1
  cases h1
variable {ops : Array Oper} {rest : List Oper} {o : Oper} {a : Act} {Q : Exit → Act → World → Prop}
/-- 'i, ok := m[k]'. -/
theorem wpList_lookK (hg : o.guard = none) (mo xo : Operand) (hop : o.op = Op.lookup t mo xo true) (K : Key3 P t k e) (hm : a.eval mo = .map (some m)) (h : MapK P k e w m c S) {x : K3} (hx : a.eval xo = kv x) (hw : wf3 x)
    (n : Int) (b : Bool) (hl : ∀ i, S x = some i → n = i) (hn : S x = none → n = 0) (hb : b = (S x).isSome) (hK : wpList P ops Q rest (a.put o.dst (.tuple #[.int .i64 n, .bool b])) w) : wpList P ops Q (o :: rest) a w := by
  obtain ⟨D, h1, _, h3⟩ := h
  have hS := h3 x hw
  refine wpList_lookup_own_ok_int w hg mo xo t hop k e .i64 K.keyed K.map K.elem (K.zero w) m c D hm h1 (kv x) (KLit x) hx (K.key x hw) ?_
  intro i hi _
  unfold viewK at hS
  have e1 : Maps.has D (KLit x) = b := by
    rw [hb, hS]
    cases Maps.has D (KLit x) <;> rfl
  have e2 : i = n := by
    cases hh : Maps.has D (KLit x) with
    | true =>
      rw [hh, if_pos rfl, hi] at hS
      exact (hl _ hS).symm
    | false =>
      rw [hh, if_neg (by decide)] at hS
      rw [hn hS]
      have := Maps.atKey_of_not_has hh (.lit (.int .i64 0))
      rw [hi] at this
      injection this with this
      injection this
  rw [e1, e2]
  exact hK
/-- 'm[k] = i'. -/
theorem wpList_putK (hg : o.guard = none) (mo xo vo : Operand) (hop : o.op = Op.mapUpdate t mo xo vo) (K : Key3 P t k e) (hm : a.eval mo = .map (some m)) (h : MapK P k e w m c S) (hc : c < maxLen) {x : K3} (hx : a.eval xo = kv x) (hw : wf3 x) {i : Int} (hv : a.eval vo = .int .i64 i) (hi : i64wf i)
    (hK : ∀ w', MapK P k e w' m (if (S x).isSome then c else c + 1) (fun y => if y = x then some i else S y) → w.mapTurned w' m → wpList P ops Q rest (a.put o.dst undef) w') : wpList P ops Q (o :: rest) a w := by
  obtain ⟨D, h1, h2, h3⟩ := h
  refine wpList_mapUpdate_in w hg mo xo vo t hop k e K.keyed K.map (plainElem P e) m c D hm h1 hc (kv x) (.int .i64 i) (KLit x) hx hv (K.key x hw) (.lit (.int .i64 i)) [] (plainElem_int K.elem hi) ?_
  intro w' h1' ht
  have ht2 := h1.tidy K.keyed
  have hsz := Maps.size_put (k := KLit x) ht2 (.lit (.int .i64 i))
  have hS := h3 x hw
  have hh : Maps.has D (KLit x) = (S x).isSome := by
    rw [hS]; unfold viewK
    cases Maps.has D (KLit x) <;> rfl
  refine hK w' ⟨D.put (KLit x) (.lit (.int .i64 i)), ?_, ?_, fun y hy => ?_⟩ ht
  · obtain ⟨es, cl, g1, g2, g3, g4⟩ := h1'
    refine ⟨es, cl, g1, g2, ?_, g4⟩
    have : Maps.size (D.put (KLit x) (.lit (.int .i64 i))) = es.size := by
      rw [g4]
      show ((es.toList.map (WideElems.rg P k (plainElem P e))).foldr DataW.insert []).length = es.size
      rw [length_sorted]
      simp
    rw [hsz, hh, h2] at this
    omega
  · rw [hsz, hh, h2]
  · dsimp only
    by_cases hyx : y = x
    · subst hyx
      rw [if_pos rfl]
      unfold viewK
      rw [Maps.has_put_same h1.isMap (K.keyed.key (K.key y hy)), if_pos rfl, Maps.atKey_put_same h1.isMap (K.keyed.key (K.key y hy))]
      rfl
    · have hne : KLit y ≠ KLit x := fun e => hyx (K.inj hy hw e)
      rw [if_neg hyx, h3 y hy]
      unfold viewK
      rw [Maps.has_put_other hne, Maps.atKey_put_other hne]
/-- 'delete(m, k)'. -/
theorem wpList_delK (hg : o.guard = none) (mo xo : Operand) (hop : o.op = Op.call { callee := Callee.builtin Builtin.delete, args := #[mo, xo], argTypes := #[t, k] }) (K : Key3 P t k e) (hm : a.eval mo = .map (some m)) (h : MapK P k e w m c S) {x : K3} (hx : a.eval xo = kv x) (hw : wf3 x)
    (hK : ∀ w', MapK P k e w' m (if (S x).isSome then c - 1 else c) (fun y => if y = x then none else S y) → w.mapTurned w' m → wpList P ops Q rest (a.put o.dst (.tuple #[])) w') : wpList P ops Q (o :: rest) a w := by
  obtain ⟨D, h1, h2, h3⟩ := h
  refine wpList_delete_own w hg mo xo t k hop e K.keyed K.map (plainElem P e) m c D hm h1 (kv x) (KLit x) hx (K.key x hw) ?_
  intro w' h1' ht
  have ht2 := h1.tidy K.keyed
  have hsz := Maps.size_del (k := KLit x) ht2
  have hS := h3 x hw
  have hh : Maps.has D (KLit x) = (S x).isSome := by
    rw [hS]; unfold viewK
    cases Maps.has D (KLit x) <;> rfl
  have hc' : Maps.size (D.del (KLit x)) = if (S x).isSome then c - 1 else c := by
    rw [hh, h2] at hsz
    split at hsz
    · rename_i hq; rw [if_pos hq]; omega
    · rename_i hq; rw [if_neg hq]; omega
  refine hK w' ⟨D.del (KLit x), ?_, hc', fun y hy => ?_⟩ ht
  · obtain ⟨es, cl, g1, g2, g3, g4⟩ := h1'
    refine ⟨es, cl, g1, g2, ?_, g4⟩
    have : Maps.size (D.del (KLit x)) = es.size := by
      rw [g4]
      show ((es.toList.map (WideElems.rg P k (plainElem P e))).foldr DataW.insert []).length = es.size
      rw [length_sorted]
      simp
    omega
  · dsimp only
    by_cases hyx : y = x
    · subst hyx
      rw [if_pos rfl]
      unfold viewK
      rw [Maps.has_del_same, if_neg (by decide)]
    · have hne : KLit y ≠ KLit x := fun e => hyx (K.inj hy hw e)
      rw [if_neg hyx, h3 y hy]
      unfold viewK
      rw [Maps.has_del_other hne, Maps.atKey_del_other hne]
end Go.Proofs.Ytkmhbbcppjckiaa.Hp
/- A map of sectors in memory (a map from int to 128 bytes), as a function of the key; its laws for the walk. -/
namespace Go.Proofs.Ytkmhbbcppjckiaa.Dk
open Go Go.RowKit Go.ChangeMaps Go.MapKept
open Go.WideElems (Fit rd rg pl)
open Go.Maps (Keyed)
set_option linter.unusedVariables false
set_option linter.unusedSimpArgs false

/-- A byte as a cell; bytes as cells. -/
def bv (b : UInt8) : Value := .int .u8 (b.toNat : Int)
def bvs (l : List UInt8) : List Value := l.map bv
theorem bvs_length (l : List UInt8) : (bvs l).length = l.length := by simp [bvs]
theorem bvs_append (a b : List UInt8) : bvs (a ++ b) = bvs a ++ bvs b := by simp [bvs]
theorem bvs_one (l : List UInt8) : ∀ u ∈ bvs l, u.oneCell' = true := by
  intro u hu
  obtain ⟨_, _, rfl⟩ := List.mem_map.1 hu
  rfl
theorem bvs_get (l : List UInt8) (j : Nat) (h : j < l.length) : (bvs l)[j]? = some (bv l[j]) := by simp [bvs, h]

def byteOf : Value → Option UInt8
  | .int .u8 n => if 0 ≤ n ∧ n < 256 then some (UInt8.ofNat n.toNat) else none
  | _ => none
theorem byteOf_bv (b : UInt8) : byteOf (bv b) = some b := by
  have := b.toNat_lt
  simp [byteOf, bv]
  omega
theorem byteOf_inv {v : Value} {b : UInt8} (h : byteOf v = some b) : v = bv b := by
  unfold byteOf at h
  split at h
  · rename_i n
    split at h
    · rename_i hn
      cases h
      simp [bv]
      omega
    · cases h
  · cases h
theorem mapM_bvs : ∀ l : List UInt8, (bvs l).mapM byteOf = some l
  | [] => rfl
  | b :: l => by
    have ih := mapM_bvs l
    simp only [bvs, List.map_cons, List.mapM_cons, byteOf_bv] at ih ⊢
    rw [ih]
    rfl
theorem mapM_inv : ∀ {vs : List Value} {l : List UInt8}, vs.mapM byteOf = some l → vs = bvs l
  | [], l, h => by cases h; rfl
  | v :: vs, l, h => by
    simp only [List.mapM_cons] at h
    cases hb : byteOf v with
    | none => rw [hb] at h; cases h
    | some b =>
      cases hr : vs.mapM byteOf with
      | none => rw [hb, hr] at h; cases h
      | some r =>
        rw [hb, hr] at h
        cases h
        rw [byteOf_inv hb, mapM_inv hr]
        rfl

/-- How a sector reads. -/
def secElem (v : Value) : Option (DataW Unit × List MemPlace) := match v with
  | .agg a => match a.toList.mapM byteOf with
    | some l => if l.length = 128 then some (.lit (.string l), []) else none
    | none => none
  | _ => none
theorem secElem_mk {l : List UInt8} (h : l.length = 128) : secElem (.agg (bvs l).toArray) = some (.lit (.string l), []) := by simp [secElem, mapM_bvs, h]
theorem secElem_inv {v : Value} {y : DataW Unit × List MemPlace} (h : secElem v = some y) : ∃ l : List UInt8, l.length = 128 ∧ v = .agg (bvs l).toArray ∧ y = (.lit (.string l), []) := by
  unfold secElem at h
  split at h
  · rename_i a
    split at h
    · rename_i l hl
      split at h
      · rename_i h128
        cases h
        exact ⟨l, h128, by rw [← mapM_inv hl], rfl⟩
      · cases h
    · cases h
  · cases h

def zeros : List UInt8 := List.replicate 128 0
theorem zeros_length : zeros.length = 128 := by simp [zeros]
def zd : DataW Unit := .lit (.string zeros)
def litBytes (d : DataW Unit) : List UInt8 := match d with
  | .lit (.string l) => l
  | _ => []
def wfi (x : Int) : Prop := (Lit.int .i64 x).wf = true
def viewAt (D : DataW Unit) (x : Int) : Option (List UInt8) := if Maps.has D (.int .i64 x) = true then some (litBytes (D.atKey (.int .i64 x) zd)) else none
theorem viewAt_put {D : DataW Unit} (hD : Maps.IsMap D) (x : Int) (l : List UInt8) (y : Int) : viewAt (D.put (.int .i64 x) (.lit (.string l))) y = if y = x then some l else viewAt D y := by
  by_cases h : y = x
  · subst h
    rw [if_pos rfl]
    unfold viewAt
    rw [Maps.has_put_same (k := .int .i64 y) hD (by trivial), Maps.atKey_put_same (k := .int .i64 y) hD (by trivial)]
    simp [litBytes]
  · have hne : Lit.int .i64 y ≠ Lit.int .i64 x := by intro e; cases e; exact h rfl
    rw [if_neg h]
    unfold viewAt
    rw [Maps.has_put_other hne, Maps.atKey_put_other hne]

/-- Block m is a map of at most n sectors, S at each key. -/
def MapIs (P : Program) (k : TypeId) (w : World) (m n : Nat) (S : Int → Option (List UInt8)) : Prop := ∃ D : DataW Unit, w.ownsMap P k secElem m n D ∧ ∀ x, wfi x → S x = viewAt D x

variable {P : Program} {k t e : TypeId} {w : World} {m n : Nat} {S : Int → Option (List UInt8)}
theorem MapIs.made (w : World) : MapIs P k (w.alloc (.map #[] 0)) w.heap.size 0 (fun _ => none) := ⟨.map [], World.ownsMap_made w P k secElem, fun x _ => rfl⟩
theorem MapIs.keep {w' : World} (h : MapIs P k w m n S) (hb : w'.heap[m]? = w.heap[m]?) : MapIs P k w' m n S := by
  obtain ⟨D, ⟨es, c, h1, h2⟩, h3⟩ := h
  exact ⟨D, ⟨es, c, hb.trans h1, h2⟩, h3⟩
theorem MapIs.mono {n' : Nat} (h : MapIs P k w m n S) (hn : n ≤ n') : MapIs P k w m n' S := by
  obtain ⟨D, h1, h2⟩ := h
  exact ⟨D, h1.mono hn, h2⟩
theorem MapIs.lt (h : MapIs P k w m n S) : m < w.heap.size := by
  obtain ⟨D, h1, h2⟩ := h
  exact h1.lt
theorem MapIs.alloc (h : MapIs P k w m n S) (o : Obj) : MapIs P k (w.alloc o) m n S := h.keep (Below.heap_alloc w o m h.lt)
theorem MapIs.drew (h : MapIs P k w m n S) : MapIs P k w.drew m n S := h
theorem MapIs.ext {S' : Int → Option (List UInt8)} (h : MapIs P k w m n S) (e : ∀ x, wfi x → S' x = S x) : MapIs P k w m n S' := by
  obtain ⟨D, h1, h2⟩ := h
  exact ⟨D, h1, fun x hx => (e x hx).trans (h2 x hx)⟩
/-- It is a map, no row of cells. -/
theorem MapIs.ne (h : MapIs P k w m n S) {g : Nat} {cs : Array Value} {ty : TypeId} {fr : Nat × Nat} (hg : w.heap[g]? = some (.cells cs ty fr)) : m ≠ g := by
  obtain ⟨D, ⟨es, c, h1, h2⟩, h3⟩ := h
  rintro rfl
  rw [hg] at h1
  cases h1
theorem keyOf_i (hk : P.underlying k = some (.int .i64)) {x : Int} (hx : wfi x) : keyOf P k (.int .i64 x) = some (.int .i64 x) := Maps.keyOf_int_mk hk hx

variable {ops : Array Oper} {rest : List Oper} {o : Oper} {a : Act} {Q : Exit → Act → World → Prop}
/-- 'b, ok := m[x]'. -/
theorem wpList_look (w : World) (hg : o.guard = none) (mo xo : Operand) (t : TypeId) (hop : o.op = Op.lookup t mo xo true)
    (hk : P.underlying k = some (.int .i64)) (ht : P.underlying t = some (.map k e)) (hz : (zeroValue e).run P w = .ok (.agg (bvs zeros).toArray) w)
    (hm : a.eval mo = .map (some m)) (h : MapIs P k w m n S) {x : Int} (hx : a.eval xo = .int .i64 x) (hw : wfi x) (l : List UInt8) (b : Bool)
    (hl : ∀ l', l'.length = 128 → (S x = some l' ∨ S x = none ∧ l' = zeros) → l = l') (hb : b = (S x).isSome)
    (hK : wpList P ops Q rest (a.put o.dst (.tuple #[.agg (bvs l).toArray, .bool b])) w) :
    wpList P ops Q (o :: rest) a w := by
  obtain ⟨D, h1, h2⟩ := h
  have hS := h2 x hw
  refine wpList_lookup_own_ok w hg mo xo t hop k e (Maps.int_keyed hk) ht secElem hz zd [] (secElem_mk zeros_length) m n D hm h1 _ (.int .i64 x) hx (keyOf_i hk hw) ?_
  intro v ps hv
  obtain ⟨l', h128, rfl, hy⟩ := secElem_inv hv
  have hat : D.atKey (.int .i64 x) zd = .lit (.string l') := congrArg Prod.fst hy
  have hb' : Maps.has D (.int .i64 x) = b := by
    rw [hb, hS]
    unfold viewAt
    cases Maps.has D (.int .i64 x) <;> simp
  rw [hb', ← hl l' h128 ?_]
  · exact hK
  · cases hh : Maps.has D (.int .i64 x) with
    | true => left; rw [hS]; unfold viewAt; rw [if_pos hh, hat]; rfl
    | false =>
      right
      refine ⟨by rw [hS]; unfold viewAt; simp [hh], ?_⟩
      have := Maps.atKey_of_not_has hh zd
      rw [hat] at this
      unfold zd at this
      cases this
      rfl
theorem wpList_look_some (w : World) (hg : o.guard = none) (mo xo : Operand) (t : TypeId) (hop : o.op = Op.lookup t mo xo true)
    (hk : P.underlying k = some (.int .i64)) (ht : P.underlying t = some (.map k e)) (hz : (zeroValue e).run P w = .ok (.agg (bvs zeros).toArray) w)
    (hm : a.eval mo = .map (some m)) (h : MapIs P k w m n S) {x : Int} (hx : a.eval xo = .int .i64 x) (hw : wfi x) {l : List UInt8} (hl : S x = some l)
    (hK : wpList P ops Q rest (a.put o.dst (.tuple #[.agg (bvs l).toArray, .bool true])) w) :
    wpList P ops Q (o :: rest) a w :=
  wpList_look w hg mo xo t hop hk ht hz hm h hx hw l true (fun l' _ hl' => by
    rcases hl' with h1 | ⟨h1, _⟩
    · rw [hl] at h1; cases h1; rfl
    · rw [hl] at h1; cases h1) (by rw [hl]; rfl) hK
theorem wpList_look_none (w : World) (hg : o.guard = none) (mo xo : Operand) (t : TypeId) (hop : o.op = Op.lookup t mo xo true)
    (hk : P.underlying k = some (.int .i64)) (ht : P.underlying t = some (.map k e)) (hz : (zeroValue e).run P w = .ok (.agg (bvs zeros).toArray) w)
    (hm : a.eval mo = .map (some m)) (h : MapIs P k w m n S) {x : Int} (hx : a.eval xo = .int .i64 x) (hw : wfi x) (hl : S x = none)
    (hK : wpList P ops Q rest (a.put o.dst (.tuple #[.agg (bvs zeros).toArray, .bool false])) w) :
    wpList P ops Q (o :: rest) a w :=
  wpList_look w hg mo xo t hop hk ht hz hm h hx hw zeros false (fun l' _ hl' => by
    rcases hl' with h1 | ⟨_, h1⟩
    · rw [hl] at h1; cases h1
    · exact h1.symm) (by rw [hl]; rfl) hK
/-- What it holds is 128 bytes. -/
theorem MapIs.len (h : MapIs P k w m n S) (hk : P.underlying k = some (.int .i64)) (ht : P.underlying t = some (.map k e)) (hz : (zeroValue e).run P w = .ok (.agg (bvs zeros).toArray) w) {x : Int} (hw : wfi x) {l : List UInt8} (hl : S x = some l) : l.length = 128 := by
  obtain ⟨D, h1, h2⟩ := h
  have hS := h2 x hw
  obtain ⟨v, ps, _, hv⟩ := h1.look_ok (Maps.int_keyed hk) ht hz (secElem_mk zeros_length) (keyOf_i hk hw)
  obtain ⟨l', h128, _, hy⟩ := secElem_inv hv
  have hat : D.atKey (.int .i64 x) zd = .lit (.string l') := congrArg Prod.fst hy
  rw [hl] at hS
  unfold viewAt at hS
  rw [hat] at hS
  split at hS
  · cases hS; exact h128
  · cases hS
/-- What a call leaves that turns block m alone. -/
def Turned (w w' : World) (m : Nat) : Prop := w.mapTurned w' m
/-- 'm[x] = b'. -/
theorem wpList_put (w : World) (hg : o.guard = none) (mo xo vo : Operand) (t : TypeId) (hop : o.op = Op.mapUpdate t mo xo vo)
    (hk : P.underlying k = some (.int .i64)) (ht : P.underlying t = some (.map k e)) (hm : a.eval mo = .map (some m)) (h : MapIs P k w m n S) (hn : n < maxLen)
    {x : Int} (hx : a.eval xo = .int .i64 x) (hw : wfi x) {l : List UInt8} (hl : l.length = 128) (hv : a.eval vo = .agg (bvs l).toArray)
    (hK : ∀ w', MapIs P k w' m (n + 1) (fun y => if y = x then some l else S y) → w.mapTurned w' m → wpList P ops Q rest (a.put o.dst undef) w') :
    wpList P ops Q (o :: rest) a w := by
  obtain ⟨D, h1, h2⟩ := h
  refine wpList_mapUpdate_in w hg mo xo vo t hop k e (Maps.int_keyed hk) ht secElem m n D hm h1 hn _ _ (.int .i64 x) hx hv (keyOf_i hk hw) (.lit (.string l)) [] (secElem_mk hl) ?_
  intro w' h1' ht'
  refine hK w' ⟨_, h1', fun y hy => ?_⟩ ht'
  rw [viewAt_put h1.isMap, ← h2 y hy]
/-- 'clear(m)'. -/
theorem wpList_clear (w : World) (hg : o.guard = none) (mo : Operand) (t : TypeId) (hop : o.op = Op.call { callee := Callee.builtin Builtin.clear, args := #[mo], argTypes := #[t] })
    (ht : P.underlying t = some (.map k e)) (hm : a.eval mo = .map (some m)) (h : MapIs P k w m n S)
    (hK : ∀ w', MapIs P k w' m 0 (fun _ => none) → w.mapTurned w' m → wpList P ops Q rest (a.put o.dst (.tuple #[])) w') :
    wpList P ops Q (o :: rest) a w := by
  obtain ⟨D, ⟨es, c, hb, F, hs, hD⟩, h2⟩ := h
  refine wpList_plain hg fun K' hK' => ?_
  have hrun : (Builtin.clear_ #[t] o.type #[.map (some m)]).run P w = .ok (.tuple #[]) (setBlock w m (.map #[] c)) := by
    simp [Builtin.clear_, run_underlying ht, MapKept.run_getObj_map hb, MapKept.run_setObj_map _ hb, Result.andThen, setBlock]
  unfold Oper.wp
  simp [execOp, hop, resolve, invoke, builtin, hm, hrun, Result.andThen]
  refine hK' _ _ (hK _ ⟨.map [], ⟨#[], c, heap_setBlock_same hb _, ?_, by simp, rfl⟩, fun x _ => rfl⟩ ⟨es, c, #[], c, hb, rfl⟩)
  exact ⟨by simp, stamped_empty c, by simp⟩
/-- A range over a map under way: left: the keys that are still to come. -/
def MapRange (P : Program) (k : TypeId) (w : World) (m r n : Nat) (S : Int → Option (List UInt8)) (left : Int → Bool) (cnt : Nat) : Prop :=
  ∃ (D : DataW Unit) (L : Lit → Bool), w.ranges P k secElem m r n D L cnt ∧ (∀ x, wfi x → S x = viewAt D x) ∧ (∀ x, wfi x → left x = L (.int .i64 x))
theorem MapRange.is {r cnt : Nat} {left : Int → Bool} (h : MapRange P k w m r n S left cnt) : MapIs P k w m n S := by
  obtain ⟨D, L, h1, h2, _⟩ := h
  exact ⟨D, h1.owns, h2⟩
theorem MapRange.left_eq {r cnt : Nat} {left : Int → Bool} (h : MapRange P k w m r n S left cnt) : w.rangeLeft m r = cnt := by
  obtain ⟨D, L, h1, h2, _⟩ := h
  exact h1.left_eq
theorem MapRange.lt {r cnt : Nat} {left : Int → Bool} (h : MapRange P k w m r n S left cnt) : r < w.heap.size := by
  obtain ⟨D, L, h1, h2, _⟩ := h
  exact h1.lt
theorem MapRange.keep {w' : World} {r cnt : Nat} {left : Int → Bool} (h : MapRange P k w m r n S left cnt) (hm : w'.heap[m]? = w.heap[m]?) (hr : w'.heap[r]? = w.heap[r]?) : MapRange P k w' m r n S left cnt := by
  obtain ⟨D, L, ⟨es, c, si, se, c0, h1, h2, h3, h4, h5, h6⟩, h7⟩ := h
  exact ⟨D, L, ⟨es, c, si, se, c0, hm.trans h1, h2, h3, h4, hr.trans h5, h6⟩, h7⟩
theorem wpList_range (w : World) (hg : o.guard = none) (mo : Operand) (t : TypeId) (hop : o.op = Op.range t mo)
    (hk : P.underlying k = some (.int .i64)) (ht : P.underlying t = some (.map k e)) (hm : a.eval mo = .map (some m)) (h : MapIs P k w m n S)
    (hK : ∀ w' cnt, MapRange P k w' m w.heap.size n S (fun x => (S x).isSome) cnt → w.grownBy w' none → w'.heap.size = w.heap.size + 1 → wpList P ops Q rest (a.put o.dst (.pointer (some ⟨w.heap.size, 0, none⟩))) w') :
    wpList P ops Q (o :: rest) a w := by
  obtain ⟨D, h1, h2⟩ := h
  refine wpList_range_own w hg mo t hop k e (Maps.int_keyed hk) ht secElem m n D hm h1 ?_
  intro w' hr hg hs
  refine hK w' _ ⟨D, _, hr, h2, fun x hx => ?_⟩ hg hs
  show (S x).isSome = _
  rw [h2 x hx]
  unfold viewAt
  cases Maps.has D (.int .i64 x) <;> simp
theorem wpList_next (w : World) (hg : o.guard = none) (it : Operand) (hop : o.op = Op.next it false) (hk : P.underlying k = some (.int .i64))
    {r cnt : Nat} {left : Int → Bool} (hit : a.eval it = .pointer (some ⟨r, 0, none⟩)) (h : MapRange P k w m r n S left cnt)
    (hDone : cnt = 0 → (∀ x, wfi x → left x = false) → wpList P ops Q rest (a.put o.dst (.tuple #[.bool false])) w)
    (hMore : ∀ (x : Int) (l : List UInt8) (w' : World) (cnt' : Nat), wfi x → l.length = 128 → S x = some l → left x = true → MapRange P k w' m r n S (fun y => left y && !decide (y = x)) cnt' → cnt' < cnt →
      w.grownBy w' (some r) → w'.heap.size = w.heap.size → (Instr.entry (.pointer (some ⟨r, 0, none⟩))).run P w' = .ok (.tuple #[.int .i64 x, .agg (bvs l).toArray]) w' → wpList P ops Q rest (a.put o.dst (.tuple #[.bool true, .int .i64 x, .agg (bvs l).toArray])) w') :
    wpList P ops Q (o :: rest) a w := by
  obtain ⟨D, L, h1, h2, h3⟩ := h
  refine wpList_next_ranges w hg it hop k (Maps.int_keyed hk) secElem (Value.int .i64) (fun l : List UInt8 => .agg (bvs l).toArray)
    (fun key kl hkey => by obtain ⟨x, rfl, _⟩ := Maps.keyOf_int_inv hk hkey; exact ⟨x, rfl⟩) (fun v y hv => by obtain ⟨l, _, rfl, _⟩ := secElem_inv hv; exact ⟨l, rfl⟩)
    m r n D L cnt hit h1 (fun h0 hl => hDone h0 (fun x hx => (h3 x hx).trans (hl _))) ?_
  intro x l kl y w' cnt' hkey hlk hv hat hrg hlt hgr hsz hen
  obtain ⟨x', ex, rfl, hwx⟩ := Maps.keyOf_int_inv hk hkey
  cases ex
  obtain ⟨l', h128, el, hy⟩ := secElem_inv hv
  have el' : l = l' := by
    have := congrArg (fun v => match v with | Value.agg a => a.toList.mapM byteOf | _ => none) el
    simpa [mapM_bvs] using this
  subst el'
  have hhas := Maps.has_true_of_atKey hat
  refine hMore x l w' cnt' hwx h128 ?_ ((h3 x hwx).trans hlk) ⟨D, _, hrg, h2, fun z hz => ?_⟩ hlt hgr hsz hen
  · rw [h2 x hwx]
    unfold viewAt
    rw [if_pos hhas, hat, hy]
    rfl
  · show (left z && !decide (z = x)) = _
    rw [h3 z hz]
    simp [Lit.sameKey]
end Go.Proofs.Ytkmhbbcppjckiaa.Dk
/- What calls leave that turn some blocks alone. -/
namespace Go.Proofs.Ytkmhbbcppjckiaa.Dk
open Go Go.RowKit
set_option linter.unusedVariables false
set_option linter.unusedSimpArgs false

/-- From w to w' no block is turned but those of which T is true, and new ones. -/
structure Frm (T : Nat → Prop) (w w' : World) : Prop where
  os : w'.os = w.os
  tape : w'.tape = w.tape
  output : w'.output = w.output
  size : w.heap.size ≤ w'.heap.size
  block : ∀ k, k < w.heap.size → ¬ T k → w'.heap[k]? = w.heap[k]?
variable {T T' : Nat → Prop} {a w w' : World}
theorem Frm.refl (T : Nat → Prop) (w : World) : Frm T w w := ⟨rfl, rfl, rfl, Nat.le_refl _, fun _ _ _ => rfl⟩
theorem Frm.transT (h : Frm T a w) (k : Frm T' w w') (hT : ∀ i, i < a.heap.size → T' i → T i) : Frm T a w' :=
  ⟨k.os.trans h.os, k.tape.trans h.tape, k.output.trans h.output, Nat.le_trans h.size k.size, fun i hi hn => (k.block i (Nat.lt_of_lt_of_le hi h.size) (fun ht => hn (hT i hi ht))).trans (h.block i hi hn)⟩
theorem Frm.trans (h : Frm T a w) (k : Frm T w w') : Frm T a w' := h.transT k (fun _ _ h => h)
theorem Frm.mono (h : Frm T a w) (hT : ∀ i, i < a.heap.size → T i → T' i) : Frm T' a w := ⟨h.os, h.tape, h.output, h.size, fun i hi hn => h.block i hi (fun ht => hn (hT i hi ht))⟩
theorem Frm.drew (h : Frm T a w) : Frm T a w.drew := ⟨h.os, h.tape, h.output, h.size, h.block⟩
theorem Frm.drewN (h : Frm T a w) (n : Nat) : Frm T a (w.drewN n) := ⟨h.os, h.tape, h.output, h.size, h.block⟩
theorem Frm.alloc (h : Frm T a w) (o : Obj) : Frm T a (w.alloc o) :=
  ⟨h.os, h.tape, h.output, by simpa using Nat.le_succ_of_le h.size, fun k hk hn => (Below.heap_alloc w o k (Nat.lt_of_lt_of_le hk h.size)).trans (h.block k hk hn)⟩
theorem Frm.setCell (h : Frm T a w) {p : Addr} (hp : T p.block ∨ a.heap.size ≤ p.block) (v : Value) : Frm T a (w.setCell p v) :=
  ⟨h.os, h.tape, h.output, by simpa [World.setCell] using h.size, fun k hk hn => (Below.heap_setCell w _ v k (by rintro rfl; exact hp.elim hn (fun hp => by omega))).trans (h.block k hk hn)⟩
theorem Frm.setRow (h : Frm T a w) {g : Nat} (hp : T g ∨ a.heap.size ≤ g) (cs : Array Value) : Frm T a (w.setRow g cs) :=
  ⟨h.os, h.tape, h.output, by simpa using h.size, fun k hk hn => (setRow_other w g k cs (by rintro rfl; exact hp.elim hn (fun hp => by omega))).trans (h.block k hk hn)⟩
theorem Frm.setCells (h : Frm T a w) {g : Nat} (hp : T g ∨ a.heap.size ≤ g) : ∀ (vs : List Value) (off : Nat), Frm T a (w.setCells g off vs) := by
  intro vs
  induction vs generalizing w with
  | nil => exact fun _ => h
  | cons v vs ih => exact fun off => ih (h.setCell (p := ⟨g, off, none⟩) hp v) (off + 1)
theorem Frm.grown (h : Frm T a w) {row : Option Nat} (hg : w.grownBy w' row) (hr : ∀ j, row = some j → T j ∨ a.heap.size ≤ j) : Frm T a w' :=
  ⟨hg.os.trans h.os, hg.tape.trans h.tape, hg.output.trans h.output, Nat.le_trans h.size hg.size, fun k hk hn => (hg.block k (Nat.lt_of_lt_of_le hk h.size) (fun e => by exact (hr k e.symm).elim hn (fun hr => by omega))).trans (h.block k hk hn)⟩
theorem Frm.turned (h : Frm T a w) {m : Nat} (ht : w.mapTurned w' m) (hm : T m ∨ a.heap.size ≤ m) : Frm T a w' := h.grown ht.grown (fun j e => by cases e; exact hm)
/-- Blocks from B on alone are turned. -/
theorem Frm.below {B : Nat} (h : Frm T a w) (hT : ∀ i, i < a.heap.size → T i → B ≤ i) (hB : B ≤ a.heap.size) : Below B a w := ⟨h.os, h.tape, h.output, h.size, fun k hk => h.block k (by omega) (fun ht => by have := hT k (by omega) ht; omega)⟩
theorem Frm.of_below {B : Nat} (h : Below B a w) (hB : a.heap.size ≤ B) : Frm T a w := ⟨h.os, h.tape, h.output, h.size, fun k hk _ => h.block k (by omega)⟩
theorem Frm.thenBelow {B : Nat} (h : Frm T a w) (k : Below B w w') (hB : w.heap.size ≤ B) : Frm T a w' := h.trans (Frm.of_below k hB)
theorem Frm.row {g : Nat} {x : Option Obj} (h : Frm T a w) (hg : a.heap[g]? = x) (hx : g < a.heap.size) (hn : ¬ T g) : w.heap[g]? = x := (h.block g hx hn).trans hg
theorem below_drewN {B : Nat} {a w : World} (h : Below B a w) (n : Nat) : Below B a (w.drewN n) := ⟨h.os, h.tape, h.output, h.size, h.block⟩
theorem lt_of_row {w : World} {g : Nat} {x : Obj} (h : w.heap[g]? = some x) : g < w.heap.size := (Array.getElem?_eq_some_iff.1 h).1
end Go.Proofs.Ytkmhbbcppjckiaa.Dk
/- A map from keys of three numbers to pointers, as a function of the key; its laws for the walk. Of no program. -/
namespace Go.Proofs.Ytkmhbbcppjckiaa.Qu
open Go Go.RowKit Go.ChangeMaps Go.MapKept
open Go.Maps (Keyed)
open Go.Proofs.Ytkmhbbcppjckiaa.Hp (K3 kv KLit wf3 i64wf kv_inj)
open Go.Proofs.Ytkmhbbcppjckiaa.Dk (Frm)
set_option linter.unusedVariables false
set_option linter.unusedSimpArgs false
/-- A pointer to a whole block, or none. -/
def ptr (q : Option Nat) : Value := match q with
  | none => .pointer none
  | some b => .pointer (some ⟨b, 0, none⟩)
def ptrElem (v : Value) : Option (DataW Unit × List MemPlace) := match v with
  | .pointer none => some (.lit (.int .i64 (-1)), [])
  | .pointer (some ⟨b, 0, none⟩) => some (.lit (.int .i64 (b : Int)), [])
  | _ => none
def ptrD (q : Option Nat) : DataW Unit := match q with
  | none => .lit (.int .i64 (-1))
  | some b => .lit (.int .i64 (b : Int))
theorem ptrElem_mk (q : Option Nat) : ptrElem (ptr q) = some (ptrD q, []) := by cases q <;> rfl
theorem ptrD_inj {p q : Option Nat} (h : ptrD p = ptrD q) : p = q := by
  cases p <;> cases q <;> simp [ptrD] at h ⊢ <;> omega
theorem ptrElem_inv {v : Value} {y : DataW Unit × List MemPlace} (h : ptrElem v = some y) : ∃ q, v = ptr q ∧ y = (ptrD q, []) := by
  unfold ptrElem at h
  split at h
  · cases h; exact ⟨none, rfl, rfl⟩
  · rename_i b; cases h; exact ⟨some b, rfl, rfl⟩
  · cases h
structure KeyP (P : Program) (t k e : TypeId) : Prop where
  keyed : Keyed P k
  map : P.underlying t = some (.map k e)
  zero : ∀ w, (zeroValue e).run P w = .ok (.pointer none) w
  key : ∀ x, wf3 x → keyOf P k (kv x) = some (KLit x)
theorem KeyP.inj {P : Program} {t k e : TypeId} (K : KeyP P t k e) {x y : K3} (hx : wf3 x) (hy : wf3 y) (h : KLit x = KLit y) : x = y :=
  kv_inj (K.keyed.inj (K.key x hx) (by rw [h]; exact K.key y hy))
/-- A map of c pointers (or none at all), S at each key. -/
def MapP (P : Program) (k : TypeId) (w : World) (mo : Option Nat) (c : Nat) (S : K3 → Option Nat) : Prop := match mo with
  | none => c = 0 ∧ ∀ x, S x = none
  | some m => ∃ D : DataW Unit, w.ownsMap P k ptrElem m c D ∧ Maps.size D = c ∧ ∀ x, wf3 x → Maps.has D (KLit x) = (S x).isSome ∧ ∀ b, S x = some b → D.atKey (KLit x) (ptrD none) = ptrD (some b)
variable {P : Program} {t k e : TypeId} {w : World} {mo : Option Nat} {m c : Nat} {S : K3 → Option Nat}
theorem MapP.made (w : World) : MapP P k (w.alloc (.map #[] 0)) (some w.heap.size) 0 (fun _ => none) := ⟨.map [], World.ownsMap_made w P k _, rfl, fun x _ => ⟨rfl, fun b h => by cases h⟩⟩
theorem MapP.keep {w' : World} (h : MapP P k w mo c S) (hb : ∀ m, mo = some m → w'.heap[m]? = w.heap[m]?) : MapP P k w' mo c S := by
  cases mo with
  | none => exact h
  | some m =>
    obtain ⟨D, ⟨es, cl, h1, h2⟩, h3⟩ := h
    exact ⟨D, ⟨es, cl, (hb m rfl).trans h1, h2⟩, h3⟩
theorem MapP.lt (h : MapP P k w (some m) c S) : m < w.heap.size := by
  obtain ⟨D, h1, h2⟩ := h
  exact h1.lt
theorem MapP.ext {S' : K3 → Option Nat} (h : MapP P k w mo c S) (he : ∀ x, S' x = S x) : MapP P k w mo c S' := by
  have : S' = S := funext he
  rw [this]; exact h
theorem MapP.ne (h : MapP P k w (some m) c S) {g : Nat} {cs : Array Value} {ty : TypeId} {fr : Nat × Nat} (hg : w.heap[g]? = some (.cells cs ty fr)) : m ≠ g := by
  obtain ⟨D, ⟨es, cl, h1, h2⟩, h3⟩ := h
  rintro rfl
  rw [hg] at h1
  cases h1
/-- 'i, ok := m[k]'. -/
theorem MapP.look (h : MapP P k w mo c S) (K : KeyP P t k e) {x : K3} (hw : wf3 x) : (Instr.lookup t (.map mo) (kv x) true).run P w = .ok (.tuple #[ptr (S x), .bool (S x).isSome]) w := by
  cases mo with
  | none =>
    rw [Maps.look_nil true K.keyed K.map (K.zero w) (K.key x hw), h.2 x]
    rfl
  | some m =>
    obtain ⟨D, h1, _, h3⟩ := h
    obtain ⟨v, ps, hrun, hv⟩ := h1.look_ok K.keyed K.map (K.zero w) (zd := ptrD none) (zp := []) (ptrElem_mk none) (K.key x hw)
    obtain ⟨hh, hs⟩ := h3 x hw
    obtain ⟨q, rfl, hq⟩ := ptrElem_inv hv
    have hq1 : D.atKey (KLit x) (ptrD none) = ptrD q := congrArg Prod.fst hq
    have : q = S x := by
      cases hS : S x with
      | none =>
        rw [hS] at hh
        have := Maps.atKey_of_not_has hh (ptrD none)
        rw [hq1] at this
        exact ptrD_inj this
      | some b =>
        have := hs b hS
        rw [hq1] at this
        exact ptrD_inj this
    rw [hrun, hh, this]
/-- 'len(m)'. -/
theorem MapP.len (h : MapP P k w mo c S) (K : KeyP P t k e) (ty : TypeId) : (Builtin.len_ #[t] ty #[.map mo]).run P w = .ok (.int .i64 (c : Int)) w := by
  cases mo with
  | none =>
    obtain ⟨rfl, _⟩ := h
    exact Maps.len_nil K.map ty
  | some m =>
    obtain ⟨D, h1, h2, h3⟩ := h
    rw [h1.len K.map ty, h2]
theorem MapP.has_eq {D : DataW Unit} (h3 : ∀ x, wf3 x → Maps.has D (KLit x) = (S x).isSome ∧ ∀ b, S x = some b → D.atKey (KLit x) (ptrD none) = ptrD (some b)) {x : K3} (hx : wf3 x) : Maps.has D (KLit x) = (S x).isSome := (h3 x hx).1
theorem ownsMap_exact {w : World} {P : Program} {k : TypeId} {m n c : Nat} {D : DataW Unit} (h : w.ownsMap P k ptrElem m n D) (hs : Maps.size D = c) : w.ownsMap P k ptrElem m c D := by
  obtain ⟨es, cl, g1, g2, g3, g4⟩ := h
  refine ⟨es, cl, g1, g2, ?_, g4⟩
  have : Maps.size D = es.size := by
    rw [g4]
    show ((es.toList.map (WideElems.rg P k ptrElem)).foldr DataW.insert []).length = es.size
    rw [length_sorted]
    simp
  omega
/-- 'm[k] = p'. -/
theorem MapP.put_run (h : MapP P k w (some m) c S) (K : KeyP P t k e) (hc : c < maxLen) {x : K3} (hw : wf3 x) (b : Nat) :
    ∃ w', (Instr.mapUpdate t (.map (some m)) (kv x) (ptr (some b))).run P w = .ok () w' ∧ MapP P k w' (some m) (if (S x).isSome then c else c + 1) (fun y => if y = x then some b else S y) ∧ w.mapTurned w' m := by
  obtain ⟨D, h1, h2, h3⟩ := h
  obtain ⟨w', hrun, r1, r2⟩ := h1.store K.keyed K.map hc (K.key x hw) (ptrElem_mk (some b))
  have hsz := Maps.size_put (k := KLit x) (h1.tidy K.keyed) (ptrD (some b))
  have hh := (h3 x hw).1
  have hsz2 : Maps.size (D.put (KLit x) (ptrD (some b))) = if (S x).isSome then c else c + 1 := by rw [hsz, hh, h2]
  refine ⟨w', hrun, ⟨_, ownsMap_exact r1 hsz2, hsz2, fun y hy => ?_⟩, r2⟩
  dsimp only
  by_cases hyx : y = x
  · subst hyx
    rw [if_pos rfl, Maps.has_put_same h1.isMap (K.keyed.key (K.key y hy))]
    refine ⟨rfl, fun b' hb' => ?_⟩
    cases hb'
    exact Maps.atKey_put_same h1.isMap (K.keyed.key (K.key y hy)) _ _
  · have hne : KLit y ≠ KLit x := fun e => hyx (K.inj hy hw e)
    rw [if_neg hyx, Maps.has_put_other hne, Maps.atKey_put_other hne]
    exact h3 y hy
/-- 'delete(m, k)'. -/
theorem MapP.del_run (h : MapP P k w (some m) c S) (K : KeyP P t k e) {x : K3} (hw : wf3 x) (ty : TypeId) :
    ∃ w', (Builtin.delete_ #[t, k] ty #[.map (some m), kv x]).run P w = .ok (.tuple #[]) w' ∧ MapP P k w' (some m) (if (S x).isSome then c - 1 else c) (fun y => if y = x then none else S y) ∧ w.mapTurned w' m := by
  obtain ⟨D, h1, h2, h3⟩ := h
  obtain ⟨w', hrun, r1, r2⟩ := h1.drop K.keyed K.map (K.key x hw) ty
  have hsz := Maps.size_del (k := KLit x) (h1.tidy K.keyed)
  have hh := (h3 x hw).1
  have hsz2 : Maps.size (D.del (KLit x)) = if (S x).isSome then c - 1 else c := by
    rw [hh, h2] at hsz
    split at hsz
    · rename_i hq; rw [if_pos hq]; omega
    · rename_i hq; rw [if_neg hq]; omega
  refine ⟨w', hrun, ⟨_, ownsMap_exact r1 hsz2, hsz2, fun y hy => ?_⟩, r2⟩
  dsimp only
  by_cases hyx : y = x
  · subst hyx
    rw [if_pos rfl, Maps.has_del_same]
    exact ⟨rfl, fun b' hb' => by cases hb'⟩
  · have hne : KLit y ≠ KLit x := fun e => hyx (K.inj hy hw e)
    rw [if_neg hyx, Maps.has_del_other hne, Maps.atKey_del_other hne]
    exact h3 y hy
variable {ops : Array Oper} {rest : List Oper} {o : Oper} {a : Act} {Q : Exit → Act → World → Prop}
theorem wpList_lookP (hg : o.guard = none) (x1 x2 : Operand) (hop : o.op = Op.lookup t x1 x2 true) (K : KeyP P t k e) (hm : a.eval x1 = .map mo) (h : MapP P k w mo c S) {x : K3} (hx : a.eval x2 = kv x) (hw : wf3 x)
    (hK : wpList P ops Q rest (a.put o.dst (.tuple #[ptr (S x), .bool (S x).isSome])) w) : wpList P ops Q (o :: rest) a w := by
  refine wpList_plain hg fun K' hK' => ?_
  unfold Oper.wp
  simp [execOp, hop, hm, hx, h.look K hw, Result.andThen]
  exact hK' _ _ hK
theorem wpList_putP (hg : o.guard = none) (x1 x2 x3 : Operand) (hop : o.op = Op.mapUpdate t x1 x2 x3) (K : KeyP P t k e) (hm : a.eval x1 = .map (some m)) (h : MapP P k w (some m) c S) (hc : c < maxLen) {x : K3} (hx : a.eval x2 = kv x) (hw : wf3 x) {b : Nat} (hv : a.eval x3 = ptr (some b))
    (hK : ∀ w', MapP P k w' (some m) (if (S x).isSome then c else c + 1) (fun y => if y = x then some b else S y) → w.mapTurned w' m → wpList P ops Q rest (a.put o.dst undef) w') : wpList P ops Q (o :: rest) a w := by
  refine wpList_plain hg fun K' hK' => ?_
  obtain ⟨w', hrun, r1, r2⟩ := h.put_run K hc hw b
  unfold Oper.wp
  simp [execOp, hop, hm, hx, hv, hrun, Result.andThen]
  exact hK' _ _ (hK w' r1 r2)
theorem wpList_delP (hg : o.guard = none) (x1 x2 : Operand) (hop : o.op = Op.call { callee := Callee.builtin Builtin.delete, args := #[x1, x2], argTypes := #[t, k] }) (K : KeyP P t k e) (hm : a.eval x1 = .map (some m)) (h : MapP P k w (some m) c S) {x : K3} (hx : a.eval x2 = kv x) (hw : wf3 x)
    (hK : ∀ w', MapP P k w' (some m) (if (S x).isSome then c - 1 else c) (fun y => if y = x then none else S y) → w.mapTurned w' m → wpList P ops Q rest (a.put o.dst (.tuple #[])) w') : wpList P ops Q (o :: rest) a w := by
  refine wpList_plain hg fun K' hK' => ?_
  obtain ⟨w', hrun, r1, r2⟩ := h.del_run K hw o.type
  unfold Oper.wp
  simp [execOp, hop, resolve, invoke, builtin, hm, hx, hrun, Result.andThen]
  exact hK' _ _ (hK w' r1 r2)
end Go.Proofs.Ytkmhbbcppjckiaa.Qu
