/- A map of sectors in memory (a map from int to 128 bytes), as a function of the key; its laws for the walk. -/
import Derived.Maps.RangeWalk
import Derived.Maps.OwnSet
import Derived.Maps.Views
import Derived.Below
import Derived.Lib.Hide
namespace Go.Proofs.Ytjjmjbemflhlbaa.Dk
open Go Go.RowKit Go.ChangeMaps Go.MapKept
open Go.WideElems (Fit rd rg pl)
open Go.Maps (Keyed)
set_option linter.unusedVariables false
set_option linter.unusedSimpArgs false

/-- A byte as a cell; bytes as cells. -/
def bv (b : UInt8) : Value := .int .u8 (b.toNat : Int)
def bvs (l : List UInt8) : List Value := l.map bv
theorem bvs_length (l : List UInt8) : (bvs l).length = l.length := by simp [bvs]
theorem bvs_append (a b : List UInt8) : bvs (a ++ b) = bvs a ++ bvs b := by simp [bvs]
theorem bvs_one (l : List UInt8) : ∀ u ∈ bvs l, u.oneCell' = true := by
  intro u hu
  obtain ⟨_, _, rfl⟩ := List.mem_map.1 hu
  rfl
theorem bvs_get (l : List UInt8) (j : Nat) (h : j < l.length) : (bvs l)[j]? = some (bv l[j]) := by simp [bvs, h]

def byteOf : Value → Option UInt8
  | .int .u8 n => if 0 ≤ n ∧ n < 256 then some (UInt8.ofNat n.toNat) else none
  | _ => none
theorem byteOf_bv (b : UInt8) : byteOf (bv b) = some b := by
  have := b.toNat_lt
  simp [byteOf, bv]
  omega
theorem byteOf_inv {v : Value} {b : UInt8} (h : byteOf v = some b) : v = bv b := by
  unfold byteOf at h
  split at h
  · rename_i n
    split at h
    · rename_i hn
      cases h
      simp [bv]
      omega
    · cases h
  · cases h
theorem mapM_bvs : ∀ l : List UInt8, (bvs l).mapM byteOf = some l
  | [] => rfl
  | b :: l => by
    have ih := mapM_bvs l
    simp only [bvs, List.map_cons, List.mapM_cons, byteOf_bv] at ih ⊢
    rw [ih]
    rfl
theorem mapM_inv : ∀ {vs : List Value} {l : List UInt8}, vs.mapM byteOf = some l → vs = bvs l
  | [], l, h => by cases h; rfl
  | v :: vs, l, h => by
    simp only [List.mapM_cons] at h
    cases hb : byteOf v with
    | none => rw [hb] at h; cases h
    | some b =>
      cases hr : vs.mapM byteOf with
      | none => rw [hb, hr] at h; cases h
      | some r =>
        rw [hb, hr] at h
        cases h
        rw [byteOf_inv hb, mapM_inv hr]
        rfl

/-- How a sector reads. -/
def secElem (v : Value) : Option (DataW Unit × List MemPlace) := match v with
  | .agg a => match a.toList.mapM byteOf with
    | some l => if l.length = 128 then some (.lit (.string l), []) else none
    | none => none
  | _ => none
theorem secElem_mk {l : List UInt8} (h : l.length = 128) : secElem (.agg (bvs l).toArray) = some (.lit (.string l), []) := by simp [secElem, mapM_bvs, h]
theorem secElem_inv {v : Value} {y : DataW Unit × List MemPlace} (h : secElem v = some y) : ∃ l : List UInt8, l.length = 128 ∧ v = .agg (bvs l).toArray ∧ y = (.lit (.string l), []) := by
  unfold secElem at h
  split at h
  · rename_i a
    split at h
    · rename_i l hl
      split at h
      · rename_i h128
        cases h
        exact ⟨l, h128, by rw [← mapM_inv hl], rfl⟩
      · cases h
    · cases h
  · cases h

def zeros : List UInt8 := List.replicate 128 0
theorem zeros_length : zeros.length = 128 := by simp [zeros]
def zd : DataW Unit := .lit (.string zeros)
def litBytes (d : DataW Unit) : List UInt8 := match d with
  | .lit (.string l) => l
  | _ => []
def wfi (x : Int) : Prop := (Lit.int .i64 x).wf = true
def viewAt (D : DataW Unit) (x : Int) : Option (List UInt8) := if Maps.has D (.int .i64 x) = true then some (litBytes (D.atKey (.int .i64 x) zd)) else none
theorem viewAt_put {D : DataW Unit} (hD : Maps.IsMap D) (x : Int) (l : List UInt8) (y : Int) : viewAt (D.put (.int .i64 x) (.lit (.string l))) y = if y = x then some l else viewAt D y := by
  by_cases h : y = x
  · subst h
    rw [if_pos rfl]
    unfold viewAt
    rw [Maps.has_put_same (k := .int .i64 y) hD (by trivial), Maps.atKey_put_same (k := .int .i64 y) hD (by trivial)]
    simp [litBytes]
  · have hne : Lit.int .i64 y ≠ Lit.int .i64 x := by intro e; cases e; exact h rfl
    rw [if_neg h]
    unfold viewAt
    rw [Maps.has_put_other hne, Maps.atKey_put_other hne]

/-- Block m is a map of at most n sectors, S at each key. -/
def MapIs (P : Program) (k : TypeId) (w : World) (m n : Nat) (S : Int → Option (List UInt8)) : Prop := ∃ D : DataW Unit, w.ownsMap P k secElem m n D ∧ ∀ x, wfi x → S x = viewAt D x

variable {P : Program} {k t e : TypeId} {w : World} {m n : Nat} {S : Int → Option (List UInt8)}
theorem MapIs.made (w : World) : MapIs P k (w.alloc (.map #[] 0)) w.heap.size 0 (fun _ => none) := ⟨.map [], World.ownsMap_made w P k secElem, fun x _ => rfl⟩
theorem MapIs.keep {w' : World} (h : MapIs P k w m n S) (hb : w'.heap[m]? = w.heap[m]?) : MapIs P k w' m n S := by
  obtain ⟨D, ⟨es, c, h1, h2⟩, h3⟩ := h
  exact ⟨D, ⟨es, c, hb.trans h1, h2⟩, h3⟩
theorem MapIs.mono {n' : Nat} (h : MapIs P k w m n S) (hn : n ≤ n') : MapIs P k w m n' S := by
  obtain ⟨D, h1, h2⟩ := h
  exact ⟨D, h1.mono hn, h2⟩
theorem MapIs.lt (h : MapIs P k w m n S) : m < w.heap.size := by
  obtain ⟨D, h1, h2⟩ := h
  exact h1.lt
theorem MapIs.alloc (h : MapIs P k w m n S) (o : Obj) : MapIs P k (w.alloc o) m n S := h.keep (Below.heap_alloc w o m h.lt)
theorem MapIs.drew (h : MapIs P k w m n S) : MapIs P k w.drew m n S := h
theorem MapIs.ext {S' : Int → Option (List UInt8)} (h : MapIs P k w m n S) (e : ∀ x, wfi x → S' x = S x) : MapIs P k w m n S' := by
  obtain ⟨D, h1, h2⟩ := h
  exact ⟨D, h1, fun x hx => (e x hx).trans (h2 x hx)⟩
/-- It is a map, no row of cells. -/
theorem MapIs.ne (h : MapIs P k w m n S) {g : Nat} {cs : Array Value} {ty : TypeId} {fr : Nat × Nat} (hg : w.heap[g]? = some (.cells cs ty fr)) : m ≠ g := by
  obtain ⟨D, ⟨es, c, h1, h2⟩, h3⟩ := h
  rintro rfl
  rw [hg] at h1
  cases h1
theorem keyOf_i (hk : P.underlying k = some (.int .i64)) {x : Int} (hx : wfi x) : keyOf P k (.int .i64 x) = some (.int .i64 x) := Maps.keyOf_int_mk hk hx

variable {ops : Array Oper} {rest : List Oper} {o : Oper} {a : Act} {Q : Exit → Act → World → Prop}
/-- 'b, ok := m[x]'. -/
theorem wpList_look (w : World) (hg : o.guard = none) (mo xo : Operand) (t : TypeId) (hop : o.op = Op.lookup t mo xo true)
    (hk : P.underlying k = some (.int .i64)) (ht : P.underlying t = some (.map k e)) (hz : (zeroValue e).run P w = .ok (.agg (bvs zeros).toArray) w)
    (hm : a.eval mo = .map (some m)) (h : MapIs P k w m n S) {x : Int} (hx : a.eval xo = .int .i64 x) (hw : wfi x) (l : List UInt8) (b : Bool)
    (hl : ∀ l', l'.length = 128 → (S x = some l' ∨ S x = none ∧ l' = zeros) → l = l') (hb : b = (S x).isSome)
    (hK : wpList P ops Q rest (a.put o.dst (.tuple #[.agg (bvs l).toArray, .bool b])) w) :
    wpList P ops Q (o :: rest) a w := by
  obtain ⟨D, h1, h2⟩ := h
  have hS := h2 x hw
  refine wpList_lookup_own_ok w hg mo xo t hop k e (Maps.int_keyed hk) ht secElem hz zd [] (secElem_mk zeros_length) m n D hm h1 _ (.int .i64 x) hx (keyOf_i hk hw) ?_
  intro v ps hv
  obtain ⟨l', h128, rfl, hy⟩ := secElem_inv hv
  have hat : D.atKey (.int .i64 x) zd = .lit (.string l') := congrArg Prod.fst hy
  have hb' : Maps.has D (.int .i64 x) = b := by
    rw [hb, hS]
    unfold viewAt
    cases Maps.has D (.int .i64 x) <;> simp
  rw [hb', ← hl l' h128 ?_]
  · exact hK
  · cases hh : Maps.has D (.int .i64 x) with
    | true => left; rw [hS]; unfold viewAt; rw [if_pos hh, hat]; rfl
    | false =>
      right
      refine ⟨by rw [hS]; unfold viewAt; simp [hh], ?_⟩
      have := Maps.atKey_of_not_has hh zd
      rw [hat] at this
      unfold zd at this
      cases this
      rfl
theorem wpList_look_some (w : World) (hg : o.guard = none) (mo xo : Operand) (t : TypeId) (hop : o.op = Op.lookup t mo xo true)
    (hk : P.underlying k = some (.int .i64)) (ht : P.underlying t = some (.map k e)) (hz : (zeroValue e).run P w = .ok (.agg (bvs zeros).toArray) w)
    (hm : a.eval mo = .map (some m)) (h : MapIs P k w m n S) {x : Int} (hx : a.eval xo = .int .i64 x) (hw : wfi x) {l : List UInt8} (hl : S x = some l)
    (hK : wpList P ops Q rest (a.put o.dst (.tuple #[.agg (bvs l).toArray, .bool true])) w) :
    wpList P ops Q (o :: rest) a w :=
  wpList_look w hg mo xo t hop hk ht hz hm h hx hw l true (fun l' _ hl' => by
    rcases hl' with h1 | ⟨h1, _⟩
    · rw [hl] at h1; cases h1; rfl
    · rw [hl] at h1; cases h1) (by rw [hl]; rfl) hK
theorem wpList_look_none (w : World) (hg : o.guard = none) (mo xo : Operand) (t : TypeId) (hop : o.op = Op.lookup t mo xo true)
    (hk : P.underlying k = some (.int .i64)) (ht : P.underlying t = some (.map k e)) (hz : (zeroValue e).run P w = .ok (.agg (bvs zeros).toArray) w)
    (hm : a.eval mo = .map (some m)) (h : MapIs P k w m n S) {x : Int} (hx : a.eval xo = .int .i64 x) (hw : wfi x) (hl : S x = none)
    (hK : wpList P ops Q rest (a.put o.dst (.tuple #[.agg (bvs zeros).toArray, .bool false])) w) :
    wpList P ops Q (o :: rest) a w :=
  wpList_look w hg mo xo t hop hk ht hz hm h hx hw zeros false (fun l' _ hl' => by
    rcases hl' with h1 | ⟨_, h1⟩
    · rw [hl] at h1; cases h1
    · exact h1.symm) (by rw [hl]; rfl) hK
/-- What it holds is 128 bytes. -/
theorem MapIs.len (h : MapIs P k w m n S) (hk : P.underlying k = some (.int .i64)) (ht : P.underlying t = some (.map k e)) (hz : (zeroValue e).run P w = .ok (.agg (bvs zeros).toArray) w) {x : Int} (hw : wfi x) {l : List UInt8} (hl : S x = some l) : l.length = 128 := by
  obtain ⟨D, h1, h2⟩ := h
  have hS := h2 x hw
  obtain ⟨v, ps, _, hv⟩ := h1.look_ok (Maps.int_keyed hk) ht hz (secElem_mk zeros_length) (keyOf_i hk hw)
  obtain ⟨l', h128, _, hy⟩ := secElem_inv hv
  have hat : D.atKey (.int .i64 x) zd = .lit (.string l') := congrArg Prod.fst hy
  rw [hl] at hS
  unfold viewAt at hS
  rw [hat] at hS
  split at hS
  · cases hS; exact h128
  · cases hS
/-- What a call leaves that turns block m alone. -/
def Turned (w w' : World) (m : Nat) : Prop := w.mapTurned w' m
/-- 'm[x] = b'. -/
theorem wpList_put (w : World) (hg : o.guard = none) (mo xo vo : Operand) (t : TypeId) (hop : o.op = Op.mapUpdate t mo xo vo)
    (hk : P.underlying k = some (.int .i64)) (ht : P.underlying t = some (.map k e)) (hm : a.eval mo = .map (some m)) (h : MapIs P k w m n S) (hn : n < maxLen)
    {x : Int} (hx : a.eval xo = .int .i64 x) (hw : wfi x) {l : List UInt8} (hl : l.length = 128) (hv : a.eval vo = .agg (bvs l).toArray)
    (hK : ∀ w', MapIs P k w' m (n + 1) (fun y => if y = x then some l else S y) → w.mapTurned w' m → wpList P ops Q rest (a.put o.dst undef) w') :
    wpList P ops Q (o :: rest) a w := by
  obtain ⟨D, h1, h2⟩ := h
  refine wpList_mapUpdate_in w hg mo xo vo t hop k e (Maps.int_keyed hk) ht secElem m n D hm h1 hn _ _ (.int .i64 x) hx hv (keyOf_i hk hw) (.lit (.string l)) [] (secElem_mk hl) ?_
  intro w' h1' ht'
  refine hK w' ⟨_, h1', fun y hy => ?_⟩ ht'
  rw [viewAt_put h1.isMap, ← h2 y hy]
/-- 'clear(m)'. -/
theorem wpList_clear (w : World) (hg : o.guard = none) (mo : Operand) (t : TypeId) (hop : o.op = Op.call { callee := Callee.builtin Builtin.clear, args := #[mo], argTypes := #[t] })
    (ht : P.underlying t = some (.map k e)) (hm : a.eval mo = .map (some m)) (h : MapIs P k w m n S)
    (hK : ∀ w', MapIs P k w' m 0 (fun _ => none) → w.mapTurned w' m → wpList P ops Q rest (a.put o.dst (.tuple #[])) w') :
    wpList P ops Q (o :: rest) a w := by
  obtain ⟨D, ⟨es, c, hb, F, hs, hD⟩, h2⟩ := h
  refine wpList_plain hg fun K' hK' => ?_
  have hrun : (Builtin.clear_ #[t] o.type #[.map (some m)]).run P w = .ok (.tuple #[]) (setBlock w m (.map #[] c)) := by
    simp [Builtin.clear_, run_underlying ht, MapKept.run_getObj_map hb, MapKept.run_setObj_map _ hb, Result.andThen, setBlock]
  unfold Oper.wp
  simp [execOp, hop, resolve, invoke, builtin, hm, hrun, Result.andThen]
  refine hK' _ _ (hK _ ⟨.map [], ⟨#[], c, heap_setBlock_same hb _, ?_, by simp, rfl⟩, fun x _ => rfl⟩ ⟨es, c, #[], c, hb, rfl⟩)
  exact ⟨by simp, stamped_empty c, by simp⟩
/-- A range over a map under way: left: the keys that are still to come. -/
def MapRange (P : Program) (k : TypeId) (w : World) (m r n : Nat) (S : Int → Option (List UInt8)) (left : Int → Bool) (cnt : Nat) : Prop :=
  ∃ (D : DataW Unit) (L : Lit → Bool), w.ranges P k secElem m r n D L cnt ∧ (∀ x, wfi x → S x = viewAt D x) ∧ (∀ x, wfi x → left x = L (.int .i64 x))
theorem MapRange.is {r cnt : Nat} {left : Int → Bool} (h : MapRange P k w m r n S left cnt) : MapIs P k w m n S := by
  obtain ⟨D, L, h1, h2, _⟩ := h
  exact ⟨D, h1.owns, h2⟩
theorem MapRange.left_eq {r cnt : Nat} {left : Int → Bool} (h : MapRange P k w m r n S left cnt) : w.rangeLeft m r = cnt := by
  obtain ⟨D, L, h1, h2, _⟩ := h
  exact h1.left_eq
theorem MapRange.lt {r cnt : Nat} {left : Int → Bool} (h : MapRange P k w m r n S left cnt) : r < w.heap.size := by
  obtain ⟨D, L, h1, h2, _⟩ := h
  exact h1.lt
theorem MapRange.keep {w' : World} {r cnt : Nat} {left : Int → Bool} (h : MapRange P k w m r n S left cnt) (hm : w'.heap[m]? = w.heap[m]?) (hr : w'.heap[r]? = w.heap[r]?) : MapRange P k w' m r n S left cnt := by
  obtain ⟨D, L, ⟨es, c, si, se, c0, h1, h2, h3, h4, h5, h6⟩, h7⟩ := h
  exact ⟨D, L, ⟨es, c, si, se, c0, hm.trans h1, h2, h3, h4, hr.trans h5, h6⟩, h7⟩
theorem wpList_range (w : World) (hg : o.guard = none) (mo : Operand) (t : TypeId) (hop : o.op = Op.range t mo)
    (hk : P.underlying k = some (.int .i64)) (ht : P.underlying t = some (.map k e)) (hm : a.eval mo = .map (some m)) (h : MapIs P k w m n S)
    (hK : ∀ w' cnt, MapRange P k w' m w.heap.size n S (fun x => (S x).isSome) cnt → w.grownBy w' none → w'.heap.size = w.heap.size + 1 → wpList P ops Q rest (a.put o.dst (.pointer (some ⟨w.heap.size, 0, none⟩))) w') :
    wpList P ops Q (o :: rest) a w := by
  obtain ⟨D, h1, h2⟩ := h
  refine wpList_range_own w hg mo t hop k e (Maps.int_keyed hk) ht secElem m n D hm h1 ?_
  intro w' hr hg hs
  refine hK w' _ ⟨D, _, hr, h2, fun x hx => ?_⟩ hg hs
  show (S x).isSome = _
  rw [h2 x hx]
  unfold viewAt
  cases Maps.has D (.int .i64 x) <;> simp
theorem wpList_next (w : World) (hg : o.guard = none) (it : Operand) (hop : o.op = Op.next it false) (hk : P.underlying k = some (.int .i64))
    {r cnt : Nat} {left : Int → Bool} (hit : a.eval it = .pointer (some ⟨r, 0, none⟩)) (h : MapRange P k w m r n S left cnt)
    (hDone : cnt = 0 → (∀ x, wfi x → left x = false) → wpList P ops Q rest (a.put o.dst (.tuple #[.bool false])) w)
    (hMore : ∀ (x : Int) (l : List UInt8) (w' : World) (cnt' : Nat), wfi x → l.length = 128 → S x = some l → left x = true → MapRange P k w' m r n S (fun y => left y && !decide (y = x)) cnt' → cnt' < cnt →
      w.grownBy w' (some r) → w'.heap.size = w.heap.size → (Instr.entry (.pointer (some ⟨r, 0, none⟩))).run P w' = .ok (.tuple #[.int .i64 x, .agg (bvs l).toArray]) w' → wpList P ops Q rest (a.put o.dst (.tuple #[.bool true, .int .i64 x, .agg (bvs l).toArray])) w') :
    wpList P ops Q (o :: rest) a w := by
  obtain ⟨D, L, h1, h2, h3⟩ := h
  refine wpList_next_ranges w hg it hop k (Maps.int_keyed hk) secElem (Value.int .i64) (fun l : List UInt8 => .agg (bvs l).toArray)
    (fun key kl hkey => by obtain ⟨x, rfl, _⟩ := Maps.keyOf_int_inv hk hkey; exact ⟨x, rfl⟩) (fun v y hv => by obtain ⟨l, _, rfl, _⟩ := secElem_inv hv; exact ⟨l, rfl⟩)
    m r n D L cnt hit h1 (fun h0 hl => hDone h0 (fun x hx => (h3 x hx).trans (hl _))) ?_
  intro x l kl y w' cnt' hkey hlk hv hat hrg hlt hgr hsz hen
  obtain ⟨x', ex, rfl, hwx⟩ := Maps.keyOf_int_inv hk hkey
  cases ex
  obtain ⟨l', h128, el, hy⟩ := secElem_inv hv
  have el' : l = l' := by
    have := congrArg (fun v => match v with | Value.agg a => a.toList.mapM byteOf | _ => none) el
    simpa [mapM_bvs] using this
  subst el'
  have hhas := Maps.has_true_of_atKey hat
  refine hMore x l w' cnt' hwx h128 ?_ ((h3 x hwx).trans hlk) ⟨D, _, hrg, h2, fun z hz => ?_⟩ hlt hgr hsz hen
  · rw [h2 x hwx]
    unfold viewAt
    rw [if_pos hhas, hat, hy]
    rfl
  · show (left z && !decide (z = x)) = _
    rw [h3 z hz]
    simp [Lit.sameKey]
end Go.Proofs.Ytjjmjbemflhlbaa.Dk
