/- A map from keys of three numbers to pointers, as a function of the key; its laws for the walk. Of no program. -/
import Derived.Test.YtjjmjbemflhlbaaB3
import Derived.Test.YtjjmjbemflhlbaaFr
import Derived.WalkSpells
namespace Go.Proofs.Ytjjmjbemflhlbaa.Qu
open Go Go.RowKit Go.ChangeMaps Go.MapKept
open Go.Maps (Keyed)
open Go.Proofs.Ytjjmjbemflhlbaa.Hp (K3 kv KLit wf3 i64wf kv_inj)
open Go.Proofs.Ytjjmjbemflhlbaa.Dk (Frm)
set_option linter.unusedVariables false
set_option linter.unusedSimpArgs false
/-- A pointer to a whole block, or none. -/
def ptr (q : Option Nat) : Value := match q with
  | none => .pointer none
  | some b => .pointer (some ⟨b, 0, none⟩)
def ptrElem (v : Value) : Option (DataW Unit × List MemPlace) := match v with
  | .pointer none => some (.lit (.int .i64 (-1)), [])
  | .pointer (some ⟨b, 0, none⟩) => some (.lit (.int .i64 (b : Int)), [])
  | _ => none
def ptrD (q : Option Nat) : DataW Unit := match q with
  | none => .lit (.int .i64 (-1))
  | some b => .lit (.int .i64 (b : Int))
theorem ptrElem_mk (q : Option Nat) : ptrElem (ptr q) = some (ptrD q, []) := by cases q <;> rfl
theorem ptrD_inj {p q : Option Nat} (h : ptrD p = ptrD q) : p = q := by
  cases p <;> cases q <;> simp [ptrD] at h ⊢ <;> omega
theorem ptrElem_inv {v : Value} {y : DataW Unit × List MemPlace} (h : ptrElem v = some y) : ∃ q, v = ptr q ∧ y = (ptrD q, []) := by
  unfold ptrElem at h
  split at h
  · cases h; exact ⟨none, rfl, rfl⟩
  · rename_i b; cases h; exact ⟨some b, rfl, rfl⟩
  · cases h
structure KeyP (P : Program) (t k e : TypeId) : Prop where
  keyed : Keyed P k
  map : P.underlying t = some (.map k e)
  zero : ∀ w, (zeroValue e).run P w = .ok (.pointer none) w
  key : ∀ x, wf3 x → keyOf P k (kv x) = some (KLit x)
theorem KeyP.inj {P : Program} {t k e : TypeId} (K : KeyP P t k e) {x y : K3} (hx : wf3 x) (hy : wf3 y) (h : KLit x = KLit y) : x = y :=
  kv_inj (K.keyed.inj (K.key x hx) (by rw [h]; exact K.key y hy))
/-- A map of c pointers (or none at all), S at each key. -/
def MapP (P : Program) (k : TypeId) (w : World) (mo : Option Nat) (c : Nat) (S : K3 → Option Nat) : Prop := match mo with
  | none => c = 0 ∧ ∀ x, S x = none
  | some m => ∃ D : DataW Unit, w.ownsMap P k ptrElem m c D ∧ Maps.size D = c ∧ ∀ x, wf3 x → Maps.has D (KLit x) = (S x).isSome ∧ ∀ b, S x = some b → D.atKey (KLit x) (ptrD none) = ptrD (some b)
variable {P : Program} {t k e : TypeId} {w : World} {mo : Option Nat} {m c : Nat} {S : K3 → Option Nat}
theorem MapP.made (w : World) : MapP P k (w.alloc (.map #[] 0)) (some w.heap.size) 0 (fun _ => none) := ⟨.map [], World.ownsMap_made w P k _, rfl, fun x _ => ⟨rfl, fun b h => by cases h⟩⟩
theorem MapP.keep {w' : World} (h : MapP P k w mo c S) (hb : ∀ m, mo = some m → w'.heap[m]? = w.heap[m]?) : MapP P k w' mo c S := by
  cases mo with
  | none => exact h
  | some m =>
    obtain ⟨D, ⟨es, cl, h1, h2⟩, h3⟩ := h
    exact ⟨D, ⟨es, cl, (hb m rfl).trans h1, h2⟩, h3⟩
theorem MapP.lt (h : MapP P k w (some m) c S) : m < w.heap.size := by
  obtain ⟨D, h1, h2⟩ := h
  exact h1.lt
theorem MapP.ext {S' : K3 → Option Nat} (h : MapP P k w mo c S) (he : ∀ x, S' x = S x) : MapP P k w mo c S' := by
  have : S' = S := funext he
  rw [this]; exact h
theorem MapP.ne (h : MapP P k w (some m) c S) {g : Nat} {cs : Array Value} {ty : TypeId} {fr : Nat × Nat} (hg : w.heap[g]? = some (.cells cs ty fr)) : m ≠ g := by
  obtain ⟨D, ⟨es, cl, h1, h2⟩, h3⟩ := h
  rintro rfl
  rw [hg] at h1
  cases h1
/-- 'i, ok := m[k]'. -/
theorem MapP.look (h : MapP P k w mo c S) (K : KeyP P t k e) {x : K3} (hw : wf3 x) : (Instr.lookup t (.map mo) (kv x) true).run P w = .ok (.tuple #[ptr (S x), .bool (S x).isSome]) w := by
  cases mo with
  | none =>
    rw [Maps.look_nil true K.keyed K.map (K.zero w) (K.key x hw), h.2 x]
    rfl
  | some m =>
    obtain ⟨D, h1, _, h3⟩ := h
    obtain ⟨v, ps, hrun, hv⟩ := h1.look_ok K.keyed K.map (K.zero w) (zd := ptrD none) (zp := []) (ptrElem_mk none) (K.key x hw)
    obtain ⟨hh, hs⟩ := h3 x hw
    obtain ⟨q, rfl, hq⟩ := ptrElem_inv hv
    have hq1 : D.atKey (KLit x) (ptrD none) = ptrD q := congrArg Prod.fst hq
    have : q = S x := by
      cases hS : S x with
      | none =>
        rw [hS] at hh
        have := Maps.atKey_of_not_has hh (ptrD none)
        rw [hq1] at this
        exact ptrD_inj this
      | some b =>
        have := hs b hS
        rw [hq1] at this
        exact ptrD_inj this
    rw [hrun, hh, this]
/-- 'len(m)'. -/
theorem MapP.len (h : MapP P k w mo c S) (K : KeyP P t k e) (ty : TypeId) : (Builtin.len_ #[t] ty #[.map mo]).run P w = .ok (.int .i64 (c : Int)) w := by
  cases mo with
  | none =>
    obtain ⟨rfl, _⟩ := h
    exact Maps.len_nil K.map ty
  | some m =>
    obtain ⟨D, h1, h2, h3⟩ := h
    rw [h1.len K.map ty, h2]
theorem MapP.has_eq {D : DataW Unit} (h3 : ∀ x, wf3 x → Maps.has D (KLit x) = (S x).isSome ∧ ∀ b, S x = some b → D.atKey (KLit x) (ptrD none) = ptrD (some b)) {x : K3} (hx : wf3 x) : Maps.has D (KLit x) = (S x).isSome := (h3 x hx).1
theorem ownsMap_exact {w : World} {P : Program} {k : TypeId} {m n c : Nat} {D : DataW Unit} (h : w.ownsMap P k ptrElem m n D) (hs : Maps.size D = c) : w.ownsMap P k ptrElem m c D := by
  obtain ⟨es, cl, g1, g2, g3, g4⟩ := h
  refine ⟨es, cl, g1, g2, ?_, g4⟩
  have : Maps.size D = es.size := by
    rw [g4]
    show ((es.toList.map (WideElems.rg P k ptrElem)).foldr DataW.insert []).length = es.size
    rw [length_sorted]
    simp
  omega
/-- 'm[k] = p'. -/
theorem MapP.put_run (h : MapP P k w (some m) c S) (K : KeyP P t k e) (hc : c < maxLen) {x : K3} (hw : wf3 x) (b : Nat) :
    ∃ w', (Instr.mapUpdate t (.map (some m)) (kv x) (ptr (some b))).run P w = .ok () w' ∧ MapP P k w' (some m) (if (S x).isSome then c else c + 1) (fun y => if y = x then some b else S y) ∧ w.mapTurned w' m := by
  obtain ⟨D, h1, h2, h3⟩ := h
  obtain ⟨w', hrun, r1, r2⟩ := h1.store K.keyed K.map hc (K.key x hw) (ptrElem_mk (some b))
  have hsz := Maps.size_put (k := KLit x) (h1.tidy K.keyed) (ptrD (some b))
  have hh := (h3 x hw).1
  have hsz2 : Maps.size (D.put (KLit x) (ptrD (some b))) = if (S x).isSome then c else c + 1 := by rw [hsz, hh, h2]
  refine ⟨w', hrun, ⟨_, ownsMap_exact r1 hsz2, hsz2, fun y hy => ?_⟩, r2⟩
  dsimp only
  by_cases hyx : y = x
  · subst hyx
    rw [if_pos rfl, Maps.has_put_same h1.isMap (K.keyed.key (K.key y hy))]
    refine ⟨rfl, fun b' hb' => ?_⟩
    cases hb'
    exact Maps.atKey_put_same h1.isMap (K.keyed.key (K.key y hy)) _ _
  · have hne : KLit y ≠ KLit x := fun e => hyx (K.inj hy hw e)
    rw [if_neg hyx, Maps.has_put_other hne, Maps.atKey_put_other hne]
    exact h3 y hy
/-- 'delete(m, k)'. -/
theorem MapP.del_run (h : MapP P k w (some m) c S) (K : KeyP P t k e) {x : K3} (hw : wf3 x) (ty : TypeId) :
    ∃ w', (Builtin.delete_ #[t, k] ty #[.map (some m), kv x]).run P w = .ok (.tuple #[]) w' ∧ MapP P k w' (some m) (if (S x).isSome then c - 1 else c) (fun y => if y = x then none else S y) ∧ w.mapTurned w' m := by
  obtain ⟨D, h1, h2, h3⟩ := h
  obtain ⟨w', hrun, r1, r2⟩ := h1.drop K.keyed K.map (K.key x hw) ty
  have hsz := Maps.size_del (k := KLit x) (h1.tidy K.keyed)
  have hh := (h3 x hw).1
  have hsz2 : Maps.size (D.del (KLit x)) = if (S x).isSome then c - 1 else c := by
    rw [hh, h2] at hsz
    split at hsz
    · rename_i hq; rw [if_pos hq]; omega
    · rename_i hq; rw [if_neg hq]; omega
  refine ⟨w', hrun, ⟨_, ownsMap_exact r1 hsz2, hsz2, fun y hy => ?_⟩, r2⟩
  dsimp only
  by_cases hyx : y = x
  · subst hyx
    rw [if_pos rfl, Maps.has_del_same]
    exact ⟨rfl, fun b' hb' => by cases hb'⟩
  · have hne : KLit y ≠ KLit x := fun e => hyx (K.inj hy hw e)
    rw [if_neg hyx, Maps.has_del_other hne, Maps.atKey_del_other hne]
    exact h3 y hy
variable {ops : Array Oper} {rest : List Oper} {o : Oper} {a : Act} {Q : Exit → Act → World → Prop}
theorem wpList_lookP (hg : o.guard = none) (x1 x2 : Operand) (hop : o.op = Op.lookup t x1 x2 true) (K : KeyP P t k e) (hm : a.eval x1 = .map mo) (h : MapP P k w mo c S) {x : K3} (hx : a.eval x2 = kv x) (hw : wf3 x)
    (hK : wpList P ops Q rest (a.put o.dst (.tuple #[ptr (S x), .bool (S x).isSome])) w) : wpList P ops Q (o :: rest) a w := by
  refine wpList_plain hg fun K' hK' => ?_
  unfold Oper.wp
  simp [execOp, hop, hm, hx, h.look K hw, Result.andThen]
  exact hK' _ _ hK
theorem wpList_putP (hg : o.guard = none) (x1 x2 x3 : Operand) (hop : o.op = Op.mapUpdate t x1 x2 x3) (K : KeyP P t k e) (hm : a.eval x1 = .map (some m)) (h : MapP P k w (some m) c S) (hc : c < maxLen) {x : K3} (hx : a.eval x2 = kv x) (hw : wf3 x) {b : Nat} (hv : a.eval x3 = ptr (some b))
    (hK : ∀ w', MapP P k w' (some m) (if (S x).isSome then c else c + 1) (fun y => if y = x then some b else S y) → w.mapTurned w' m → wpList P ops Q rest (a.put o.dst undef) w') : wpList P ops Q (o :: rest) a w := by
  refine wpList_plain hg fun K' hK' => ?_
  obtain ⟨w', hrun, r1, r2⟩ := h.put_run K hc hw b
  unfold Oper.wp
  simp [execOp, hop, hm, hx, hv, hrun, Result.andThen]
  exact hK' _ _ (hK w' r1 r2)
theorem wpList_delP (hg : o.guard = none) (x1 x2 : Operand) (hop : o.op = Op.call { callee := Callee.builtin Builtin.delete, args := #[x1, x2], argTypes := #[t, k] }) (K : KeyP P t k e) (hm : a.eval x1 = .map (some m)) (h : MapP P k w (some m) c S) {x : K3} (hx : a.eval x2 = kv x) (hw : wf3 x)
    (hK : ∀ w', MapP P k w' (some m) (if (S x).isSome then c - 1 else c) (fun y => if y = x then none else S y) → w.mapTurned w' m → wpList P ops Q rest (a.put o.dst (.tuple #[])) w') : wpList P ops Q (o :: rest) a w := by
  refine wpList_plain hg fun K' hK' => ?_
  obtain ⟨w', hrun, r1, r2⟩ := h.del_run K hw o.type
  unfold Oper.wp
  simp [execOp, hop, resolve, invoke, builtin, hm, hx, hrun, Result.andThen]
  exact hK' _ _ (hK w' r1 r2)
end Go.Proofs.Ytjjmjbemflhlbaa.Qu
