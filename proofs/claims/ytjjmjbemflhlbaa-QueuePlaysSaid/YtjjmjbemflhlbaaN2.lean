/- A queue in memory: links that hang together both ways, and a map of their places. -/
import Derived.Test.YtjjmjbemflhlbaaN1
import Derived.Test.YtjjmjbemflhlbaaRows
import Derived.Laws.IdiomCopy
import Derived.Lib.SmallJoins
namespace Go.Proofs.Ytjjmjbemflhlbaa.Qu
open Go Go.RowKit
open Go.Proofs.Ytjjmjbemflhlbaa.Hp (K3 kv KLit wf3 i64wf kv_inj)
open Go.Proofs.Ytjjmjbemflhlbaa.Dk (Frm)
set_option linter.unusedVariables false
set_option linter.unusedSimpArgs false
/-- A link: a task, since when it waits, and where it stands. -/
structure Lk where
  key : K3
  since : Int
  ad : Nat
def Lk.tk (x : Lk) : K3 × Int := (x.key, x.since)
def hd (L : List Lk) (n : Option Nat) : Option Nat := match L with
  | [] => n
  | x :: _ => some x.ad
def lst : List Lk → Option Nat → Option Nat
  | [], p => p
  | x :: r, _ => lst r (some x.ad)
def Lk.cells (x : Lk) (p n : Option Nat) : Array Value := #[.int .i64 x.key.1, .int .i64 x.key.2.1, .int .i64 x.key.2.2, .int .i64 x.since, ptr p, ptr n]
def LkAt (w : World) (x : Lk) (p n : Option Nat) : Prop := w.heap[x.ad]? = some (.cells (x.cells p n) 118 (0, 0))
def ChainAt (w : World) : Option Nat → List Lk → Option Nat → Prop
  | _, [], _ => True
  | p, x :: r, n => LkAt w x p (hd r n) ∧ ChainAt w (some x.ad) r n
theorem hd_app (A B : List Lk) (n : Option Nat) : hd (A ++ B) n = hd A (hd B n) := by cases A <;> rfl
theorem lst_app : ∀ (A B : List Lk) (p : Option Nat), lst (A ++ B) p = lst B (lst A p)
  | [], B, p => rfl
  | x :: A, B, p => lst_app A B _
theorem chain_app {w : World} : ∀ {A B : List Lk} {p n : Option Nat}, ChainAt w p (A ++ B) n ↔ ChainAt w p A (hd B n) ∧ ChainAt w (lst A p) B n
  | [], B, p, n => by simp [ChainAt, lst]
  | x :: A, B, p, n => by
    have ih := chain_app (w := w) (A := A) (B := B) (p := some x.ad) (n := n)
    simp only [List.cons_append, ChainAt, hd_app, lst, ih, and_assoc]
theorem ChainAt.keep {w w' : World} : ∀ {L : List Lk} {p n : Option Nat}, ChainAt w p L n → (∀ x ∈ L, w'.heap[x.ad]? = w.heap[x.ad]?) → ChainAt w' p L n
  | [], _, _, _, _ => trivial
  | x :: L, p, n, h, hk => ⟨(hk x (by simp)).trans h.1, ChainAt.keep h.2 fun y hy => hk y (by simp [hy])⟩
theorem ChainAt.lt {w : World} : ∀ {L : List Lk} {p n : Option Nat}, ChainAt w p L n → ∀ x ∈ L, x.ad < w.heap.size
  | [], _, _, _, x, hx => by cases hx
  | y :: L, p, n, h, x, hx => by
    rcases List.mem_cons.1 hx with rfl | hx
    · exact (Array.getElem?_eq_some_iff.1 h.1).1
    · exact h.2.lt x hx
theorem ChainAt.typ {w : World} : ∀ {L : List Lk} {p n : Option Nat}, ChainAt w p L n → ∀ x ∈ L, ∃ cs, w.heap[x.ad]? = some (.cells cs 118 (0, 0))
  | [], _, _, _, x, hx => by cases hx
  | y :: L, p, n, h, x, hx => by
    rcases List.mem_cons.1 hx with rfl | hx
    · exact ⟨_, h.1⟩
    · exact h.2.typ x hx
theorem setCell_other (w : World) (p : Addr) (v : Value) {q : Nat} (h : q ≠ p.block) : (w.setCell p v).heap[q]? = w.heap[q]? := Below.heap_setCell w p v q h
theorem LkAt.setBehind {w : World} {x : Lk} {p n : Option Nat} (h : LkAt w x p n) (n' : Option Nat) : LkAt (w.setCell ⟨x.ad, 5, none⟩ (ptr n')) x p n' := Go.Joins.block_setCell (i := 5) h _
theorem LkAt.setAhead {w : World} {x : Lk} {p n : Option Nat} (h : LkAt w x p n) (p' : Option Nat) : LkAt (w.setCell ⟨x.ad, 4, none⟩ (ptr p')) x p' n := Go.Joins.block_setCell (i := 4) h _
/-- The last one's 'behind' is turned. -/
theorem ChainAt.setLast {w : World} {A : List Lk} {y : Lk} {p n : Option Nat} (h : ChainAt w p (A ++ [y]) n) (hne : ∀ x ∈ A, x.ad ≠ y.ad) (n' : Option Nat) : ChainAt (w.setCell ⟨y.ad, 5, none⟩ (ptr n')) p (A ++ [y]) n' := by
  rw [chain_app] at h ⊢
  refine ⟨h.1.keep fun x hx => setCell_other _ _ _ (hne x hx), h.2.1.setBehind n', trivial⟩
/-- The first one's 'ahead' is turned. -/
theorem ChainAt.setFirst {w : World} {A : List Lk} {y : Lk} {p n : Option Nat} (h : ChainAt w p (y :: A) n) (hne : ∀ x ∈ A, x.ad ≠ y.ad) (p' : Option Nat) : ChainAt (w.setCell ⟨y.ad, 4, none⟩ (ptr p')) p' (y :: A) n :=
  ⟨h.1.setAhead p', h.2.keep fun x hx => setCell_other _ _ _ (hne x hx)⟩
/-- Where a task stands. -/
def adOf (L : List Lk) (k : K3) : Option Nat := (L.find? (fun x => decide (x.key = k))).map Lk.ad
theorem adOf_none {L : List Lk} {k : K3} : adOf L k = none ↔ ∀ x ∈ L, x.key ≠ k := by
  simp [adOf]
theorem adOf_app_new {L : List Lk} {x : Lk} (h : ∀ y ∈ L, y.key ≠ x.key) (k : K3) : adOf (L ++ [x]) k = if k = x.key then some x.ad else adOf L k := by
  unfold adOf
  rw [List.find?_append]
  by_cases hk : k = x.key
  · subst hk
    rw [if_pos rfl]
    have : L.find? (fun y => decide (y.key = x.key)) = none := by simpa using h
    rw [this]
    simp
  · rw [if_neg hk]
    have : [x].find? (fun y => decide (y.key = k)) = none := by simp [Ne.symm hk]
    rw [this]
    simp
theorem adOf_some {L : List Lk} {k : K3} {a : Nat} (h : adOf L k = some a) : ∃ A x B, L = A ++ x :: B ∧ x.key = k ∧ x.ad = a := by
  unfold adOf at h
  cases hf : L.find? (fun x => decide (x.key = k)) with
  | none => rw [hf] at h; cases h
  | some x =>
    rw [hf] at h
    have hm := List.mem_of_find?_eq_some hf
    have hk := List.find?_some hf
    obtain ⟨A, B, rfl⟩ := List.append_of_mem hm
    exact ⟨A, x, B, rfl, by simpa using hk, by simpa using h⟩
theorem adOf_mid {A B : List Lk} {x : Lk} (h : ((A ++ x :: B).map Lk.key).Nodup) : adOf (A ++ x :: B) x.key = some x.ad := by
  unfold adOf
  have hA : A.find? (fun y => decide (y.key = x.key)) = none := by
    simp only [List.find?_eq_none, decide_eq_true_eq]
    intro y hy e
    simp only [List.map_append, List.map_cons, List.nodup_append] at h
    exact h.2.2 y.key (List.mem_map_of_mem hy) x.key (by simp) e
  rw [List.find?_append, hA]
  simp
theorem adOf_rest {A B : List Lk} {x : Lk} (h : ((A ++ x :: B).map Lk.key).Nodup) (k : K3) : adOf (A ++ B) k = if k = x.key then none else adOf (A ++ x :: B) k := by
  by_cases hk : k = x.key
  · subst hk
    rw [if_pos rfl, adOf_none]
    intro y hy e
    simp only [List.map_append, List.map_cons, List.nodup_append, List.nodup_cons] at h
    rcases List.mem_append.1 hy with hy | hy
    · exact h.2.2 y.key (List.mem_map_of_mem hy) x.key (by simp) e
    · exact h.2.1.1 (by rw [← e]; exact List.mem_map_of_mem hy)
  · rw [if_neg hk]
    unfold adOf
    rw [List.find?_append, List.find?_append, List.find?_cons]
    have : decide (x.key = k) = false := by simpa using Ne.symm hk
    rw [this]
/-- The row that a queue's three cells lie in. -/
def qrow (R : Array Value) (o : Nat) (f l mo : Option Nat) : Array Value := ((R.setIfInBounds o (ptr f)).setIfInBounds (o + 1) (ptr l)).setIfInBounds (o + 2) (.map mo)
section
variable {R : Array Value} {o : Nat} {f l mo : Option Nat}
theorem qrow_size (R : Array Value) (o : Nat) (f l mo : Option Nat) : (qrow R o f l mo).size = R.size := by simp [qrow]
theorem qrow_0 (h : o + 3 ≤ R.size) : (qrow R o f l mo)[o]? = some (ptr f) := by
  unfold qrow
  rw [Array.getElem?_setIfInBounds_ne (by omega), Array.getElem?_setIfInBounds_ne (by omega), Array.getElem?_setIfInBounds_self_of_lt (by omega)]
theorem qrow_1 (h : o + 3 ≤ R.size) : (qrow R o f l mo)[o + 1]? = some (ptr l) := by
  unfold qrow
  rw [Array.getElem?_setIfInBounds_ne (by omega), Array.getElem?_setIfInBounds_self_of_lt (by simp; omega)]
theorem qrow_2 (h : o + 3 ≤ R.size) : (qrow R o f l mo)[o + 2]? = some (.map mo) := by
  unfold qrow
  rw [Array.getElem?_setIfInBounds_self_of_lt (by simp; omega)]
theorem qrow_out {i : Nat} (h : i < o ∨ o + 3 ≤ i) : (qrow R o f l mo)[i]? = R[i]? := by
  unfold qrow
  rw [Array.getElem?_setIfInBounds_ne (by omega), Array.getElem?_setIfInBounds_ne (by omega), Array.getElem?_setIfInBounds_ne (by omega)]
theorem qrow_set0 (f' : Option Nat) : (qrow R o f l mo).setIfInBounds o (ptr f') = qrow R o f' l mo := by
  unfold qrow
  rw [Array.setIfInBounds_comm _ _ (show o + 2 ≠ o by omega), Array.setIfInBounds_comm _ _ (show o + 1 ≠ o by omega), Array.setIfInBounds_setIfInBounds]
theorem qrow_set1 (l' : Option Nat) : (qrow R o f l mo).setIfInBounds (o + 1) (ptr l') = qrow R o f l' mo := by
  unfold qrow
  rw [Array.setIfInBounds_comm _ _ (show o + 2 ≠ o + 1 by omega), Array.setIfInBounds_setIfInBounds]
theorem qrow_set2 (m' : Option Nat) : (qrow R o f l mo).setIfInBounds (o + 2) (.map m') = qrow R o f l m' := by
  unfold qrow
  rw [Array.setIfInBounds_setIfInBounds]
end
structure QC (w : World) (b o : Nat) (f l mo : Option Nat) : Prop where
  c0 : w.cell? ⟨b, o, none⟩ = some (ptr f)
  c1 : w.cell? ⟨b, o + 1, none⟩ = some (ptr l)
  c2 : w.cell? ⟨b, o + 2, none⟩ = some (.map mo)
  f0 : w.frozen? ⟨b, o, none⟩ = false
  f1 : w.frozen? ⟨b, o + 1, none⟩ = false
  f2 : w.frozen? ⟨b, o + 2, none⟩ = false
/-- A queue's three cells, from place o on of a row. -/
structure RowQ (w : World) (b o : Nat) (R : Array Value) (ty : TypeId) (f l mo : Option Nat) : Prop where
  row : w.heap[b]? = some (.cells (qrow R o f l mo) ty (0, 0))
  room : o + 3 ≤ R.size
  typ : ty ≠ 118
section
variable {w w' : World} {b o : Nat} {R : Array Value} {ty : TypeId} {f l mo : Option Nat}
theorem RowQ.cells (h : RowQ w b o R ty f l mo) : QC w b o f l mo := by
  have hc : ∀ i, w.cell? ⟨b, i, none⟩ = (qrow R o f l mo)[i]? := fun i => cell_of_row w b i _ _ _ h.row
  have hf : ∀ i, w.frozen? ⟨b, i, none⟩ = false := fun i => frozen_of_row w b i _ _ h.row
  exact ⟨by rw [hc, qrow_0 h.room], by rw [hc, qrow_1 h.room], by rw [hc, qrow_2 h.room], hf _, hf _, hf _⟩
theorem RowQ.set0 (h : RowQ w b o R ty f l mo) (f' : Option Nat) : RowQ (w.setCell ⟨b, o, none⟩ (ptr f')) b o R ty f' l mo := ⟨by have := Go.Joins.block_setCell (i := o) h.row (ptr f'); rwa [qrow_set0] at this, h.room, h.typ⟩
theorem RowQ.set1 (h : RowQ w b o R ty f l mo) (l' : Option Nat) : RowQ (w.setCell ⟨b, o + 1, none⟩ (ptr l')) b o R ty f l' mo := ⟨by have := Go.Joins.block_setCell (i := o + 1) h.row (ptr l'); rwa [qrow_set1] at this, h.room, h.typ⟩
theorem RowQ.set2 (h : RowQ w b o R ty f l mo) (m' : Option Nat) : RowQ (w.setCell ⟨b, o + 2, none⟩ (.map m')) b o R ty f l m' := ⟨by have := Go.Joins.block_setCell (i := o + 2) h.row (.map m'); rwa [qrow_set2] at this, h.room, h.typ⟩
theorem RowQ.keep (h : RowQ w b o R ty f l mo) (hk : w'.heap[b]? = w.heap[b]?) : RowQ w' b o R ty f l mo := ⟨hk.trans h.row, h.room, h.typ⟩
theorem RowQ.lt (h : RowQ w b o R ty f l mo) : b < w.heap.size := (Array.getElem?_eq_some_iff.1 h.row).1
theorem RowQ.ne (h : RowQ w b o R ty f l mo) {q : Nat} {cs : Array Value} {fr : Nat × Nat} (hq : w.heap[q]? = some (.cells cs 118 fr)) : q ≠ b := by
  rintro rfl
  have := h.row
  rw [hq] at this
  injection this with this
  injection this with _ this
  exact h.typ this.symm
end
/-- A chain in memory, with the queue's three cells. -/
structure CAt (w : World) (b o : Nat) (R : Array Value) (ty : TypeId) (mo : Option Nat) (L : List Lk) : Prop where
  row : RowQ w b o R ty (hd L none) (lst L none) mo
  chain : ChainAt w none L none
  ads : (L.map Lk.ad).Nodup
section
variable {w w' : World} {b o : Nat} {R : Array Value} {ty : TypeId} {mo : Option Nat} {L : List Lk}
theorem CAt.sep (h : CAt w b o R ty mo L) : ∀ x ∈ L, x.ad ≠ b := fun x hx => by
  obtain ⟨cs, hcs⟩ := h.chain.typ x hx
  exact h.row.ne hcs
theorem CAt.keep (h : CAt w b o R ty mo L) (hb : w'.heap[b]? = w.heap[b]?) (hk : ∀ x ∈ L, w'.heap[x.ad]? = w.heap[x.ad]?) : CAt w' b o R ty mo L := ⟨h.row.keep hb, h.chain.keep hk, h.ads⟩
theorem lst_none : ∀ {L : List Lk} {p : Option Nat}, lst L p = none → L = [] ∧ p = none
  | [], p, h => ⟨rfl, h⟩
  | x :: L, p, h => by
    have := lst_none (L := L) (p := some x.ad) h
    cases this.2
theorem lst_some : ∀ {L : List Lk} {a : Nat}, lst L none = some a → ∃ A y, L = A ++ [y] ∧ y.ad = a := by
  intro L a h
  rcases List.eq_nil_or_concat L with rfl | ⟨A, y, rfl⟩
  · cases h
  · refine ⟨A, y, by simp, ?_⟩
    rw [List.concat_eq_append, lst_app] at h
    simpa [lst] using h
/-- A new link hangs behind the others. -/
theorem CAt.hangNil (h : CAt w b o R ty mo []) (x : Lk) (hx : LkAt w x none none) : CAt ((w.setCell ⟨b, o, none⟩ (ptr (some x.ad))).setCell ⟨b, o + 1, none⟩ (ptr (some x.ad))) b o R ty mo [x] := by
  have hne : x.ad ≠ b := h.row.ne hx
  refine ⟨(h.row.set0 _).set1 _, ⟨?_, trivial⟩, by simp⟩
  unfold LkAt
  rw [setCell_other _ _ _ hne, setCell_other _ _ _ hne]
  exact hx
theorem CAt.hangSome (h : CAt w b o R ty mo L) (x : Lk) (hnew : ∀ y ∈ L, y.ad ≠ x.ad) {a : Nat} (ha : lst L none = some a) (hx : LkAt w x (some a) none) : CAt ((w.setCell ⟨a, 5, none⟩ (ptr (some x.ad))).setCell ⟨b, o + 1, none⟩ (ptr (some x.ad))) b o R ty mo (L ++ [x]) := by
  obtain ⟨A, y, rfl, rfl⟩ := lst_some ha
  have hne : x.ad ≠ b := h.row.ne hx
  have hyb : y.ad ≠ b := h.sep y (by simp)
  have hd' := h.ads
  simp only [List.map_append, List.map_cons, List.map_nil, List.nodup_append] at hd'
  have hA : ∀ z ∈ A, z.ad ≠ y.ad := fun z hz e => hd'.2.2 z.ad (List.mem_map_of_mem hz) y.ad (by simp) e
  have hc := h.chain.setLast hA (some x.ad)
  have hr : RowQ (w.setCell ⟨y.ad, 5, none⟩ (ptr (some x.ad))) b o R ty (hd (A ++ [y]) none) (lst (A ++ [y]) none) mo := h.row.keep (setCell_other _ _ _ (Ne.symm hyb))
  have hx1 : LkAt (w.setCell ⟨y.ad, 5, none⟩ (ptr (some x.ad))) x (some y.ad) none := by
    unfold LkAt
    rw [setCell_other _ _ _ (Ne.symm (hnew y (by simp)))]
    exact hx
  have hh : hd (A ++ [y] ++ [x]) none = hd (A ++ [y]) none := by rw [hd_app, hd_app, hd_app]; rfl
  have hl : lst (A ++ [y] ++ [x]) none = some x.ad := by rw [lst_app]; rfl
  refine ⟨?_, ?_, ?_⟩
  · rw [hh, hl]
    exact hr.set1 _
  · rw [chain_app]
    refine ⟨hc.keep fun z hz => setCell_other _ _ _ (h.sep z hz), ?_, trivial⟩
    unfold LkAt
    rw [setCell_other _ _ _ hne, ha]
    exact hx1
  · rw [List.map_append, List.nodup_append]
    refine ⟨h.ads, by simp, ?_⟩
    intro p hp q hq
    obtain ⟨z, hz, rfl⟩ := List.mem_map.1 hp
    have : q = x.ad := by simpa using hq
    subst this
    exact hnew z hz
/-- Between the two stores of loose. -/
structure MidAt (w : World) (b o : Nat) (R : Array Value) (ty : TypeId) (mo : Option Nat) (A : List Lk) (x : Lk) (B : List Lk) : Prop where
  row : RowQ w b o R ty (hd (A ++ B) none) (lst (A ++ x :: B) none) mo
  ca : ChainAt w none A (hd B none)
  cx : LkAt w x (lst A none) (hd B none)
  cb : ChainAt w (some x.ad) B none
  ads : ((A ++ x :: B).map Lk.ad).Nodup
theorem nodup_mid {A B : List Lk} {x : Lk} (h : ((A ++ x :: B).map Lk.ad).Nodup) : (∀ z ∈ A, z.ad ≠ x.ad) ∧ (∀ z ∈ B, z.ad ≠ x.ad) ∧ (∀ z ∈ A, ∀ y ∈ B, z.ad ≠ y.ad) ∧ ((A ++ B).map Lk.ad).Nodup := by
  simp only [List.map_append, List.map_cons, List.nodup_append, List.nodup_cons] at h ⊢
  refine ⟨fun z hz e => h.2.2 z.ad (List.mem_map_of_mem hz) x.ad (by simp) e, fun z hz e => h.2.1.1 (by rw [← e]; exact List.mem_map_of_mem hz), fun z hz y hy e => h.2.2 z.ad (List.mem_map_of_mem hz) y.ad (by simp; right; exact ⟨y, hy, rfl⟩) e, h.1, h.2.1.2, fun p hp q hq => h.2.2 p hp q (by simp at hq ⊢; right; exact hq)⟩
theorem CAt.looseNil {B : List Lk} {x : Lk} (h : CAt w b o R ty mo (x :: B)) : MidAt (w.setCell ⟨b, o, none⟩ (ptr (hd B none))) b o R ty mo [] x B := by
  have s := h.sep
  obtain ⟨h1, h2⟩ := h.chain
  exact ⟨h.row.set0 _, trivial, (setCell_other _ _ _ (s x (by simp))).trans h1, h2.keep fun z hz => setCell_other _ _ _ (s z (by simp [hz])), h.ads⟩
theorem CAt.looseSome {A B : List Lk} {x : Lk} (h : CAt w b o R ty mo (A ++ x :: B)) {a : Nat} (ha : lst A none = some a) : MidAt (w.setCell ⟨a, 5, none⟩ (ptr (hd B none))) b o R ty mo A x B := by
  obtain ⟨A, y, rfl, rfl⟩ := lst_some ha
  obtain ⟨n1, n2, n3, n4⟩ := nodup_mid h.ads
  have hA : ∀ z ∈ A, z.ad ≠ y.ad := by
    have := h.ads
    rw [List.append_assoc] at this
    exact (nodup_mid this).1
  have hc := h.chain
  rw [chain_app] at hc
  obtain ⟨h1, h2, h3⟩ := hc
  refine ⟨?_, h1.setLast hA _, (setCell_other _ _ _ (Ne.symm (n1 y (by simp)))).trans h2, h3.keep fun z hz => setCell_other _ _ _ (Ne.symm (n3 y (by simp) z hz)), h.ads⟩
  have e : hd (A ++ [y] ++ B) none = hd (A ++ [y] ++ x :: B) none := by rw [List.append_assoc, List.append_assoc, hd_app, hd_app A]; rfl
  rw [e]
  exact h.row.keep (setCell_other _ _ _ (Ne.symm (h.sep y (by simp))))
theorem MidAt.nil {A : List Lk} {x : Lk} (h : MidAt w b o R ty mo A x []) : CAt (w.setCell ⟨b, o + 1, none⟩ (ptr (lst A none))) b o R ty mo A := by
  obtain ⟨n1, n2, n3, n4⟩ := nodup_mid h.ads
  rw [List.append_nil] at n4
  have hr := h.row
  rw [List.append_nil] at hr
  refine ⟨hr.set1 _, h.ca.keep fun z hz => setCell_other _ _ _ ?_, n4⟩
  obtain ⟨cs, hcs⟩ := h.ca.typ z hz
  exact hr.ne hcs
theorem MidAt.some {A B : List Lk} {x y : Lk} (h : MidAt w b o R ty mo A x (y :: B)) : CAt (w.setCell ⟨y.ad, 4, none⟩ (ptr (lst A none))) b o R ty mo (A ++ y :: B) := by
  obtain ⟨n1, n2, n3, n4⟩ := nodup_mid h.ads
  have hB : ∀ z ∈ B, z.ad ≠ y.ad := (nodup_mid n4).2.1
  have hyb : y.ad ≠ b := h.row.ne h.cb.1
  refine ⟨?_, ?_, n4⟩
  · have e : lst (A ++ x :: y :: B) none = lst (A ++ y :: B) none := by rw [lst_app, lst_app]; rfl
    have := h.row.keep (setCell_other w ⟨y.ad, 4, none⟩ (ptr (lst A none)) (Ne.symm hyb))
    rwa [e] at this
  · rw [chain_app]
    exact ⟨h.ca.keep fun z hz => setCell_other _ _ _ (n3 z hz y (by simp)), h.cb.setFirst hB _⟩
/-- A queue in memory. -/
structure QAt (w : World) (b o : Nat) (R : Array Value) (ty : TypeId) (mo : Option Nat) (L : List Lk) : Prop where
  c : CAt w b o R ty mo L
  map : MapP Try.prog 32 w mo L.length (adOf L)
  wf : ∀ x ∈ L, wf3 x.key ∧ i64wf x.since
  keys : (L.map Lk.key).Nodup
  few : L.length ≤ 128
/-- The blocks that are a queue's. -/
def own (b : Nat) (mo : Option Nat) (L : List Lk) (q : Nat) : Prop := q = b ∨ mo = some q ∨ ∃ x ∈ L, x.ad = q
theorem QAt.keep (h : QAt w b o R ty mo L) (hk : ∀ q, own b mo L q → w'.heap[q]? = w.heap[q]?) : QAt w' b o R ty mo L :=
  ⟨h.c.keep (hk b (.inl rfl)) fun x hx => hk x.ad (.inr (.inr ⟨x, hx, rfl⟩)), h.map.keep fun m hm => hk m (.inr (.inl hm)), h.wf, h.keys, h.few⟩
theorem QAt.lt (h : QAt w b o R ty mo L) {q : Nat} (hq : own b mo L q) : q < w.heap.size := by
  rcases hq with rfl | rfl | ⟨x, hx, rfl⟩
  · exact h.c.row.lt
  · exact h.map.lt
  · exact h.c.chain.lt x hx
theorem QAt.below (h : QAt w b o R ty mo L) (hb : Below w.heap.size w w') : QAt w' b o R ty mo L := h.keep fun q hq => hb.block q (h.lt hq)
theorem QAt.frm {T : Nat → Prop} (h : QAt w b o R ty mo L) (hf : Frm T w w') (hT : ∀ q, own b mo L q → ¬ T q) : QAt w' b o R ty mo L := h.keep fun q hq => hf.block q (h.lt hq) (hT q hq)
theorem QAt.msep (h : QAt w b o R ty mo L) {m : Nat} (hm : mo = some m) : m ≠ b ∧ ∀ x ∈ L, x.ad ≠ m := by
  subst hm
  refine ⟨h.map.ne h.c.row.row, fun x hx => ?_⟩
  obtain ⟨cs, hcs⟩ := h.c.chain.typ x hx
  exact Ne.symm (h.map.ne hcs)
end
end Go.Proofs.Ytjjmjbemflhlbaa.Qu
