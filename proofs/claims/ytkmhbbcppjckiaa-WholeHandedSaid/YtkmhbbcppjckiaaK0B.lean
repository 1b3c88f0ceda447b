/- A queue in memory: links that hang together both ways, and a map of their places. -/
import Derived.Test.YtkmhbbcppjckiaaK0A
import Derived.Test.YtkmhbbcppjckiaaRows
import Derived.Laws.IdiomCopy
import Derived.Lib.SmallJoins
import Derived.WideKeyEntry
import Derived.DeepKeys5
import Derived.Deep.AppendSrc
import Derived.Maps.AppendAt
import Derived.Deep.AppendLies
import Derived.WalkKit
import Derived.Deep.MidRow
namespace Go.Proofs.Ytkmhbbcppjckiaa.Qu
open Go Go.RowKit
open Go.Proofs.Ytkmhbbcppjckiaa.Hp (K3 kv KLit wf3 i64wf kv_inj)
open Go.Proofs.Ytkmhbbcppjckiaa.Dk (Frm)
set_option linter.unusedVariables false
set_option linter.unusedSimpArgs false
/-- A link: a task, since when it waits, and where it stands. -/
structure Lk where
  key : K3
  since : Int
  ad : Nat
def Lk.tk (x : Lk) : K3 × Int := (x.key, x.since)
def hd (L : List Lk) (n : Option Nat) : Option Nat := match L with
  | [] => n
  | x :: _ => some x.ad
def lst : List Lk → Option Nat → Option Nat
  | [], p => p
  | x :: r, _ => lst r (some x.ad)
def Lk.cells (x : Lk) (p n : Option Nat) : Array Value := #[.int .i64 x.key.1, .int .i64 x.key.2.1, .int .i64 x.key.2.2, .int .i64 x.since, ptr p, ptr n]
def LkAt (w : World) (x : Lk) (p n : Option Nat) : Prop := w.heap[x.ad]? = some (.cells (x.cells p n) 118 (0, 0))
def ChainAt (w : World) : Option Nat → List Lk → Option Nat → Prop
  | _, [], _ => True
  | p, x :: r, n => LkAt w x p (hd r n) ∧ ChainAt w (some x.ad) r n
theorem hd_app (A B : List Lk) (n : Option Nat) : hd (A ++ B) n = hd A (hd B n) := by cases A <;> rfl
theorem lst_app : ∀ (A B : List Lk) (p : Option Nat), lst (A ++ B) p = lst B (lst A p)
  | [], B, p => rfl
  | x :: A, B, p => lst_app A B _
theorem chain_app {w : World} : ∀ {A B : List Lk} {p n : Option Nat}, ChainAt w p (A ++ B) n ↔ ChainAt w p A (hd B n) ∧ ChainAt w (lst A p) B n
  | [], B, p, n => by simp [ChainAt, lst]
  | x :: A, B, p, n => by
    have ih := chain_app (w := w) (A := A) (B := B) (p := some x.ad) (n := n)
    simp only [List.cons_append, ChainAt, hd_app, lst, ih, and_assoc]
theorem ChainAt.keep {w w' : World} : ∀ {L : List Lk} {p n : Option Nat}, ChainAt w p L n → (∀ x ∈ L, w'.heap[x.ad]? = w.heap[x.ad]?) → ChainAt w' p L n
  | [], _, _, _, _ => trivial
  | x :: L, p, n, h, hk => ⟨(hk x (by simp)).trans h.1, ChainAt.keep h.2 fun y hy => hk y (by simp [hy])⟩
theorem ChainAt.lt {w : World} : ∀ {L : List Lk} {p n : Option Nat}, ChainAt w p L n → ∀ x ∈ L, x.ad < w.heap.size
  | [], _, _, _, x, hx => by cases hx
  | y :: L, p, n, h, x, hx => by
    rcases List.mem_cons.1 hx with rfl | hx
    · exact (Array.getElem?_eq_some_iff.1 h.1).1
    · exact h.2.lt x hx
theorem ChainAt.typ {w : World} : ∀ {L : List Lk} {p n : Option Nat}, ChainAt w p L n → ∀ x ∈ L, ∃ cs, w.heap[x.ad]? = some (.cells cs 118 (0, 0))
  | [], _, _, _, x, hx => by cases hx
  | y :: L, p, n, h, x, hx => by
    rcases List.mem_cons.1 hx with rfl | hx
    · exact ⟨_, h.1⟩
    · exact h.2.typ x hx
theorem setCell_other (w : World) (p : Addr) (v : Value) {q : Nat} (h : q ≠ p.block) : (w.setCell p v).heap[q]? = w.heap[q]? := Below.heap_setCell w p v q h
theorem LkAt.setBehind {w : World} {x : Lk} {p n : Option Nat} (h : LkAt w x p n) (n' : Option Nat) : LkAt (w.setCell ⟨x.ad, 5, none⟩ (ptr n')) x p n' := Go.Joins.block_setCell (i := 5) h _
theorem LkAt.setAhead {w : World} {x : Lk} {p n : Option Nat} (h : LkAt w x p n) (p' : Option Nat) : LkAt (w.setCell ⟨x.ad, 4, none⟩ (ptr p')) x p' n := Go.Joins.block_setCell (i := 4) h _
/-- The last one's 'behind' is turned. -/
theorem ChainAt.setLast {w : World} {A : List Lk} {y : Lk} {p n : Option Nat} (h : ChainAt w p (A ++ [y]) n) (hne : ∀ x ∈ A, x.ad ≠ y.ad) (n' : Option Nat) : ChainAt (w.setCell ⟨y.ad, 5, none⟩ (ptr n')) p (A ++ [y]) n' := by
  rw [chain_app] at h ⊢
  refine ⟨h.1.keep fun x hx => setCell_other _ _ _ (hne x hx), h.2.1.setBehind n', trivial⟩
/-- The first one's 'ahead' is turned. -/
theorem ChainAt.setFirst {w : World} {A : List Lk} {y : Lk} {p n : Option Nat} (h : ChainAt w p (y :: A) n) (hne : ∀ x ∈ A, x.ad ≠ y.ad) (p' : Option Nat) : ChainAt (w.setCell ⟨y.ad, 4, none⟩ (ptr p')) p' (y :: A) n :=
  ⟨h.1.setAhead p', h.2.keep fun x hx => setCell_other _ _ _ (hne x hx)⟩
/-- Where a task stands. -/
def adOf (L : List Lk) (k : K3) : Option Nat := (L.find? (fun x => decide (x.key = k))).map Lk.ad
theorem adOf_none {L : List Lk} {k : K3} : adOf L k = none ↔ ∀ x ∈ L, x.key ≠ k := by
  simp [adOf]
theorem adOf_app_new {L : List Lk} {x : Lk} (h : ∀ y ∈ L, y.key ≠ x.key) (k : K3) : adOf (L ++ [x]) k = if k = x.key then some x.ad else adOf L k := by
  unfold adOf
  rw [List.find?_append]
  by_cases hk : k = x.key
  · subst hk
    rw [if_pos rfl]
    have : L.find? (fun y => decide (y.key = x.key)) = none := by simpa using h
    rw [this]
    simp
  · rw [if_neg hk]
    have : [x].find? (fun y => decide (y.key = k)) = none := by simp [Ne.symm hk]
    rw [this]
    simp
theorem adOf_some {L : List Lk} {k : K3} {a : Nat} (h : adOf L k = some a) : ∃ A x B, L = A ++ x :: B ∧ x.key = k ∧ x.ad = a := by
  unfold adOf at h
  cases hf : L.find? (fun x => decide (x.key = k)) with
  | none => rw [hf] at h; cases h
  | some x =>
    rw [hf] at h
    have hm := List.mem_of_find?_eq_some hf
    have hk := List.find?_some hf
    obtain ⟨A, B, rfl⟩ := List.append_of_mem hm
    exact ⟨A, x, B, rfl, by simpa using hk, by simpa using h⟩
theorem adOf_mid {A B : List Lk} {x : Lk} (h : ((A ++ x :: B).map Lk.key).Nodup) : adOf (A ++ x :: B) x.key = some x.ad := by
  unfold adOf
  have hA : A.find? (fun y => decide (y.key = x.key)) = none := by
    simp only [List.find?_eq_none, decide_eq_true_eq]
    intro y hy e
    simp only [List.map_append, List.map_cons, List.nodup_append] at h
    exact h.2.2 y.key (List.mem_map_of_mem hy) x.key (by simp) e
  rw [List.find?_append, hA]
  simp
theorem adOf_rest {A B : List Lk} {x : Lk} (h : ((A ++ x :: B).map Lk.key).Nodup) (k : K3) : adOf (A ++ B) k = if k = x.key then none else adOf (A ++ x :: B) k := by
  by_cases hk : k = x.key
  · subst hk
    rw [if_pos rfl, adOf_none]
    intro y hy e
    simp only [List.map_append, List.map_cons, List.nodup_append, List.nodup_cons] at h
    rcases List.mem_append.1 hy with hy | hy
    · exact h.2.2 y.key (List.mem_map_of_mem hy) x.key (by simp) e
    · exact h.2.1.1 (by rw [← e]; exact List.mem_map_of_mem hy)
  · rw [if_neg hk]
    unfold adOf
    rw [List.find?_append, List.find?_append, List.find?_cons]
    have : decide (x.key = k) = false := by simpa using Ne.symm hk
    rw [this]
/-- The row that a queue's three cells lie in. -/
def qrow (R : Array Value) (o : Nat) (f l mo : Option Nat) : Array Value := ((R.setIfInBounds o (ptr f)).setIfInBounds (o + 1) (ptr l)).setIfInBounds (o + 2) (.map mo)
section
variable {R : Array Value} {o : Nat} {f l mo : Option Nat}
theorem qrow_size (R : Array Value) (o : Nat) (f l mo : Option Nat) : (qrow R o f l mo).size = R.size := by simp [qrow]
theorem qrow_0 (h : o + 3 ≤ R.size) : (qrow R o f l mo)[o]? = some (ptr f) := by
  unfold qrow
  rw [Array.getElem?_setIfInBounds_ne (by omega), Array.getElem?_setIfInBounds_ne (by omega), Array.getElem?_setIfInBounds_self_of_lt (by omega)]
theorem qrow_1 (h : o + 3 ≤ R.size) : (qrow R o f l mo)[o + 1]? = some (ptr l) := by
  unfold qrow
  rw [Array.getElem?_setIfInBounds_ne (by omega), Array.getElem?_setIfInBounds_self_of_lt (by simp; omega)]
theorem qrow_2 (h : o + 3 ≤ R.size) : (qrow R o f l mo)[o + 2]? = some (.map mo) := by
  unfold qrow
  rw [Array.getElem?_setIfInBounds_self_of_lt (by simp; omega)]
theorem qrow_out {i : Nat} (h : i < o ∨ o + 3 ≤ i) : (qrow R o f l mo)[i]? = R[i]? := by
  unfold qrow
  rw [Array.getElem?_setIfInBounds_ne (by omega), Array.getElem?_setIfInBounds_ne (by omega), Array.getElem?_setIfInBounds_ne (by omega)]
theorem qrow_set0 (f' : Option Nat) : (qrow R o f l mo).setIfInBounds o (ptr f') = qrow R o f' l mo := by
  unfold qrow
  rw [Array.setIfInBounds_comm _ _ (show o + 2 ≠ o by omega), Array.setIfInBounds_comm _ _ (show o + 1 ≠ o by omega), Array.setIfInBounds_setIfInBounds]
theorem qrow_set1 (l' : Option Nat) : (qrow R o f l mo).setIfInBounds (o + 1) (ptr l') = qrow R o f l' mo := by
  unfold qrow
  rw [Array.setIfInBounds_comm _ _ (show o + 2 ≠ o + 1 by omega), Array.setIfInBounds_setIfInBounds]
theorem qrow_set2 (m' : Option Nat) : (qrow R o f l mo).setIfInBounds (o + 2) (.map m') = qrow R o f l m' := by
  unfold qrow
  rw [Array.setIfInBounds_setIfInBounds]
end
structure QC (w : World) (b o : Nat) (f l mo : Option Nat) : Prop where
  c0 : w.cell? ⟨b, o, none⟩ = some (ptr f)
  c1 : w.cell? ⟨b, o + 1, none⟩ = some (ptr l)
  c2 : w.cell? ⟨b, o + 2, none⟩ = some (.map mo)
  f0 : w.frozen? ⟨b, o, none⟩ = false
  f1 : w.frozen? ⟨b, o + 1, none⟩ = false
  f2 : w.frozen? ⟨b, o + 2, none⟩ = false
/-- A queue's three cells, from place o on of a row. -/
structure RowQ (w : World) (b o : Nat) (R : Array Value) (ty : TypeId) (f l mo : Option Nat) : Prop where
  row : w.heap[b]? = some (.cells (qrow R o f l mo) ty (0, 0))
  room : o + 3 ≤ R.size
  typ : ty ≠ 118
section
variable {w w' : World} {b o : Nat} {R : Array Value} {ty : TypeId} {f l mo : Option Nat}
theorem RowQ.cells (h : RowQ w b o R ty f l mo) : QC w b o f l mo := by
  have hc : ∀ i, w.cell? ⟨b, i, none⟩ = (qrow R o f l mo)[i]? := fun i => cell_of_row w b i _ _ _ h.row
  have hf : ∀ i, w.frozen? ⟨b, i, none⟩ = false := fun i => frozen_of_row w b i _ _ h.row
  exact ⟨by rw [hc, qrow_0 h.room], by rw [hc, qrow_1 h.room], by rw [hc, qrow_2 h.room], hf _, hf _, hf _⟩
theorem RowQ.set0 (h : RowQ w b o R ty f l mo) (f' : Option Nat) : RowQ (w.setCell ⟨b, o, none⟩ (ptr f')) b o R ty f' l mo := ⟨by have := Go.Joins.block_setCell (i := o) h.row (ptr f'); rwa [qrow_set0] at this, h.room, h.typ⟩
theorem RowQ.set1 (h : RowQ w b o R ty f l mo) (l' : Option Nat) : RowQ (w.setCell ⟨b, o + 1, none⟩ (ptr l')) b o R ty f l' mo := ⟨by have := Go.Joins.block_setCell (i := o + 1) h.row (ptr l'); rwa [qrow_set1] at this, h.room, h.typ⟩
theorem RowQ.set2 (h : RowQ w b o R ty f l mo) (m' : Option Nat) : RowQ (w.setCell ⟨b, o + 2, none⟩ (.map m')) b o R ty f l m' := ⟨by have := Go.Joins.block_setCell (i := o + 2) h.row (.map m'); rwa [qrow_set2] at this, h.room, h.typ⟩
theorem RowQ.keep (h : RowQ w b o R ty f l mo) (hk : w'.heap[b]? = w.heap[b]?) : RowQ w' b o R ty f l mo := ⟨hk.trans h.row, h.room, h.typ⟩
theorem RowQ.lt (h : RowQ w b o R ty f l mo) : b < w.heap.size := (Array.getElem?_eq_some_iff.1 h.row).1
theorem RowQ.ne (h : RowQ w b o R ty f l mo) {q : Nat} {cs : Array Value} {fr : Nat × Nat} (hq : w.heap[q]? = some (.cells cs 118 fr)) : q ≠ b := by
  rintro rfl
  have := h.row
  rw [hq] at this
  injection this with this
  injection this with _ this
  exact h.typ this.symm
end
/-- A chain in memory, with the queue's three cells. -/
structure CAt (w : World) (b o : Nat) (R : Array Value) (ty : TypeId) (mo : Option Nat) (L : List Lk) : Prop where
  row : RowQ w b o R ty (hd L none) (lst L none) mo
  chain : ChainAt w none L none
  ads : (L.map Lk.ad).Nodup
section
variable {w w' : World} {b o : Nat} {R : Array Value} {ty : TypeId} {mo : Option Nat} {L : List Lk}
theorem CAt.sep (h : CAt w b o R ty mo L) : ∀ x ∈ L, x.ad ≠ b := fun x hx => by
  obtain ⟨cs, hcs⟩ := h.chain.typ x hx
  exact h.row.ne hcs
theorem CAt.keep (h : CAt w b o R ty mo L) (hb : w'.heap[b]? = w.heap[b]?) (hk : ∀ x ∈ L, w'.heap[x.ad]? = w.heap[x.ad]?) : CAt w' b o R ty mo L := ⟨h.row.keep hb, h.chain.keep hk, h.ads⟩
theorem lst_none : ∀ {L : List Lk} {p : Option Nat}, lst L p = none → L = [] ∧ p = none
  | [], p, h => ⟨rfl, h⟩
  | x :: L, p, h => by
    have := lst_none (L := L) (p := some x.ad) h
    cases this.2
theorem lst_some : ∀ {L : List Lk} {a : Nat}, lst L none = some a → ∃ A y, L = A ++ [y] ∧ y.ad = a := by
  intro L a h
  rcases List.eq_nil_or_concat L with rfl | ⟨A, y, rfl⟩
  · cases h
  · refine ⟨A, y, by simp, ?_⟩
    rw [List.concat_eq_append, lst_app] at h
    simpa [lst] using h
/-- A new link hangs behind the others. -/
theorem CAt.hangNil (h : CAt w b o R ty mo []) (x : Lk) (hx : LkAt w x none none) : CAt ((w.setCell ⟨b, o, none⟩ (ptr (some x.ad))).setCell ⟨b, o + 1, none⟩ (ptr (some x.ad))) b o R ty mo [x] := by
  have hne : x.ad ≠ b := h.row.ne hx
  refine ⟨(h.row.set0 _).set1 _, ⟨?_, trivial⟩, by simp⟩
  unfold LkAt
  rw [setCell_other _ _ _ hne, setCell_other _ _ _ hne]
  exact hx
theorem CAt.hangSome (h : CAt w b o R ty mo L) (x : Lk) (hnew : ∀ y ∈ L, y.ad ≠ x.ad) {a : Nat} (ha : lst L none = some a) (hx : LkAt w x (some a) none) : CAt ((w.setCell ⟨a, 5, none⟩ (ptr (some x.ad))).setCell ⟨b, o + 1, none⟩ (ptr (some x.ad))) b o R ty mo (L ++ [x]) := by
  obtain ⟨A, y, rfl, rfl⟩ := lst_some ha
  have hne : x.ad ≠ b := h.row.ne hx
  have hyb : y.ad ≠ b := h.sep y (by simp)
  have hd' := h.ads
  simp only [List.map_append, List.map_cons, List.map_nil, List.nodup_append] at hd'
  have hA : ∀ z ∈ A, z.ad ≠ y.ad := fun z hz e => hd'.2.2 z.ad (List.mem_map_of_mem hz) y.ad (by simp) e
  have hc := h.chain.setLast hA (some x.ad)
  have hr : RowQ (w.setCell ⟨y.ad, 5, none⟩ (ptr (some x.ad))) b o R ty (hd (A ++ [y]) none) (lst (A ++ [y]) none) mo := h.row.keep (setCell_other _ _ _ (Ne.symm hyb))
  have hx1 : LkAt (w.setCell ⟨y.ad, 5, none⟩ (ptr (some x.ad))) x (some y.ad) none := by
    unfold LkAt
    rw [setCell_other _ _ _ (Ne.symm (hnew y (by simp)))]
    exact hx
  have hh : hd (A ++ [y] ++ [x]) none = hd (A ++ [y]) none := by rw [hd_app, hd_app, hd_app]; rfl
  have hl : lst (A ++ [y] ++ [x]) none = some x.ad := by rw [lst_app]; rfl
  refine ⟨?_, ?_, ?_⟩
  · rw [hh, hl]
    exact hr.set1 _
  · rw [chain_app]
    refine ⟨hc.keep fun z hz => setCell_other _ _ _ (h.sep z hz), ?_, trivial⟩
    unfold LkAt
    rw [setCell_other _ _ _ hne, ha]
    exact hx1
  · rw [List.map_append, List.nodup_append]
    refine ⟨h.ads, by simp, ?_⟩
    intro p hp q hq
    obtain ⟨z, hz, rfl⟩ := List.mem_map.1 hp
    have : q = x.ad := by simpa using hq
    subst this
    exact hnew z hz
/-- Between the two stores of loose. -/
structure MidAt (w : World) (b o : Nat) (R : Array Value) (ty : TypeId) (mo : Option Nat) (A : List Lk) (x : Lk) (B : List Lk) : Prop where
  row : RowQ w b o R ty (hd (A ++ B) none) (lst (A ++ x :: B) none) mo
  ca : ChainAt w none A (hd B none)
  cx : LkAt w x (lst A none) (hd B none)
  cb : ChainAt w (some x.ad) B none
  ads : ((A ++ x :: B).map Lk.ad).Nodup
theorem nodup_mid {A B : List Lk} {x : Lk} (h : ((A ++ x :: B).map Lk.ad).Nodup) : (∀ z ∈ A, z.ad ≠ x.ad) ∧ (∀ z ∈ B, z.ad ≠ x.ad) ∧ (∀ z ∈ A, ∀ y ∈ B, z.ad ≠ y.ad) ∧ ((A ++ B).map Lk.ad).Nodup := by
  simp only [List.map_append, List.map_cons, List.nodup_append, List.nodup_cons] at h ⊢
  refine ⟨fun z hz e => h.2.2 z.ad (List.mem_map_of_mem hz) x.ad (by simp) e, fun z hz e => h.2.1.1 (by rw [← e]; exact List.mem_map_of_mem hz), fun z hz y hy e => h.2.2 z.ad (List.mem_map_of_mem hz) y.ad (by simp; right; exact ⟨y, hy, rfl⟩) e, h.1, h.2.1.2, fun p hp q hq => h.2.2 p hp q (by simp at hq ⊢; right; exact hq)⟩
theorem CAt.looseNil {B : List Lk} {x : Lk} (h : CAt w b o R ty mo (x :: B)) : MidAt (w.setCell ⟨b, o, none⟩ (ptr (hd B none))) b o R ty mo [] x B := by
  have s := h.sep
  obtain ⟨h1, h2⟩ := h.chain
  exact ⟨h.row.set0 _, trivial, (setCell_other _ _ _ (s x (by simp))).trans h1, h2.keep fun z hz => setCell_other _ _ _ (s z (by simp [hz])), h.ads⟩
theorem CAt.looseSome {A B : List Lk} {x : Lk} (h : CAt w b o R ty mo (A ++ x :: B)) {a : Nat} (ha : lst A none = some a) : MidAt (w.setCell ⟨a, 5, none⟩ (ptr (hd B none))) b o R ty mo A x B := by
  obtain ⟨A, y, rfl, rfl⟩ := lst_some ha
  obtain ⟨n1, n2, n3, n4⟩ := nodup_mid h.ads
  have hA : ∀ z ∈ A, z.ad ≠ y.ad := by
    have := h.ads
    rw [List.append_assoc] at this
    exact (nodup_mid this).1
  have hc := h.chain
  rw [chain_app] at hc
  obtain ⟨h1, h2, h3⟩ := hc
  refine ⟨?_, h1.setLast hA _, (setCell_other _ _ _ (Ne.symm (n1 y (by simp)))).trans h2, h3.keep fun z hz => setCell_other _ _ _ (Ne.symm (n3 y (by simp) z hz)), h.ads⟩
  have e : hd (A ++ [y] ++ B) none = hd (A ++ [y] ++ x :: B) none := by rw [List.append_assoc, List.append_assoc, hd_app, hd_app A]; rfl
  rw [e]
  exact h.row.keep (setCell_other _ _ _ (Ne.symm (h.sep y (by simp))))
theorem MidAt.nil {A : List Lk} {x : Lk} (h : MidAt w b o R ty mo A x []) : CAt (w.setCell ⟨b, o + 1, none⟩ (ptr (lst A none))) b o R ty mo A := by
  obtain ⟨n1, n2, n3, n4⟩ := nodup_mid h.ads
  rw [List.append_nil] at n4
  have hr := h.row
  rw [List.append_nil] at hr
  refine ⟨hr.set1 _, h.ca.keep fun z hz => setCell_other _ _ _ ?_, n4⟩
  obtain ⟨cs, hcs⟩ := h.ca.typ z hz
  exact hr.ne hcs
theorem MidAt.some {A B : List Lk} {x y : Lk} (h : MidAt w b o R ty mo A x (y :: B)) : CAt (w.setCell ⟨y.ad, 4, none⟩ (ptr (lst A none))) b o R ty mo (A ++ y :: B) := by
  obtain ⟨n1, n2, n3, n4⟩ := nodup_mid h.ads
  have hB : ∀ z ∈ B, z.ad ≠ y.ad := (nodup_mid n4).2.1
  have hyb : y.ad ≠ b := h.row.ne h.cb.1
  refine ⟨?_, ?_, n4⟩
  · have e : lst (A ++ x :: y :: B) none = lst (A ++ y :: B) none := by rw [lst_app, lst_app]; rfl
    have := h.row.keep (setCell_other w ⟨y.ad, 4, none⟩ (ptr (lst A none)) (Ne.symm hyb))
    rwa [e] at this
  · rw [chain_app]
    exact ⟨h.ca.keep fun z hz => setCell_other _ _ _ (n3 z hz y (by simp)), h.cb.setFirst hB _⟩
/-- A queue in memory. -/
structure QAt (w : World) (b o : Nat) (R : Array Value) (ty : TypeId) (mo : Option Nat) (L : List Lk) : Prop where
  c : CAt w b o R ty mo L
  map : MapP Try.prog 32 w mo L.length (adOf L)
  wf : ∀ x ∈ L, wf3 x.key ∧ i64wf x.since
  keys : (L.map Lk.key).Nodup
  few : L.length ≤ 128
/-- The blocks that are a queue's. -/
def own (b : Nat) (mo : Option Nat) (L : List Lk) (q : Nat) : Prop := q = b ∨ mo = some q ∨ ∃ x ∈ L, x.ad = q
theorem QAt.keep (h : QAt w b o R ty mo L) (hk : ∀ q, own b mo L q → w'.heap[q]? = w.heap[q]?) : QAt w' b o R ty mo L :=
  ⟨h.c.keep (hk b (.inl rfl)) fun x hx => hk x.ad (.inr (.inr ⟨x, hx, rfl⟩)), h.map.keep fun m hm => hk m (.inr (.inl hm)), h.wf, h.keys, h.few⟩
theorem QAt.lt (h : QAt w b o R ty mo L) {q : Nat} (hq : own b mo L q) : q < w.heap.size := by
  rcases hq with rfl | rfl | ⟨x, hx, rfl⟩
  · exact h.c.row.lt
  · exact h.map.lt
  · exact h.c.chain.lt x hx
theorem QAt.below (h : QAt w b o R ty mo L) (hb : Below w.heap.size w w') : QAt w' b o R ty mo L := h.keep fun q hq => hb.block q (h.lt hq)
theorem QAt.frm {T : Nat → Prop} (h : QAt w b o R ty mo L) (hf : Frm T w w') (hT : ∀ q, own b mo L q → ¬ T q) : QAt w' b o R ty mo L := h.keep fun q hq => hf.block q (h.lt hq) (hT q hq)
theorem QAt.msep (h : QAt w b o R ty mo L) {m : Nat} (hm : mo = some m) : m ≠ b ∧ ∀ x ∈ L, x.ad ≠ m := by
  subst hm
  refine ⟨h.map.ne h.c.row.row, fun x hx => ?_⟩
  obtain ⟨cs, hcs⟩ := h.c.chain.typ x hx
  exact Ne.symm (h.map.ne hcs)
end
end Go.Proofs.Ytkmhbbcppjckiaa.Qu
/- The queue's keys: what the laws of maps want of them. -/
namespace Go.Proofs.Ytkmhbbcppjckiaa.Qu
open Go Go.RowKit Go.Proofs.Ytkmhbbcppjckiaa
open Go.Proofs.Ytkmhbbcppjckiaa.Hp (K3 kv KLit wf3 i64wf kv_inj)
set_option linter.unusedVariables false
set_option linter.unusedSimpArgs false
theorem qu_laid : laidOutB Try.prog = true := by kernel_rfl
theorem qu_law : WideMaps.KeyLaw Try.prog 32 :=
  deep_law_gate qu_laid (of_decide_eq_true (by kernel_rfl)) (of_decide_eq_true (by kernel_rfl)) (by kernel_rfl) (by kernel_rfl)
theorem qu_key (x : K3) (hx : wf3 x) : keyOf Try.prog 32 (kv x) = some (KLit x) := by
  obtain ⟨a, b, c⟩ := x
  obtain ⟨h1, h2, h3⟩ := hx
  have hk : Try.prog.keyType 32 = true := by kernel_rfl
  have hpos : 0 < Try.prog.types.size := of_decide_eq_true (by kernel_rfl)
  obtain ⟨d, hd⟩ : ∃ d, Try.prog.types.size = d + 1 := ⟨Try.prog.types.size - 1, by omega⟩
  have hf : (kv (a, b, c)).formed Try.prog 32 = true := by kernel_rfl
  have hl : Try.prog.keyLits (Try.prog.types.size + 1) 32 [.int .i64 a, .int .i64 b, .int .i64 c] = some [.int .i64 a, .int .i64 b, .int .i64 c] := by
    have h1 : (Lit.int .i64 a).wf = true := h1
    have h2 : (Lit.int .i64 b).wf = true := h2
    have h3 : (Lit.int .i64 c).wf = true := h3
    have e0 : Try.prog.cellsOf 32 = 3 := by kernel_rfl
    have e1 : Try.prog.cellsOf 3 = 1 := by kernel_rfl
    have e2 : Try.prog.cellsOf 2 = 1 := by kernel_rfl
    have kI : ∀ n : Int, (Lit.int .i64 n).wf = true → Try.prog.keyLits (d + 1) 3 [.int .i64 n] = some [.int .i64 n] := by
      intro n hn
      unfold Program.keyLits
      simp only [Try.underlying3]
      simp [hn]
    have kJ : ∀ n : Int, (Lit.int .i64 n).wf = true → Try.prog.keyLits (d + 1) 2 [.int .i64 n] = some [.int .i64 n] := by
      intro n hn
      unfold Program.keyLits
      simp only [Try.underlying2]
      simp [hn]
    rw [hd]
    unfold Program.keyLits
    simp only [Try.underlying32]
    simp [e0, e1, e2, kI a h1, kI b h2, kJ c h3]
  unfold keyOf
  rw [Try.underlying32]
  dsimp only
  rw [hk, hf]
  show (if true = true then Option.map _ (Try.prog.keyLits (Try.prog.types.size + 1) 32 [.int .i64 a, .int .i64 b, .int .i64 c]) else none) = _
  rw [if_pos rfl, hl]
  rfl
theorem qu_keyP : KeyP Try.prog 27 32 24 where
  keyed := Maps.Keyed.of_law qu_law
  map := Try.underlying27
  zero := fun w => by kernel_rfl
  key := qu_key
end Go.Proofs.Ytkmhbbcppjckiaa.Qu
/- An append onto a slice that the call owns, whatever is appended (a slice, nil, a string's bytes, so many zeros): what comes back owns the old and the new, in its old row or in the block just made. No program's text is used. -/
namespace Go.Proofs.Ytkmhbbcppjckiaa
open Go Go.RowKit

section
variable {P : Program} (w : World)

/-- What an append onto an owned slice leaves. -/
def Grew (w w' : World) (base : Nat) (e : TypeId) (size : Nat) (v v' : Value) (n : Nat) (xs : List Value) : Prop :=
  w'.ownsRow base e size v' n xs ∧ w.grownBy w' v.ownBlock ∧ (v'.ownBlock = v.ownBlock ∨ v'.ownBlock = some w.heap.size)

theorem run_append_own_src (base : Nat) (t tx ty e : TypeId) (i : TypeInfo) (z : Value) (size bytes : Nat) (ht : P.underlying t = some (.slice e)) (hi : P.info? e = some i) (hz : i.zero = some z)
    (hsize : i.size = size) (hby : i.bytes = bytes) (hzs : z.cells.size = size)
    (v : Value) (n : Nat) (xs : List Value) (hown : w.ownsRow base e size v n xs)
    (x : Value) (m : Nat) (news : List Value) (hs : Src P size tx x m news w)
    (h63 : n + m ≤ maxLen) (hbytes : (n + m) * bytes ≤ 140737488355328) (hbase : base ≤ w.heap.size) :
    ∃ v' w', (Builtin.append_ #[t, tx] ty #[v, x]).run P w = .ok v' w' ∧ Grew w w' base e size v v' (n + m) (xs ++ news) := by
  subst hsize
  subst hby
  have hsmall : n + m ≤ 9223372036854775807 := by simp only [maxLen] at h63; omega
  have hl := hs.newsLen
  have hlen : (xs ++ news).length = (n + m) * i.size := by rw [List.length_append, hown.1, hl, Nat.add_mul]
  have grown : ∀ (old : Nat), old < n + m → ∀ (row : Option Nat),
      (w.drew.alloc (.cells ((xs ++ news).toArray ++ Builtin.zeroCells z.cells (grownCap w (n + m) old e - (n + m))) e)).ownsRow base e i.size
        (.slice (some ⟨w.heap.size, 0, none⟩) (n + m) (grownCap w (n + m) old e)) (n + m) (xs ++ news) ∧
      w.grownBy (w.drew.alloc (.cells ((xs ++ news).toArray ++ Builtin.zeroCells z.cells (grownCap w (n + m) old e - (n + m))) e)) row := by
    intro old ho row
    have hge := grownCap_ge w (n + m) old e
    have hcm : grownCap w (n + m) old e ≤ maxLen := grownCap_le_maxLen w (n + m) old e h63
    refine ⟨⟨hlen, .inr ⟨w.heap.size, _, _, rfl, hbase, heap_alloc_new w.drew _, hge, hcm, ?_, ?_⟩⟩, ⟨rfl, rfl, rfl, by simp, fun k hk _ => Below.heap_alloc w.drew _ k hk⟩⟩
    · simp only [Array.size_append, List.size_toArray, size_zeroCells, hzs, hlen, ← Nat.add_mul]
      congr 1
      omega
    · simp only [Array.toList_append]
      rw [← hlen]
      exact List.take_left
  rcases hown.2 with ⟨rfl, rfl⟩ | ⟨g, cap, cur, rfl, hbg, hg, hnc, hcm, hcs, htake⟩
  · have hx : xs = [] := List.eq_nil_of_length_eq_zero (by simpa using hown.1)
    subst hx
    by_cases hm : m = 0
    · subst hm
      have hn : news = [] := List.eq_nil_of_length_eq_zero (by simpa using hl)
      subst hn
      refine ⟨.slice none 0 0, w, ?_, World.ownsRow_nil w base e i.size, ⟨rfl, rfl, rfl, Nat.le_refl _, fun _ _ _ => rfl⟩, Or.inl rfl⟩
      rcases hs.kind with ⟨e', hk⟩ | hk <;> simp [Builtin.append_, run_underlying ht, run_underlying hk, sizeOf, typeInfo, hi, hs.len, hs.cells]
    · have hold : (Builtin.firstCells i.size 0 (.slice none 0 0)).run P w.drew = .ok ([] : List Value).toArray w.drew := by simp [Builtin.firstCells]
      have hr := run_append_grow_src (P := P) w t tx ty e i z ht hi hz none 0 0 [] hold x m news hs (by omega) (by omega) (growslice_fits (by omega) (by simpa using hbytes))
      have hgr := grown 0 (by omega) (Value.ownBlock (.slice none 0 0))
      exact ⟨_, _, hr, hgr.1, hgr.2, Or.inr rfl⟩
  · by_cases hroom : n + m ≤ cap
    · have hfit : n * i.size + news.length ≤ cur.size := by rw [hl, hcs, ← Nat.add_mul]; exact Nat.mul_le_mul_right _ hroom
      have hst := run_storeCells_at P g (n * i.size) e news 0 cur w hg (by simpa using hfit) hs.one
      simp only [Nat.add_zero] at hst
      have hr : (Builtin.append_ #[t, tx] ty #[.slice (some ⟨g, 0, none⟩) n cap, x]).run P w =
          .ok (.slice (some ⟨g, 0, none⟩) (n + m) cap) (w.setRow g (cur.toList.take (n * i.size) ++ news ++ cur.toList.drop (n * i.size + news.length)).toArray) := by
        rcases hs.kind with ⟨e', hk⟩ | hk <;> simp [Builtin.append_, run_underlying ht, run_underlying hk, sizeOf, typeInfo, hi, hs.len, hroom, hs.cells, Addr.add_lit, hst]
      refine ⟨_, _, hr, ⟨hlen, .inr ⟨g, cap, _, rfl, hbg, setRow_heap w g cur _ e _ hg, hroom, hcm, ?_, ?_⟩⟩, ⟨rfl, rfl, rfl, by simp, fun k _ hk => setRow_other w g k _ (fun e => hk (by simp [Value.ownBlock, e]))⟩, Or.inl rfl⟩
      · simp only [List.size_toArray, List.length_append, List.length_take, List.length_drop, Array.length_toList]
        omega
      · rw [htake, ← hlen]
        exact List.take_left
    · have holds : ∀ j u, xs[j]? = some u → w.cell? ((⟨g, 0, none⟩ : Addr).add j) = some u := hown.cells (g := g) rfl
      have hold := run_firstCells_some (P := P) w.drew i.size n ⟨g, 0, none⟩ n cap xs hown.1 (by simpa using holds)
      have hr := run_append_grow_src (P := P) w t tx ty e i z ht hi hz (some ⟨g, 0, none⟩) n cap xs hold x m news hs (by omega) (by omega) (growslice_fits (by omega) hbytes)
      have hgr := grown cap (by omega) (Value.ownBlock (.slice (some ⟨g, 0, none⟩) n cap))
      exact ⟨_, _, hr, hgr.1, hgr.2, Or.inr rfl⟩

/-- At the operation. -/
theorem wpList_append_own_src {ops : Array Oper} {rest : List Oper} {o : Oper} {a : Act} {Q : Exit → Act → World → Prop} (hgd : o.guard = none) (s x : Operand) (t tx : TypeId)
    (ho : o.op = .call { callee := .builtin .append, args := #[s, x], argTypes := #[t, tx] })
    (base : Nat) (e : TypeId) (i : TypeInfo) (z : Value) (size bytes : Nat) (ht : P.underlying t = some (.slice e)) (hi : P.info? e = some i) (hz : i.zero = some z)
    (hsize : i.size = size) (hby : i.bytes = bytes) (hzs : z.cells.size = size)
    (v : Value) (n : Nat) (xs : List Value) (hsv : a.eval s = v) (hown : w.ownsRow base e size v n xs)
    (xv : Value) (m : Nat) (news : List Value) (hx : a.eval x = xv) (hs : Src P size tx xv m news w)
    (h63 : n + m ≤ maxLen) (hbytes : (n + m) * bytes ≤ 140737488355328) (hbase : base ≤ w.heap.size)
    (h : ∀ v' w', Grew w w' base e size v v' (n + m) (xs ++ news) → wpList P ops Q rest (a.put o.dst v') w') :
    wpList P ops Q (o :: rest) a w := by
  refine wpList_plain hgd fun K hK => ?_
  obtain ⟨v', w', hr, h2⟩ := run_append_own_src (P := P) w base t tx o.type e i z size bytes ht hi hz hsize hby hzs v n xs hown xv m news hs h63 hbytes hbase
  unfold Oper.wp execOp
  simp only [ho, resolve, invoke, builtin, Sem.run_bind, Sem.run_pure, Result.andThen_ok, List.map_toArray, List.map_cons, List.map_nil, hsv, hx, hr]
  exact hK _ _ (h v' w' h2)

/-- The source, whatever its address: nothing is asked where nothing is appended. -/
theorem Src.any {size : Nat} {tx e' : TypeId} (hk : P.underlying tx = some (.slice e')) (ao : Option Addr) (n c : Nat) (news : List Value) (hl : news.length = n * size) (hno : ao = none → n = 0)
    (hnews : ∀ a, ao = some a → ∀ j u, news[j]? = some u → w.cell? (a.add j) = some u) (h1 : ∀ u ∈ news, u.oneCell' = true) : Src P size tx (.slice ao n c) n news w := by
  cases ao with
  | none =>
    obtain rfl := hno rfl
    obtain rfl : news = [] := List.eq_nil_of_length_eq_zero (by simpa using hl)
    exact Src.ofNil w hk c
  | some a => exact Src.ofSlice w hk a n c news hl (hnews a rfl) h1
end
end Go.Proofs.Ytkmhbbcppjckiaa
/- An owned slice that grows, in short words: nothing of a program's text. -/
namespace Go.Proofs.Ytkmhbbcppjckiaa
open Go Go.RowKit
set_option linter.unusedVariables false
set_option linter.unusedSimpArgs false
section
variable {P : Program}
theorem own_slK {w : World} {base : Nat} {e : TypeId} {size : Nat} {v : Value} {n : Nat} {xs : List Value} (h : w.ownsRow base e size v n xs) : ∃ ao c, v = .slice ao n c := by
  rcases h.2 with ⟨rfl, rfl⟩ | ⟨g, cap, cur, rfl, _⟩
  · exact ⟨_, _, rfl⟩
  · exact ⟨_, _, rfl⟩
theorem own_keepK {w w' : World} {base : Nat} {e : TypeId} {size n : Nat} {v : Value} {xs : List Value} (h : w.ownsRow base e size v n xs) (hb : ∀ b, v.ownBlock = some b → b < w.heap.size → w'.heap[b]? = w.heap[b]?) : w'.ownsRow base e size v n xs := by
  have hl := h.lt
  refine ⟨h.1, ?_⟩
  rcases h.2 with h0 | ⟨g, cap, cur, rfl, hB, hh, r⟩
  · exact .inl h0
  · exact .inr ⟨g, cap, cur, rfl, hB, (hb g rfl (hl g rfl).2).trans hh, r⟩
theorem own_belowK {w w' : World} {base : Nat} {e : TypeId} {size n : Nat} {v : Value} {xs : List Value} (h : w.ownsRow base e size v n xs) (hb : Below w.heap.size w w') : w'.ownsRow base e size v n xs :=
  own_keepK h fun b _ h => hb.block b h
theorem alloc_keepK (w : World) (o : Obj) (k : Nat) (hk : k < w.heap.size) : (w.alloc o).heap[k]? = w.heap[k]? := Below.heap_alloc w o k hk
/-- What one more leaves, behind the memory that it is handed in. -/
theorem grew_oneK {w w' : World} {o : Obj} {B C : Nat} {e : TypeId} {size n m : Nat} {v v' : Value} {xs ys : List Value} (own : w.ownsRow B e size v n xs) (hBw : B ≤ w.heap.size) (hC : C ≤ B)
    (g : Grew (w.alloc o) w' B e size v v' m ys) : ∃ ao c, v' = .slice ao m c ∧ w'.ownsRow B e size (.slice ao m c) m ys ∧ Below C w w' ∧ ∀ k, k < w.heap.size → some k ≠ v.ownBlock → w'.heap[k]? = w.heap[k]? := by
  obtain ⟨own', gr, hat⟩ := g
  obtain ⟨ao, c, rfl⟩ := own_slK own'
  have hl := own.lt
  have blk : ∀ k, k < w.heap.size → some k ≠ v.ownBlock → w'.heap[k]? = w.heap[k]? := fun k hk hne => (gr.block k (by simp; omega) hne).trans (alloc_keepK w o k hk)
  refine ⟨ao, c, rfl, own', ⟨gr.os, gr.tape, gr.output, ?_, fun k hk => blk k (by omega) (fun e => ?_)⟩, blk⟩
  · have := gr.size; simp at this; omega
  · have := hl k e.symm; omega
theorem grew_zeroK {w w' : World} {B C : Nat} {e : TypeId} {size n m : Nat} {v v' : Value} {xs ys : List Value} (own : w.ownsRow B e size v n xs) (hBw : B ≤ w.heap.size) (hC : C ≤ B)
    (g : Grew w w' B e size v v' m ys) : ∃ ao c, v' = .slice ao m c ∧ w'.ownsRow B e size (.slice ao m c) m ys ∧ Below C w w' ∧ ∀ k, k < w.heap.size → some k ≠ v.ownBlock → w'.heap[k]? = w.heap[k]? := by
  obtain ⟨own', gr, hat⟩ := g
  obtain ⟨ao, c, rfl⟩ := own_slK own'
  have hl := own.lt
  refine ⟨ao, c, rfl, own', ⟨gr.os, gr.tape, gr.output, gr.size, fun k hk => gr.block k (by omega) (fun e => ?_)⟩, fun k hk hne => gr.block k hk hne⟩
  have := hl k e.symm; omega
/-- The source that a list of one element is. -/
theorem src_oneK {tx e : TypeId} {size : Nat} (hk : P.underlying tx = some (.slice e)) (w : World) (cs : List Value) (hl : cs.length = size) (h1 : ∀ u ∈ cs, u.oneCell' = true) : Go.Src P size tx (.slice (some ⟨w.heap.size, 0, none⟩) 1 1) 1 cs (w.alloc (.cells cs.toArray e)) :=
  Src.any _ (e' := e) hk _ 1 1 cs (by omega) (fun h => by cases h) (fun a ha j u hu => by
    cases ha
    rw [Addr.add_mid, Nat.zero_add, cell_of_row _ _ j _ _ _ (heap_alloc_new w _)]
    simpa using hu) h1
/-- The cells of an owned row. -/
theorem own_cellK {w : World} {base : Nat} {e : TypeId} {size n c : Nat} {ao : Option Addr} {xs : List Value} (h : w.ownsRow base e size (.slice ao n c) n xs) {j : Nat} {u : Value} (hj : xs[j]? = some u) : ∃ g, ao = some ⟨g, 0, none⟩ ∧ base ≤ g ∧ g < w.heap.size ∧ w.cell? ⟨g, j, none⟩ = some u := by
  have hl := h.lt
  rcases h.2 with ⟨e1, e0⟩ | ⟨g, cap', cur, e1, hb, hh, _⟩
  · have hx := h.1
    subst e0
    obtain rfl : xs = [] := List.eq_nil_of_length_eq_zero (by omega)
    simp at hj
  · injection e1 with e1 e2 e3
    subst e1
    refine ⟨g, rfl, hb, (hl g rfl).2, ?_⟩
    have := h.cells rfl j u hj
    rwa [Addr.add_mid, Nat.zero_add] at this
theorem lt_of_rowK {w : World} {k : Nat} {o : Obj} (h : w.heap[k]? = some o) : k < w.heap.size := by
  rcases Nat.lt_or_ge k w.heap.size with h1 | h1
  · exact h1
  · rw [Array.getElem?_eq_none h1] at h; cases h
/-- What lies in a block of its own kind, from its beginning on. -/
def Blk (t : TypeId) (w : World) (ao : Option Addr) (vs : List Value) : Prop :=
  vs = [] ∨ ∃ gp cur, ao = some ⟨gp, 0, none⟩ ∧ w.heap[gp]? = some (.cells cur t (0, 0)) ∧ ∀ (j : Nat) v, vs[j]? = some v → cur[j]? = some v
theorem Blk.nil (t : TypeId) (w : World) (ao : Option Addr) : Blk t w ao [] := .inl rfl
theorem Blk.own {w : World} {t : TypeId} {base size n c : Nat} {ao : Option Addr} {xs : List Value} (h : w.ownsRow base t size (.slice ao n c) n xs) : Blk t w ao xs := by
  rcases h.2 with ⟨e1, e0⟩ | ⟨g, cap', cur, e1, hb, hh, h1, h2, h3, h4⟩
  · have hx := h.1
    subst e0
    exact .inl (List.eq_nil_of_length_eq_zero (by omega))
  · injection e1 with e1 e2 e3
    subst e1
    refine .inr ⟨g, cur, rfl, hh, fun j v hj => ?_⟩
    rw [← h4, List.getElem?_take] at hj
    split at hj
    · rw [← Array.getElem?_toList]; exact hj
    · cases hj
theorem Blk.cell {t : TypeId} {w : World} {ao : Option Addr} {vs : List Value} (h : Blk t w ao vs) {j : Nat} {v : Value} (hj : vs[j]? = some v) : ∃ gp, ao = some ⟨gp, 0, none⟩ ∧ gp < w.heap.size ∧ w.cell? ⟨gp, j, none⟩ = some v := by
  rcases h with rfl | ⟨gp, cur, h1, h2, h3⟩
  · simp at hj
  · exact ⟨gp, h1, lt_of_rowK h2, by rw [cell_of_row w gp j _ _ _ h2]; exact h3 j v hj⟩
theorem Blk.at {t : TypeId} {w : World} {gp : Nat} {vs : List Value} (h : Blk t w (some ⟨gp, 0, none⟩) vs) {j : Nat} {v : Value} (hj : vs[j]? = some v) : w.cell? ⟨gp, j, none⟩ = some v := by
  obtain ⟨g, h1, h2, h3⟩ := h.cell hj
  injection h1 with h1
  injection h1 with h1
  rw [h1]
  exact h3
theorem Blk.keep {t : TypeId} {w w' : World} {ao : Option Addr} {vs : List Value} (h : Blk t w ao vs) (hk : ∀ (gp : Nat) (cur : Array Value), w.heap[gp]? = some (Obj.cells cur t (0, 0)) → w'.heap[gp]? = w.heap[gp]?) : Blk t w' ao vs := by
  rcases h with h | ⟨gp, cur, h1, h2, h3⟩
  · exact .inl h
  · exact .inr ⟨gp, cur, h1, (hk gp cur h2).trans h2, h3⟩
theorem Blk.below {t : TypeId} {w w' : World} {ao : Option Addr} {vs : List Value} (h : Blk t w ao vs) (hb : Below w.heap.size w w') : Blk t w' ao vs := h.keep fun gp cur e => hb.block gp (lt_of_rowK e)
theorem own_neK {w : World} {base : Nat} {e t : TypeId} {size n : Nat} {v : Value} {xs : List Value} (h : w.ownsRow base e size v n xs) {k : Nat} {cs : Array Value} {fr : Nat × Nat} (hk : w.heap[k]? = some (.cells cs t fr)) (hte : t ≠ e) : some k ≠ v.ownBlock := by
  rcases h.2 with ⟨rfl, e0⟩ | ⟨g, cap', cur, rfl, hb, hh, h1, h2, h3, h4⟩
  · intro h; cases h
  · intro h
    have h : k = g := by simpa [Value.ownBlock] using h
    subst h
    rw [hk] at hh
    injection hh with hh
    injection hh with _ hh _
    exact hte hh
/-- A source out of such a block. -/
theorem Blk.src {t tx : TypeId} {w : World} {ao : Option Addr} {vs : List Value} {c size n : Nat} (h : Blk t w ao vs) (hk : P.underlying tx = some (.slice t)) (hl : vs.length = n * size) (hs : 0 < size) (h1 : ∀ u ∈ vs, u.oneCell' = true) : Go.Src P size tx (.slice ao n c) n vs w := by
  refine Src.any _ (e' := t) hk ao n c vs hl (fun hno => ?_) (fun a ha j u hu => ?_) h1
  · rcases h with rfl | ⟨gp, cur, e1, _⟩
    · have h0 : n * size = 0 := by simpa using hl.symm
      rcases Nat.mul_eq_zero.1 h0 with h0 | h0
      · exact h0
      · omega
    · rw [e1] at hno; cases hno
  · obtain ⟨gp, e1, e2, e3⟩ := h.cell hu
    rw [ha] at e1
    injection e1 with e1
    rw [e1, Addr.add_mid, Nat.zero_add]
    exact e3
end
end Go.Proofs.Ytkmhbbcppjckiaa
