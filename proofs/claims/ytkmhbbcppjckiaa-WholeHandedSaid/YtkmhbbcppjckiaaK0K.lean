/- An append onto a slice that is full, wherever it lies: nothing, or a new row. No program's text is used. -/
import Derived.Test.YtkmhbbcppjckiaaK0B
import Derived.Test.YtkmhbbcppjckiaaK0J
import Derived.Lib.SliceRun
import Derived.Test.YtkmhbbcppjckiaaK0H
namespace Go.Proofs.Ytkmhbbcppjckiaa.Dk
open Go Go.RowKit
set_option linter.unusedVariables false
set_option linter.unusedSimpArgs false
section
variable {P : Program} (w : World)
/-- What an append onto a full slice leaves. -/
def GrewFull (w w' : World) (base : Nat) (e : TypeId) (size : Nat) (v v' : Value) (n m : Nat) (xs : List Value) : Prop :=
  (m = 0 ∧ v' = v ∧ w' = w) ∨ (0 < m ∧ w'.ownsRow base e size v' (n + m) xs ∧ w.grownBy w' none ∧ v'.ownBlock = some w.heap.size)
theorem run_append_full_src (base : Nat) (t tx ty e : TypeId) (i : TypeInfo) (z : Value) (size bytes : Nat) (ht : P.underlying t = some (.slice e)) (hi : P.info? e = some i) (hz : i.zero = some z)
    (hsize : i.size = size) (hby : i.bytes = bytes) (hzs : z.cells.size = size)
    (ad : Addr) (n : Nat) (xs : List Value) (hxl : xs.length = n * size) (hxs : ∀ j u, xs[j]? = some u → w.cell? (ad.add j) = some u)
    (x : Value) (m : Nat) (news : List Value) (hs : Src P size tx x m news w)
    (h63 : n + m ≤ maxLen) (hbytes : (n + m) * bytes ≤ 140737488355328) (hbase : base ≤ w.heap.size) :
    ∃ v' w', (Builtin.append_ #[t, tx] ty #[.slice (some ad) n n, x]).run P w = .ok v' w' ∧ GrewFull w w' base e size (.slice (some ad) n n) v' n m (xs ++ news) := by
  subst hsize
  subst hby
  have hl := hs.newsLen
  by_cases hm : m = 0
  · subst hm
    have hn : news = [] := List.eq_nil_of_length_eq_zero (by simpa using hl)
    subst hn
    refine ⟨.slice (some ad) n n, w, ?_, .inl ⟨rfl, rfl, rfl⟩⟩
    rcases hs.kind with ⟨e', hk⟩ | hk <;> simp [Builtin.append_, run_underlying ht, run_underlying hk, sizeOf, typeInfo, hi, hs.len, hs.cells, storeCells]
  · have hsmall : n + m ≤ 9223372036854775807 := by simp only [maxLen] at h63; omega
    have hlen : (xs ++ news).length = (n + m) * i.size := by rw [List.length_append, hxl, hl, Nat.add_mul]
    have hold := run_firstCells_some (P := P) w.drew i.size n ad n n xs hxl (by simpa using hxs)
    have hr := run_append_grow_src (P := P) w t tx ty e i z ht hi hz (some ad) n n xs hold x m news hs (by omega) (by omega) (growslice_fits (by omega) hbytes)
    refine ⟨_, _, hr, .inr ⟨by omega, ⟨hlen, .inr ⟨w.heap.size, _, _, rfl, hbase, heap_alloc_new w.drew _, grownCap_ge w (n + m) n e, grownCap_le_maxLen w (n + m) n e h63, ?_, ?_⟩⟩, ⟨rfl, rfl, rfl, by simp, fun k hk _ => Below.heap_alloc w.drew _ k hk⟩, rfl⟩⟩
    · have hge := grownCap_ge w (n + m) n e
      simp only [Array.size_append, List.size_toArray, size_zeroCells, hzs, hlen, ← Nat.add_mul]
      congr 1
      omega
    · simp only [Array.toList_append]
      rw [← hlen]
      exact List.take_left
theorem wpList_append_full_src {ops : Array Oper} {rest : List Oper} {o : Oper} {a : Act} {Q : Exit → Act → World → Prop} (hgd : o.guard = none) (s x : Operand) (t tx : TypeId)
    (ho : o.op = .call { callee := .builtin .append, args := #[s, x], argTypes := #[t, tx] })
    (base : Nat) (e : TypeId) (i : TypeInfo) (z : Value) (size bytes : Nat) (ht : P.underlying t = some (.slice e)) (hi : P.info? e = some i) (hz : i.zero = some z)
    (hsize : i.size = size) (hby : i.bytes = bytes) (hzs : z.cells.size = size)
    (ad : Addr) (n : Nat) (xs : List Value) (hsv : a.eval s = .slice (some ad) n n) (hxl : xs.length = n * size) (hxs : ∀ j u, xs[j]? = some u → w.cell? (ad.add j) = some u)
    (xv : Value) (m : Nat) (news : List Value) (hx : a.eval x = xv) (hs : Src P size tx xv m news w)
    (h63 : n + m ≤ maxLen) (hbytes : (n + m) * bytes ≤ 140737488355328) (hbase : base ≤ w.heap.size)
    (h : ∀ v' w', GrewFull w w' base e size (.slice (some ad) n n) v' n m (xs ++ news) → wpList P ops Q rest (a.put o.dst v') w') :
    wpList P ops Q (o :: rest) a w := by
  refine wpList_plain hgd fun K hK => ?_
  obtain ⟨v', w', hr, h2⟩ := run_append_full_src (P := P) w base t tx o.type e i z size bytes ht hi hz hsize hby hzs ad n xs hxl hxs xv m news hs h63 hbytes hbase
  unfold Oper.wp execOp
  simp only [ho, resolve, invoke, builtin, Sem.run_bind, Sem.run_pure, Result.andThen_ok, List.map_toArray, List.map_cons, List.map_nil, hsv, hx, hr]
  exact hK _ _ (h v' w' h2)
end
end Go.Proofs.Ytkmhbbcppjckiaa.Dk
/- Leases copied (slices.Clone). -/
namespace Go.Proofs.Ytkmhbbcppjckiaa.Ma
open Go Go.RowKit Go.Proofs.Ytkmhbbcppjckiaa
open Go.Proofs.Ytkmhbbcppjckiaa.Dk (Frm GrewFull wpList_append_full_src)
set_option linter.unusedVariables false
set_option linter.unusedSimpArgs false
set_option maxRecDepth 100000
theorem ls_eq_nil (ad : Addr) (n c : Nat) (w : World) : (binOp .eql 68 (.slice (some ad) n c) (.slice none 0 0)).run Try.prog w = .ok (.bool false) w := by
  exact Go.Lib.run_eql_slice_nil (P := Try.prog) w 68 80 (some ad) n c 0 0 Try.underlying68
theorem lss_one (l : List Ls) : ∀ u ∈ lss l, u.oneCell' = true := by
  intro u hu
  simp only [lss, List.mem_flatten, List.mem_map] at hu
  obtain ⟨_, ⟨x, _, rfl⟩, hu⟩ := hu
  exact x.one u hu
/-- What the copy is. -/
theorem grew_ls {w w1 w' : World} {v' : Value} {L : List Ls} (hw1 : w1 = w.alloc (.cells #[] 80)) (h : GrewFull w1 w' w.heap.size 80 6 (.slice (some ⟨w.heap.size, 0, none⟩) 0 0) v' 0 L.length ([] ++ lss L)) :
    ∃ a c, v' = .slice a L.length c ∧ LRow w' w.heap.size a c L ∧ Below w.heap.size w w' := by
  have b1 : Below w.heap.size w w1 := by rw [hw1]; exact (Below.refl _ _).alloc (Nat.le_refl _) _
  have n1 : w1.heap[w.heap.size]? = some (.cells #[] 80 (0, 0)) := by rw [hw1]; exact heap_alloc_new _ _
  rcases h with ⟨e, rfl, rfl⟩ | ⟨_, hrow, hg, hob⟩
  · obtain rfl : L = [] := List.eq_nil_of_length_eq_zero e
    exact ⟨_, 0, rfl, ⟨rfl, .inr ⟨w.heap.size, 0, #[], rfl, Nat.le_refl _, n1, Nat.le_refl _, by unfold maxLen; omega, rfl, rfl⟩⟩, b1⟩
  · rw [List.nil_append, Nat.zero_add] at hrow
    have hb : Below w1.heap.size w1 w' := (Frm.refl (fun _ => False) w1).grown hg (by intro j e; cases e) |>.below (fun _ _ h => h.elim) (Nat.le_refl _)
    obtain ⟨a, c, rfl⟩ := own_slK hrow
    exact ⟨a, c, rfl, hrow, b1.trans (hb.mono b1.size)⟩
set_option maxHeartbeats 1000000 in
theorem cloneL_any {w : World} {B0 : Nat} {ao : Option Addr} {c : Nat} {L : List Ls} (hL : LRow w B0 ao c L) (hl : L.length ≤ 1000) :
    Calls Try.prog 66 #[.slice ao L.length c] w fun e w' => ∃ a' c', e = .returned (.slice a' L.length c') ∧ LRow w' w.heap.size a' c' L ∧ Below w.heap.size w w' := by
  rcases hL.2 with ⟨e1, e2⟩ | ⟨g, cap, cur, e1, hbb, hh, h1, h2, h3, h4⟩
  · obtain rfl : L = [] := List.eq_nil_of_length_eq_zero e2
    injection e1 with e1 _ e3
    subst e1 e3
    clear hL e2
    have hE : ∀ W, (binOp .eql 68 (.slice none 0 0) (.slice none 0 0)).run Try.prog W = .ok (.bool true) W := fun W => Go.Lib.run_eql_slice_nil (P := Try.prog) W 68 80 none 0 0 0 0 Try.underlying68
    show Calls Try.prog 66 #[.slice none 0 0] w _
    go_enter Try.func66, Try.ntmps66
    go_wp2_with fail
    go_ret
    exact ⟨none, 0, rfl, World.ownsRow_nil _ _ _ _, Below.refl _ _⟩
  · injection e1 with e1 _ e3
    subst e1 e3
    have hE := fun W => ls_eq_nil ⟨g, 0, none⟩ L.length c W
    obtain ⟨i0, hi, hz0, hz1, hz2⟩ := info_partsK infoLs
    have HI := Lib.hid hi
    have HZ0 := Lib.hid hz0
    have HZ1 := Lib.hid hz1
    have HZ2 := Lib.hid hz2
    have SR := Lib.hid (fun (W : World) (b : Below w.heap.size w W) => (Src.any W Try.underlying68 (some ⟨g, 0, none⟩) L.length c (lss L) (lss_len L) (fun e => by cases e) (fun a e j u hu => by
      cases e
      obtain ⟨g2, e2, _, hlt, hc⟩ := own_cellK hL hu
      injection e2 with e2
      injection e2 with e2
      subst e2
      rw [Addr.add_mid, b.cell hlt, Nat.zero_add]
      exact hc) (lss_one L) : Src Try.prog 6 68 (.slice (some ⟨g, 0, none⟩) L.length c) L.length (lss L) W))
    obtain ⟨w1, hw1⟩ : ∃ w1, w1 = w.alloc (.cells #[] 80) := ⟨_, rfl⟩
    obtain ⟨k1, hk1⟩ : ∃ k, k = w.heap.size := ⟨_, rfl⟩
    have b1 : Below w.heap.size w w1 := by rw [hw1]; exact (Below.refl _ _).alloc (Nat.le_refl _) _
    have HB1 := Lib.hid b1
    have HW1 := Lib.hid hw1
    have HK1 := Lib.hid hk1
    have HN := Lib.hid hl
    clear hi hz0 hz1 hz2 hw1 hk1 b1 hl hL hbb hh h1 h2 h3 h4
    go_enter Try.func66, Try.ntmps66
    go_wp2_with (at_builtin; rw [← HW1.out, ← HK1.out]; refine wpList_append_full_src _ rfl (.tmp 5) (.tmp 6) 68 68 rfl w.heap.size 80 i0 _ 6 48 Try.underlying68 HI.out HZ0.out HZ1.out HZ2.out (by kernel_rfl) ⟨k1, 0, none⟩ 0 [] rfl rfl (fun j u h => by cases h) _ L.length (lss L) rfl (SR.out w1 HB1.out) (by have := HN.out; unfold maxLen; omega) (by have := HN.out; omega) HB1.out.size ?_)
    intro v' w2 hgr
    rw [HK1.out] at hgr
    obtain ⟨a', c', rfl, hr2, hb2⟩ := grew_ls HW1.out hgr
    have R := Lib.hid hr2
    have B := Lib.hid hb2
    clear hgr hr2 hb2
    go_wp2_with fail
    go_ret
    exact ⟨a', c', rfl, R.out, B.out⟩
end Go.Proofs.Ytkmhbbcppjckiaa.Ma
/- Queues side by side in one row. -/
namespace Go.Proofs.Ytkmhbbcppjckiaa.Ma
open Go Go.RowKit Go.Proofs.Ytkmhbbcppjckiaa
open Go.Proofs.Ytkmhbbcppjckiaa.Hp (i64wf K3 wf3)
open Go.Proofs.Ytkmhbbcppjckiaa.Qu
open Go.Proofs.Ytkmhbbcppjckiaa.Dk (Frm)
set_option linter.unusedVariables false
set_option linter.unusedSimpArgs false
variable {w w' : World} {b o : Nat} {R R' : Array Value} {ty : TypeId} {f l mo : Option Nat} {L : List Lk}
theorem set_same {X : Array Value} {i : Nat} {v : Value} (h : X[i]? = some v) : X.setIfInBounds i v = X := by
  apply Array.ext_getElem?
  intro j
  by_cases e : i = j
  · subst e
    rw [Array.getElem?_setIfInBounds_self_of_lt (Array.getElem?_eq_some_iff.1 h).1, h]
  · rw [Array.getElem?_setIfInBounds_ne e]
theorem qrow_id (h0 : R[o]? = some (ptr f)) (h1 : R[o + 1]? = some (ptr l)) (h2 : R[o + 2]? = some (.map mo)) : qrow R o f l mo = R := by
  unfold qrow
  rw [set_same h0, set_same h1, set_same h2]
/-- What the row itself says of a queue. -/
theorem RowQ.of (hh : w.heap[b]? = some (.cells R ty (0, 0))) (h0 : R[o]? = some (ptr f)) (h1 : R[o + 1]? = some (ptr l)) (h2 : R[o + 2]? = some (.map mo)) (ht : ty ≠ 118) : RowQ w b o R ty f l mo :=
  ⟨by rw [qrow_id h0 h1 h2]; exact hh, by have := (Array.getElem?_eq_some_iff.1 h2).1; omega, ht⟩
theorem RowQ.told (h : RowQ w b o R ty f l mo) (hh : w.heap[b]? = some (.cells R' ty (0, 0))) : R'[o]? = some (ptr f) ∧ R'[o + 1]? = some (ptr l) ∧ R'[o + 2]? = some (.map mo) := by
  have e := h.row
  rw [hh] at e
  injection e with e
  injection e with e
  subst e
  exact ⟨qrow_0 h.room, qrow_1 h.room, qrow_2 h.room⟩
theorem QAt.re (h : QAt w b o R ty mo L) (hh : w.heap[b]? = some (.cells R' ty (0, 0))) : QAt w b o R' ty mo L := by
  obtain ⟨e0, e1, e2⟩ := RowQ.told h.c.row hh
  exact ⟨⟨RowQ.of hh e0 e1 e2 h.c.row.typ, h.c.chain, h.c.ads⟩, h.map, h.wf, h.keys, h.few⟩
/-- A queue whose row is turned elsewhere, and nothing else of its own. -/
theorem QAt.aside (h : QAt w b o R ty mo L) (hh : w'.heap[b]? = some (.cells R' ty (0, 0))) (hs : ∀ i, o ≤ i → i < o + 3 → ∀ v, (qrow R o (hd L none) (lst L none) mo)[i]? = some v → R'[i]? = some v) (hk : ∀ q, q ≠ b → own b mo L q → w'.heap[q]? = w.heap[q]?) : QAt w' b o R' ty mo L := by
  have e0 := hs o (Nat.le_refl _) (by omega) _ (qrow_0 h.c.row.room)
  have e1 := hs (o + 1) (by omega) (by omega) _ (qrow_1 h.c.row.room)
  have e2 := hs (o + 2) (by omega) (by omega) _ (qrow_2 h.c.row.room)
  refine ⟨⟨RowQ.of hh e0 e1 e2 h.c.row.typ, h.c.chain.keep fun x hx => hk x.ad (h.c.sep x hx) (.inr (.inr ⟨x, hx, rfl⟩)), h.c.ads⟩, h.map.keep fun m hm => ?_, h.wf, h.keys, h.few⟩
  exact hk m (h.msep hm).1 (.inr (.inl hm))
/-- The place of a queue in a Match's row. -/
def qo (o k : Nat) : Nat := o + 1 + 3 * k
/-- A Match in memory, from place o on of a row. -/
structure MtAt (w : World) (b o : Nat) (R : Array Value) (ty : TypeId) (gv : Int) (mo : Nat → Option Nat) (Q : Nat → List Lk) (ao : Option Addr) (c : Nat) (E : List Ls) : Prop where
  row : w.heap[b]? = some (.cells R ty (0, 0))
  given : R[o]? = some (.int .u64 gv)
  qs : ∀ k, k < 65 → QAt w b (qo o k) R ty (mo k) (Q k)
  apart : ∀ k j, k < 65 → j < 65 → k ≠ j → ∀ q, own b (mo k) (Q k) q → own b (mo j) (Q j) q → q = b
  ls : R[o + 196]? = some (.slice ao E.length c)
  lrow : LRow w 0 ao c E
  lapart : ∀ k, k < 65 → ∀ q, own b (mo k) (Q k) q → (Value.slice ao E.length c).ownBlock ≠ some q
def updQ {α : Type} (g : Nat → α) (k : Nat) (x : α) : Nat → α := fun j => if j = k then x else g j
theorem updQ_self {α : Type} (g : Nat → α) (k : Nat) (x : α) : updQ g k x k = x := if_pos rfl
theorem updQ_ne {α : Type} (g : Nat → α) {k j : Nat} (x : α) (h : j ≠ k) : updQ g k x j = g j := if_neg h
variable {gv : Int} {mq : Nat → Option Nat} {Q : Nat → List Lk} {ao : Option Addr} {c : Nat} {E : List Ls}
/-- One queue is turned: nothing else of the Match is. What is new of the queue's own lies above what there was. -/
theorem MtAt.queue (h : MtAt w b o R ty gv mq Q ao c E) {k : Nat} (hk : k < 65) {mo' : Option Nat} {L' : List Lk} (hq : QAt w' b (qo o k) R ty mo' L') (hf : Frm (own b (mq k) (Q k)) w w') (hn : ∀ q, own b mo' L' q → own b (mq k) (Q k) q ∨ w.heap.size ≤ q) :
    MtAt w' b o (qrow R (qo o k) (hd L' none) (lst L' none) mo') ty gv (updQ mq k mo') (updQ Q k L') ao c E := by
  have hrow := hq.c.row.row
  have hout : ∀ i, i < qo o k ∨ qo o k + 3 ≤ i → (qrow R (qo o k) (hd L' none) (lst L' none) mo')[i]? = R[i]? := fun i hi => qrow_out hi
  have hlt : ∀ j, j < 65 → ∀ q, own b (mq j) (Q j) q → q < w.heap.size := fun j hj q hq => (h.qs j hj).lt hq
  refine ⟨hrow, by rw [hout o (by unfold qo; omega)]; exact h.given, fun j hj => ?_, fun i j hi hj hij q h1 h2 => ?_, by rw [hout (o + 196) (by unfold qo; omega)]; exact h.ls, ?_, fun j hj q h1 h2 => ?_⟩
  · by_cases e : j = k
    · subst e
      rw [updQ_self, updQ_self]
      exact QAt.re hq hrow
    · rw [updQ_ne _ _ e, updQ_ne _ _ e]
      refine QAt.aside (h.qs j hj) hrow (fun i h1 h2 v hv => ?_) fun q hqb hqo => hf.block q (hlt j hj q hqo) fun hko => hqb (h.apart k j hk hj (Ne.symm e) q hko hqo)
      rw [hout i (by unfold qo at h1 h2 ⊢; omega)]
      have e1 := (h.qs j hj).c.row.row
      rw [h.row] at e1
      injection e1 with e1
      injection e1 with e1
      rw [e1]
      exact hv
  · by_cases ei : i = k
    · subst ei
      rw [updQ_self, updQ_self] at h1
      rw [updQ_ne _ _ (Ne.symm hij), updQ_ne _ _ (Ne.symm hij)] at h2
      rcases hn q h1 with h3 | h3
      · exact h.apart i j hi hj hij q h3 h2
      · have := hlt j hj q h2; omega
    · rw [updQ_ne _ _ ei, updQ_ne _ _ ei] at h1
      by_cases ej : j = k
      · subst ej
        rw [updQ_self, updQ_self] at h2
        rcases hn q h2 with h3 | h3
        · exact h.apart i j hi hj hij q h1 h3
        · have := hlt i hi q h1; omega
      · rw [updQ_ne _ _ ej, updQ_ne _ _ ej] at h2
        exact h.apart i j hi hj hij q h1 h2
  · exact own_keepK h.lrow fun q hq hlt2 => hf.block q hlt2 fun hko => h.lapart k hk q hko hq
  · by_cases e : j = k
    · subst e
      rw [updQ_self, updQ_self] at h1
      rcases hn q h1 with h3 | h3
      · exact h.lapart j hj q h3 h2
      · have := own_ltK h.lrow h2; omega
    · rw [updQ_ne _ _ e, updQ_ne _ _ e] at h1
      exact h.lapart j hj q h1 h2
/-- A world above: nothing of the Match is turned. -/
theorem MtAt.below (h : MtAt w b o R ty gv mq Q ao c E) (hb : Below w.heap.size w w') : MtAt w' b o R ty gv mq Q ao c E :=
  ⟨(hb.block b (lt_of_rowK h.row)).trans h.row, h.given, fun k hk => (h.qs k hk).below hb, h.apart, h.ls, own_belowK h.lrow hb, h.lapart⟩
end Go.Proofs.Ytkmhbbcppjckiaa.Ma
/- A Match's leases are turned; who a task waits for. -/
namespace Go.Proofs.Ytkmhbbcppjckiaa.Ma
open Go Go.RowKit Go.Proofs.Ytkmhbbcppjckiaa
open Go.Proofs.Ytkmhbbcppjckiaa.Hp (i64wf K3 wf3)
open Go.Proofs.Ytkmhbbcppjckiaa.Qu
open Go.Proofs.Ytkmhbbcppjckiaa.Dk (Frm below_drewN)
set_option linter.unusedVariables false
set_option linter.unusedSimpArgs false
set_option maxRecDepth 100000
variable {w w' : World} {b o : Nat} {R : Array Value} {ty : TypeId} {gv : Int} {mq : Nat → Option Nat} {Q : Nat → List Lk} {ao : Option Addr} {c : Nat} {E : List Ls}
/-- The leases' row is another one, above all that there was. -/
theorem MtAt.leases (h : MtAt w b o R ty gv mq Q ao c E) {a' : Option Addr} {c' : Nat} {E' : List Ls} (hl : LRow w' w.heap.size a' c' E') (hh : w'.heap[b]? = some (.cells (R.setIfInBounds (o + 196) (.slice a' E'.length c')) ty (0, 0))) (hf : Frm (fun q => q = b) w w') :
    MtAt w' b o (R.setIfInBounds (o + 196) (.slice a' E'.length c')) ty gv mq Q a' c' E' := by
  have hsz : o + 196 < R.size := (Array.getElem?_eq_some_iff.1 h.ls).1
  refine ⟨hh, by rw [Array.getElem?_setIfInBounds_ne (by omega)]; exact h.given, fun j hj => ?_, h.apart, by rw [Array.getElem?_setIfInBounds_self_of_lt hsz], own_baseQ hl (Nat.zero_le _), fun j hj q h1 h2 => ?_⟩
  · refine QAt.aside (h.qs j hj) hh (fun i h1 h2 v hv => ?_) fun q hqb hqo => hf.block q ((h.qs j hj).lt hqo) hqb
    rw [Array.getElem?_setIfInBounds_ne (by unfold qo at h1 h2; omega)]
    have e1 := (h.qs j hj).c.row.row
    rw [h.row] at e1
    injection e1 with e1
    injection e1 with e1
    rw [e1]
    exact hv
  · have h3 := (hl.lt q h2).1
    have h4 := (h.qs j hj).lt h1
    omega
/-- Who waits for whom: the first queue that has the task. -/
def whG (Q : Nat → List Lk) (k : K3) : Nat → Nat → Int × Bool
  | 0, _ => (0, false)
  | n + 1, i => if (adOf (Q i) k).isSome = true then ((i : Int), true) else whG Q k n (i + 1)
def whQ (Q : Nat → List Lk) (k : K3) : Int × Bool := whG Q k 65 0
def whRel (w : World) (Q : Nat → List Lk) (k : K3) (iv : Value) (wr : World) : Prop := ∃ i : Nat, i ≤ 65 ∧ iv = .int .i64 (i : Int) ∧ whG Q k (65 - i) i = whQ Q k ∧ Below w.heap.size w wr
set_option maxHeartbeats 1000000 in
theorem where_any (h : MtAt w b o R ty gv mq Q ao c E) (k : K3) (hk : wf3 k) : Calls Try.prog 63 #[.pointer (some ⟨b, o, none⟩), .agg (kcs k).toArray] w fun e w' => e = .returned (.tuple #[.int .i64 (whQ Q k).1, .bool (whQ Q k).2]) ∧ Below w.heap.size w w' := by
  obtain ⟨w1, hw1⟩ : ∃ x, x = w.alloc (.cells (kcs k).toArray 32) := ⟨_, rfl⟩
  obtain ⟨g, hg⟩ : ∃ g, g = w.heap.size := ⟨_, rfl⟩
  have b1 : Below w.heap.size w w1 := by rw [hw1]; exact (Below.refl _ _).alloc (Nat.le_refl _) _
  have n1 : w1.heap[g]? = some (.cells (kcs k).toArray 32 (0, 0)) := by rw [hw1, hg]; exact heap_alloc_new _ _
  obtain ⟨F, hF⟩ : ∃ F, F = whQ Q k := ⟨_, rfl⟩
  rw [← hF]
  have HF := Lib.hid hF
  have H1 := Lib.hid (h.below b1)
  have HW := Lib.hid hw1
  have HG := Lib.hid hg
  have B1 := Lib.hid b1
  have N1 := Lib.hid n1
  clear h hw1 hg b1 n1 hF
  go_enter Try.func63, Try.ntmps63
  go_upto_region 1 with fail
  rw [← HW.out, ← HG.out]
  go_wp2_with fail
  go_loopw [7] (fun iv wr => whRel w1 Q k iv wr) (fun iv _ => 65 - (intOf iv).toNat)
  case atStart => exact ⟨0, by omega, rfl, rfl, Below.refl _ _⟩
  case round =>
    obtain ⟨wq, rfl⟩ : ∃ wq : World, wq = wr := ⟨_, rfl⟩
    obtain ⟨i, hi, rfl, hfd, hb⟩ := hrel
    by_cases hin : i < 65
    · have hin2 : (i : Int) < 65 := by omega
      have h0 : (0 : Int) ≤ (i : Int) := by omega
      have HQ := H1.out.below hb
      have KG : ∀ W, Below wq.heap.size wq W → ∀ j v, (kcs k)[j]? = some v → W.cell? ((⟨g, 0, none⟩ : Addr).add j) = some v := fun W hW => box_at ((hW.block g (Nat.lt_of_lt_of_le (lt_of_rowW N1.out) hb.size)).trans ((hb.block g (lt_of_rowW N1.out)).trans N1.out))
      obtain ⟨B, hB⟩ : ∃ B, B = (adOf (Q i) k).isSome := ⟨_, rfl⟩
      have HS := Lib.hid (fun (W : World) (hW : Below wq.heap.size wq W) => show Calls Try.prog 22 #[.pointer (some ⟨b, o + 1 + i * 3, none⟩), .agg (kcs k).toArray] W fun e w' => e = .returned (.bool B) ∧ Below W.heap.size W w' from by
        have e : o + 1 + i * 3 = qo o i := by unfold qo; omega
        rw [e, hB]
        exact qhas_any ((HQ.qs i hin).below hW) k hk)
      go_upto_region 4 with fail
      have HKG := Lib.hid KG
      have HBQ := Lib.hid hb
      have HFD := Lib.hid hfd
      clear KG HQ hfd hb
      refine wp_region_quiet_in (fun w' => Below wq.heap.size wq w') (by kernel_rfl) (by kernel_rfl) (below_drewN (Below.refl _ _) 1) ?_
      refine wpQuiet_runG (v := .pointer (some ⟨b, o, none⟩)) (by kernel_rfl) (fun w' hC => by first | rfl | go_simp) ?_
      simp only [Act.put, List.setIfInBounds_toArray, List.set_cons_zero, List.set_cons_succ, List.getElem_toArray, List.getElem_cons_zero, List.getElem_cons_succ]
      refine wpQuiet_runG (v := .int .i64 (i : Int)) (by kernel_rfl) (fun w' hC => by first | rfl | go_simp) ?_
      simp only [Act.put, List.setIfInBounds_toArray, List.set_cons_zero, List.set_cons_succ, List.getElem_toArray, List.getElem_cons_zero, List.getElem_cons_succ]
      refine wpQuiet_runG (v := .pointer (some ⟨b, o, none⟩)) (by kernel_rfl) (fun w' hC => by first | rfl | go_simp) ?_
      simp only [Act.put, List.setIfInBounds_toArray, List.set_cons_zero, List.set_cons_succ, List.getElem_toArray, List.getElem_cons_zero, List.getElem_cons_succ]
      refine wpQuiet_runG (v := .pointer (some ⟨b, o + 1, none⟩)) (by kernel_rfl) (fun w' hC => by first | rfl | go_simp) ?_
      simp only [Act.put, List.setIfInBounds_toArray, List.set_cons_zero, List.set_cons_succ, List.getElem_toArray, List.getElem_cons_zero, List.getElem_cons_succ]
      refine wpQuiet_runG (v := .pointer (some ⟨b, o + 1 + i * 3, none⟩)) (by kernel_rfl) (fun w' hC => by first | rfl | go_simp) ?_
      simp only [Act.put, List.setIfInBounds_toArray, List.set_cons_zero, List.set_cons_succ, List.getElem_toArray, List.getElem_cons_zero, List.getElem_cons_succ]
      refine wpQuiet_loadG (by kernel_rfl) 32 (.tmp 3) rfl ⟨g, 0, none⟩ rfl (kcs k) _ (fun w' hC => HKG.out w' hC) Try.underlying32 rfl (tkSize _) ?_
      simp only [Act.put, List.setIfInBounds_toArray, List.set_cons_zero, List.set_cons_succ, List.getElem_toArray, List.getElem_cons_zero, List.getElem_cons_succ]
      refine wpQuiet_callG (f := 22) (xs := #[.tmp 14, .tmp 15]) #[.pointer (some ⟨b, o + 1 + i * 3, none⟩), .agg (kcs k).toArray] (.bool B) (by kernel_rfl) rfl Try.func22 (by kernel_rfl) (by kernel_rfl) (by simp [Act.eval]) (fun W hW => (HS.out W hW).mono fun e w' h => ⟨h.1, Below.trans hW (h.2.mono hW.size)⟩) ?_
      simp only [Act.put, List.setIfInBounds_toArray, List.set_cons_zero, List.set_cons_succ, List.getElem_toArray, List.getElem_cons_zero, List.getElem_cons_succ]
      refine wpQuiet_nil ?_
      intro w9 hb9
      have HB9 := Lib.hid (HBQ.out.trans (hb9.mono HBQ.out.size))
      clear hb9
      have hw := HFD.out
      rw [show 65 - i = (65 - (i + 1)) + 1 by omega, whG, ← hB] at hw
      cases hq : B with
      | true =>
        rw [hq, if_pos rfl] at hw
        have FE := Lib.hid (show ((i : Int), true) = F by rw [HF.out]; exact hw)
        subst hq
        clear hw hB
        go_wp2_with fail
        go_ret2
        rw [← FE.out]
        exact ⟨rfl, B1.out.trans (HB9.out.mono B1.out.size)⟩
      | false =>
        rw [hq, if_neg (by decide)] at hw
        have RL := Lib.hid (show whRel w1 Q k (.int .i64 ((i + 1 : Nat) : Int)) w9 from ⟨i + 1, by omega, rfl, hw, HB9.out⟩)
        subst hq
        clear hw hB
        go_wp2_with fail
        exact ⟨RL.out, by simp [intOf]; omega⟩
    · have hie : i = 65 := by omega
      subst hie
      have FE := Lib.hid (show ((0 : Int), false) = F by rw [HF.out, ← hfd]; rfl)
      have HBQ := Lib.hid hb
      clear hfd hb hin hi
      go_wp2_with fail
      go_ret2
      rw [← FE.out]
      exact ⟨rfl, B1.out.trans (HBQ.out.mono B1.out.size)⟩
end Go.Proofs.Ytkmhbbcppjckiaa.Ma
