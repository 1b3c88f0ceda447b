/- A value of the reference's disk (foliotref05.Disk), and what it holds in memory. -/
import Derived.Test.YthcliaaoadfegaaZa
import Derived.Test.YthcliaaoadfegaaDw
import Derived.Test.YthcliaaoadfegaaDj
import Derived.Test.YthcliaaoadfegaaUe
namespace Go.Proofs.Ythcliaaoadfegaa.Dk
open Go Go.RowKit
set_option linter.unusedVariables false
set_option linter.unusedSimpArgs false
/-- The value's parts. -/
structure RV where
  so : Option Addr
  sn : Nat
  sc : Nat
  wo : Option Addr
  wn : Nat
  wc : Nat
  down : Bool
  fuse : Int
  wr : Int
  fl : Int
def RV.cells (v : RV) : List Value := [.slice v.so v.sn v.sc, .slice v.wo v.wn v.wc, .bool v.down, .int .i64 v.fuse, .int .i64 v.wr, .int .i64 v.fl]
theorem RV.cells_length (v : RV) : v.cells.length = 6 := rfl
theorem RV.cells_one (v : RV) : v.cells.toArray.all (·.oneCell') = true := all_oneCell_toArray (by
  intro u hu
  simp only [RV.cells, List.mem_cons, List.not_mem_nil, or_false] at hu
  rcases hu with rfl | rfl | rfl | rfl | rfl | rfl <;> rfl)
theorem Try.r5Size (v : RV) : (Try.prog.info? 32).map (·.size) = some v.cells.length := by rw [v.cells_length]; kernel_rfl
theorem Try.r5Size' (v : RV) : (Try.prog.info? 32).map (·.size) = some v.cells.toArray.size := by rw [List.size_toArray]; exact Try.r5Size v
/-- The zero value. -/
def zeroR : RV := ⟨none, 0, 0, none, 0, 0, false, 0, 0, 0⟩
/-- Block k holds the value v. -/
def RVB (w : World) (k : Nat) (v : RV) : Prop := w.heap[k]? = some (.cells v.cells.toArray 32 (0, 0))
variable {w w' : World} {k : Nat} {v : RV} {T : Nat → Prop}
theorem RVB.c0 (h : RVB w k v) : w.cell? ⟨k, 0, none⟩ = some (.slice v.so v.sn v.sc) := by rw [cell_of_row w k 0 _ _ _ h]; rfl
theorem RVB.c1 (h : RVB w k v) : w.cell? ⟨k, 1, none⟩ = some (.slice v.wo v.wn v.wc) := by rw [cell_of_row w k 1 _ _ _ h]; rfl
theorem RVB.c2 (h : RVB w k v) : w.cell? ⟨k, 2, none⟩ = some (.bool v.down) := by rw [cell_of_row w k 2 _ _ _ h]; rfl
theorem RVB.c3 (h : RVB w k v) : w.cell? ⟨k, 3, none⟩ = some (.int .i64 v.fuse) := by rw [cell_of_row w k 3 _ _ _ h]; rfl
theorem RVB.c4 (h : RVB w k v) : w.cell? ⟨k, 4, none⟩ = some (.int .i64 v.wr) := by rw [cell_of_row w k 4 _ _ _ h]; rfl
theorem RVB.c5 (h : RVB w k v) : w.cell? ⟨k, 5, none⟩ = some (.int .i64 v.fl) := by rw [cell_of_row w k 5 _ _ _ h]; rfl
theorem RVB.f (h : RVB w k v) (i : Nat) : w.frozen? ⟨k, i, none⟩ = false := frozen_of_row w k i _ _ h
theorem RVB.cs (h : RVB w k v) : ∀ j u, v.cells[j]? = some u → w.cell? ((⟨k, 0, none⟩ : Addr).add j) = some u := fun j u hu => by
  rw [Addr.add_mid, cell_of_row w k (0 + j) _ _ _ h, Nat.zero_add]
  simpa using hu
theorem RVB.set0 (h : RVB w k v) (o : Option Addr) (n c : Nat) : RVB (w.setCell ⟨k, 0, none⟩ (.slice o n c)) k { v with so := o, sn := n, sc := c } := Go.Joins.block_setCell (i := 0) h _
theorem RVB.set1 (h : RVB w k v) (o : Option Addr) (n c : Nat) : RVB (w.setCell ⟨k, 1, none⟩ (.slice o n c)) k { v with wo := o, wn := n, wc := c } := Go.Joins.block_setCell (i := 1) h _
theorem RVB.set2 (h : RVB w k v) (z : Bool) : RVB (w.setCell ⟨k, 2, none⟩ (.bool z)) k { v with down := z } := Go.Joins.block_setCell (i := 2) h _
theorem RVB.set3 (h : RVB w k v) (z : Int) : RVB (w.setCell ⟨k, 3, none⟩ (.int .i64 z)) k { v with fuse := z } := Go.Joins.block_setCell (i := 3) h _
theorem RVB.set4 (h : RVB w k v) (z : Int) : RVB (w.setCell ⟨k, 4, none⟩ (.int .i64 z)) k { v with wr := z } := Go.Joins.block_setCell (i := 4) h _
theorem RVB.set5 (h : RVB w k v) (z : Int) : RVB (w.setCell ⟨k, 5, none⟩ (.int .i64 z)) k { v with fl := z } := Go.Joins.block_setCell (i := 5) h _
theorem RVB.other (h : RVB w k v) {g i : Nat} (hg : k ≠ g) (u : Value) : RVB (w.setCell ⟨g, i, none⟩ u) k v := (Below.heap_setCell w ⟨g, i, none⟩ u k hg).trans h
theorem RVB.whole (h : RVB w k v) (v' : RV) : RVB (w.setRow k v'.cells.toArray) k v' := setRow_heap w k _ _ _ (0, 0) h
theorem RVB.frame {U : Nat → Prop} (h : RVB w k v) (f : Frm U w w') (hk : ¬ U k) : RVB w' k v := (f.block k (lt_of_row h) hk).trans h
theorem RVB.below {B : Nat} (h : RVB w k v) (f : Below B w w') (hB : w.heap.size ≤ B) : RVB w' k v := (f.block k (by have := lt_of_row h; omega)).trans h
theorem RVB.drewN (h : RVB w k v) (i : Nat) : RVB (w.drewN i) k v := h
theorem RVB.row (h : RVB w k v) : w.heap[k]? = some (.cells v.cells.toArray 32 (0, 0)) := h
theorem RVB.lt (h : RVB w k v) : k < w.heap.size := lt_of_row h
/-- Strings in a row that T does not hold. -/
def StrA (T : Nat → Prop) (w : World) (so : Option Addr) (s : List (List UInt8)) : Prop :=
  (so = none → s = []) ∧ ∀ a, so = some a → ∃ k, a = ⟨k, 0, none⟩ ∧ k < w.heap.size ∧ ¬ T k ∧ ∀ j, j < s.length → w.cell? ⟨k, j, none⟩ = some (.string (str (s.getD j [])))
/-- Writes in a row that T does not hold. -/
def WrA (T : Nat → Prop) (w : World) (wo : Option Addr) (W : List (Int × List UInt8)) : Prop :=
  (wo = none → W = []) ∧ ∀ a, wo = some a → ∃ k, a = ⟨k, 0, none⟩ ∧ k < w.heap.size ∧ ¬ T k ∧ ∀ j, j < W.length → w.cell? ⟨k, j * 2, none⟩ = some (.int .i64 (W.getD j default).1) ∧ w.cell? ⟨k, j * 2 + 1, none⟩ = some (.string (str (W.getD j default).2))
theorem Frm.cell {U : Nat → Prop} (f : Frm U w w') {k i : Nat} (hk : k < w.heap.size) (hU : ¬ U k) : w'.cell? ⟨k, i, none⟩ = w.cell? ⟨k, i, none⟩ := World.cell?_of_block (a := ⟨k, i, none⟩) (f.block k hk hU)
theorem StrA.frame {U : Nat → Prop} {so : Option Addr} {s : List (List UInt8)} (h : StrA T w so s) (f : Frm U w w') (hU : ∀ k, k < w.heap.size → U k → T k) : StrA T w' so s := by
  refine ⟨h.1, fun a ha => ?_⟩
  obtain ⟨k, rfl, hk, hT, hc⟩ := h.2 a ha
  exact ⟨k, rfl, Nat.lt_of_lt_of_le hk f.size, hT, fun j hj => by rw [f.cell hk (fun e => hT (hU k hk e))]; exact hc j hj⟩
theorem WrA.frame {U : Nat → Prop} {wo : Option Addr} {W : List (Int × List UInt8)} (h : WrA T w wo W) (f : Frm U w w') (hU : ∀ k, k < w.heap.size → U k → T k) : WrA T w' wo W := by
  refine ⟨h.1, fun a ha => ?_⟩
  obtain ⟨k, rfl, hk, hT, hc⟩ := h.2 a ha
  exact ⟨k, rfl, Nat.lt_of_lt_of_le hk f.size, hT, fun j hj => by rw [f.cell hk (fun e => hT (hU k hk e)), f.cell hk (fun e => hT (hU k hk e))]; exact hc j hj⟩
theorem StrA.more {T' : Nat → Prop} {so : Option Addr} {s : List (List UInt8)} (h : StrA T w so s) (hT : ∀ k, k < w.heap.size → T' k → T k) : StrA T' w so s :=
  ⟨h.1, fun a ha => by obtain ⟨k, e, hk, h1, hc⟩ := h.2 a ha; exact ⟨k, e, hk, fun e => h1 (hT k hk e), hc⟩⟩
theorem WrA.more {T' : Nat → Prop} {wo : Option Addr} {W : List (Int × List UInt8)} (h : WrA T w wo W) (hT : ∀ k, k < w.heap.size → T' k → T k) : WrA T' w wo W :=
  ⟨h.1, fun a ha => by obtain ⟨k, e, hk, h1, hc⟩ := h.2 a ha; exact ⟨k, e, hk, fun e => h1 (hT k hk e), hc⟩⟩
/-- The value stands for this disk and these writes. -/
structure RVOf (T : Nat → Prop) (w : World) (v : RV) (x : DS) (W : List (Int × List UInt8)) : Prop where
  sn : v.sn = x.s.length
  wn : v.wn = W.length
  dn : v.down = x.down
  fu : v.fuse = max x.fuse (-1)
  wr : v.wr = x.wr
  fl : v.fl = x.fl
  S : StrA T w v.so x.s
  W : WrA T w v.wo W
variable {x : DS} {W : List (Int × List UInt8)}
theorem RVOf.frame {U : Nat → Prop} (h : RVOf T w v x W) (f : Frm U w w') (hU : ∀ k, k < w.heap.size → U k → T k) : RVOf T w' v x W := ⟨h.sn, h.wn, h.dn, h.fu, h.wr, h.fl, h.S.frame f hU, h.W.frame f hU⟩
theorem RVOf.below {B : Nat} (h : RVOf T w v x W) (f : Below B w w') (hB : w.heap.size ≤ B) : RVOf T w' v x W := h.frame (Frm.of_below (T := fun _ => False) f hB) (fun _ _ e => e.elim)
theorem RVOf.more {T' : Nat → Prop} (h : RVOf T w v x W) (hT : ∀ k, k < w.heap.size → T' k → T k) : RVOf T' w v x W := ⟨h.sn, h.wn, h.dn, h.fu, h.wr, h.fl, h.S.more hT, h.W.more hT⟩
theorem RVOf.drewN (h : RVOf T w v x W) (i : Nat) : RVOf T (w.drewN i) v x W := h.frame ((Frm.refl (fun _ => False) w).drewN i) (fun _ _ e => e.elim)
theorem strA_of {w0 : World} {B : Nat} {sv : Value} {s : List (List UInt8)} (h : w.ownsRow B 9 1 sv s.length (s.map fun b => .string (str b))) (hT : ∀ k, T k → k < B) : ∃ so c, sv = .slice so s.length c ∧ StrA T w so s := by
  rcases h.2 with ⟨rfl, h0⟩ | ⟨g, cap, cur, rfl, hb, hh, h1, h2, h3, h4⟩
  · exact ⟨none, 0, by rw [h0], fun _ => List.eq_nil_of_length_eq_zero h0, fun a e => by cases e⟩
  · refine ⟨_, cap, rfl, (fun e => by cases e), fun a e => ?_⟩
    cases e
    refine ⟨g, rfl, lt_of_row hh, fun e => by have := hT g e; omega, fun j hj => ?_⟩
    rw [cell_of_row w g j _ _ _ hh, ← Array.getElem?_toList]
    have h5 : (cur.toList.take (s.length * 1))[j]? = (s.map fun b => Value.string (str b))[j]? := by rw [h4]
    rw [List.getElem?_take, if_pos (by omega)] at h5
    rw [h5]
    simp [List.getD, hj]
/-- The writes as cells. -/
def wcells (W : List (Int × List UInt8)) : List Value := (W.map fun p => [Value.int .i64 p.1, .string (str p.2)]).flatten
theorem wcells_length : ∀ W : List (Int × List UInt8), (wcells W).length = W.length * 2
  | [] => rfl
  | p :: W => by
    have ih := wcells_length W
    unfold wcells at ih ⊢
    simp only [List.map_cons, List.flatten_cons, List.length_append, List.length_cons, List.length_nil, ih]
    omega
theorem wcells_at : ∀ (W : List (Int × List UInt8)) (j : Nat), j < W.length → (wcells W)[j * 2]? = some (.int .i64 (W.getD j default).1) ∧ (wcells W)[j * 2 + 1]? = some (.string (str (W.getD j default).2))
  | [], j, h => by simp at h
  | p :: W, 0, h => by exact ⟨rfl, rfl⟩
  | p :: W, j + 1, h => by
    have ih := wcells_at W j (by simpa using h)
    have e : wcells (p :: W) = Value.int .i64 p.1 :: .string (str p.2) :: wcells W := rfl
    rw [e, show (j + 1) * 2 = j * 2 + 1 + 1 by omega, show j * 2 + 1 + 1 + 1 = (j * 2 + 1) + 1 + 1 by omega]
    simp only [List.getElem?_cons_succ, List.getD_cons_succ]
    exact ih
theorem wcells_app (W W' : List (Int × List UInt8)) : wcells (W ++ W') = wcells W ++ wcells W' := by simp [wcells]
theorem wcells_one (W : List (Int × List UInt8)) : ∀ u ∈ wcells W, u.oneCell' = true := by
  intro u hu
  obtain ⟨c, hc, hu⟩ := List.mem_flatten.1 hu
  obtain ⟨p, _, rfl⟩ := List.mem_map.1 hc
  simp only [List.mem_cons, List.not_mem_nil, or_false] at hu
  rcases hu with rfl | rfl <;> rfl
theorem wrA_of {B : Nat} {wv : Value} (h : w.ownsRow B 80 2 wv W.length (wcells W)) (hT : ∀ k, T k → k < B) : ∃ wo c, wv = .slice wo W.length c ∧ WrA T w wo W := by
  rcases h.2 with ⟨rfl, h0⟩ | ⟨g, cap, cur, rfl, hb, hh, h1, h2, h3, h4⟩
  · exact ⟨none, 0, by rw [h0], fun _ => List.eq_nil_of_length_eq_zero h0, fun a e => by cases e⟩
  · refine ⟨_, cap, rfl, (fun e => by cases e), fun a e => ?_⟩
    cases e
    refine ⟨g, rfl, lt_of_row hh, fun e => by have := hT g e; omega, fun j hj => ?_⟩
    obtain ⟨q1, q2⟩ := wcells_at W j hj
    have key : ∀ i, i < W.length * 2 → cur.toList[i]? = (wcells W)[i]? := fun i hi => by
      have h5 : (cur.toList.take (W.length * 2))[i]? = (wcells W)[i]? := by rw [h4]
      rwa [List.getElem?_take, if_pos hi] at h5
    refine ⟨?_, ?_⟩
    · rw [cell_of_row w g (j * 2) _ _ _ hh, ← Array.getElem?_toList, key _ (by omega), q1]
    · rw [cell_of_row w g (j * 2 + 1) _ _ _ hh, ← Array.getElem?_toList, key _ (by omega), q2]
theorem results_row_tmp {fn : Func} {p u : Tmp} {ty : TypeId} (h : fn.results = #[.cell p ty, .tmp u]) (tmps : Array Value) (w : World) (g : Nat) (t : TypeId) (cs : List Value) (fr : Nat × Nat) (d : TypeDesc) (v : Value)
    (hv : tmps.getD u undef = v) (hp : tmps.getD p undef = .pointer (some ⟨g, 0, none⟩)) (hg : w.heap[g]? = some (.cells cs.toArray t fr)) (hu : Try.prog.underlying ty = some d) (hd : d.isRow = true) (hi : (Try.prog.info? ty).map (·.size) = some cs.length) :
    (results fn tmps).run Try.prog w = .ok (.tuple #[.agg cs.toArray, v]) w := by
  have hp' : tmps[p]?.getD undef = .pointer (some ⟨g, 0, none⟩) := by simpa using hp
  have hv' : tmps[u]?.getD undef = v := by simpa using hv
  have hl := run_loadVar_mid (P := Try.prog) w g 0 ty cs d (fun j u hu => by
    rw [Nat.zero_add, cell_of_row w g j _ _ _ hg]
    simpa using hu) hu hd hi
  simp [results, h, hp', hv', asAddr, hl]
theorem r5s_app (a b : List UInt8) : str a ++ str b = str (a ++ b) := by
  simp [str, ByteArray.ext_iff]
theorem r5s_size (a : List UInt8) : (str a).size = a.length := by simp [str, ByteArray.size]
end Go.Proofs.Ythcliaaoadfegaa.Dk
