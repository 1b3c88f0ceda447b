/- clone: its walk. -/
import Derived.Test.YtnfobnnbeefeeaaGreatDoorG3
import Derived.Test.YtnfobnnbeefeeaaGreatDoorG2
namespace Go.Proofs.YtnfobnnbeefeeaaGreatDoor.Wi
open Go Go.RowKit
set_option linter.unusedVariables false
set_option linter.unusedSimpArgs false
theorem Tryz.infoVal : (Tryz.prog.info? 26).map (fun i => (i.zero, i.size, i.bytes)) = some (some (.agg #[.int .i64 0, .int .i64 0, .string ⟨#[]⟩, .slice none 0 0]), 4, 56) := by kernel_rfl
section
variable {P : Program} {Q : Exit → Act → World → Prop}
theorem slot_appendK {o : Oper} {a : Act} {w w' : World} {K : Act → World → Prop} {s x : Operand} {t tx : TypeId} {v xv v' : Value}
    (ho : o.op = .call { callee := .builtin .append, args := #[s, x], argTypes := #[t, tx] }) (hs : a.eval s = v) (hx : a.eval x = xv) (hr : (Builtin.append_ #[t, tx] o.type #[v, xv]).run P w = .ok v' w') (h : K (a.put o.dst v') w') : o.wp P a w K Q := by
  unfold Oper.wp execOp
  simp only [ho, resolve, invoke, builtin, Sem.run_bind, Sem.run_pure, Result.andThen_ok, List.map_toArray, List.map_cons, List.map_nil, hs, hx, hr]
  exact h
theorem slot_skipK {o : Oper} {a : Act} {w w' : World} {K : Act → World → Prop} (hr : (execOp a.eval o).run P w = .ok .skip w') (h : K (a.put o.dst undef) w') : o.wp P a w K Q := by
  unfold Oper.wp
  rw [hr]
  exact h
theorem slot_loadK {o : Oper} {a : Act} {w : World} {K : Act → World → Prop} (ty : TypeId) (x : Operand) (ho : o.op = .load ty x)
    (p : Addr) (hx : a.eval x = .pointer (some p)) (cs : List Value) (d : TypeDesc) (hc : ∀ j v, cs[j]? = some v → w.cell? (p.add j) = some v)
    (hu : P.underlying ty = some d) (hd : d.isRow = true) (hi : (P.info? ty).map (·.size) = some cs.length)
    (h : K (a.put o.dst (.agg cs.toArray)) w) : o.wp P a w K Q := by
  unfold Oper.wp execOp
  simp only [ho, hx, Instr.loadAt, Instr.sureAddr, Sem.run_bind, Sem.run_pure, Result.andThen_ok, run_loadVar_allW w p ty cs d hc hu hd hi]
  exact h
theorem runWithK {o : Oper} {a : Act} {w : World} {r : Result Next} (ev : Operand → Value) (h1 : (execOp a.eval o).run P w = (execOp ev o).run P w) (h2 : (execOp ev o).run P w = r) : (execOp a.eval o).run P w = r := h1.trans h2
end
/-- A copy's elements and row. -/
structure Cln (B : Nat) (w : World) (v : VT) (ao : Option Addr) (c : Nat) (Y : List VT) : Prop where
  nz : Y.map VT.nz = if v.kd = 3 then v.lst.map VT.nz else []
  elems : ∀ y ∈ Y, y.At w.heap.size w ∧ y.In (B ≤ ·)
  own : w.ownsRow B 26 4 (.slice ao Y.length c) Y.length (vcs Y)
  big : Y.length * 56 ≤ 140737488355328
def cln (v : VT) (ao : Option Addr) (c : Nat) (Y : List VT) : VT := .mk v.kd (if v.kd = 1 then v.nu else 0) (if v.kd = 2 then v.tx else []) ao c Y
theorem cln_nz {B : Nat} {w : World} {v : VT} {ao : Option Addr} {c : Nat} {Y : List VT} (h : Cln B w v ao c Y) : (cln v ao c Y).nz = v.nz := by
  obtain ⟨k, n, s, ao2, c2, l⟩ := v
  have h1 := h.nz
  simp only [VT.kd, VT.lst] at h1
  unfold cln
  rw [VT.nz, VT.nz, nzL_map, nzL_map, h1]
  simp only [VT.kd, VT.nu, VT.tx]
  by_cases e1 : k = 1
  · subst e1; simp
  · by_cases e2 : k = 2
    · subst e2; simp
    · by_cases e3 : k = 3
      · subst e3; simp
      · simp [e1, e2, e3]
theorem ite_bdI {p : Prop} [Decidable p] {n : Int} (h : -9223372036854775808 ≤ n ∧ n ≤ 9223372036854775807) : -9223372036854775808 ≤ (if p then n else 0) ∧ (if p then n else 0) ≤ 9223372036854775807 := by
  split
  · exact h
  · omega
theorem ite_bdL {p : Prop} [Decidable p] {s : List UInt8} {N : Nat} (h : s.length ≤ N) : (if p then s else []).length ≤ N := by
  split
  · exact h
  · exact Nat.zero_le _
theorem cln_at {N B : Nat} {w w0 : World} {v : VT} {ao : Option Addr} {c : Nat} {Y : List VT} (h : Cln B w v ao c Y) (hv : v.At N w0) : (cln v ao c Y).At w.heap.size w := by
  obtain ⟨k, n, s, ao2, c2, l⟩ := v
  have hf := hv.fit
  unfold cln
  rw [VT.At]
  simp only [VT.kd, VT.nu, VT.tx]
  refine ⟨hf.1, ?_, ?_, h.big, fun hl => ?_, atL_of fun y hy => (h.elems y hy).1⟩
  · exact ite_bdI hf.2.1
  · exact ite_bdL hf.2.2.1
  · obtain ⟨y, Y', rfl⟩ : ∃ y Y', Y = y :: Y' := by
      cases Y with
      | nil => exact absurd rfl hl
      | cons y Y' => exact ⟨y, Y', rfl⟩
    have h0 : ∃ u, (vcs (y :: Y'))[0]? = some u := by
      cases y
      exact ⟨_, rfl⟩
    obtain ⟨u, hu⟩ := h0
    obtain ⟨g, rfl, hB, hg, _⟩ := own_cellK h.own hu
    refine ⟨_, rfl, hg, fun j v hj => ?_⟩
    obtain ⟨g', e, _, _, hc⟩ := own_cellK h.own hj
    injection e with e
    injection e with e
    rw [Addr.add_mid, Nat.zero_add, e]
    exact hc
theorem cln_in {B : Nat} {w : World} {v : VT} {ao : Option Addr} {c : Nat} {Y : List VT} (h : Cln B w v ao c Y) : (cln v ao c Y).In (B ≤ ·) := by
  unfold cln
  rw [VT.In]
  refine ⟨fun hl ad e => ?_, inL_of fun y hy => (h.elems y hy).2⟩
  subst e
  rcases h.own.2 with ⟨e1, e0⟩ | ⟨g, cap', cur, e1, hb, hh, _⟩
  · cases e1
  · injection e1 with e1
    injection e1 with e1
    subst e1
    exact hb
theorem Cln.keep {B : Nat} {w w' : World} {v : VT} {ao : Option Addr} {c : Nat} {Y : List VT} (h : Cln B w v ao c Y) (hs : w.heap.size ≤ w'.heap.size) (hk : ∀ k, k < w.heap.size → B ≤ k → w'.heap[k]? = w.heap[k]?) : Cln B w' v ao c Y :=
  ⟨h.nz, fun y hy => ⟨((h.elems y hy).1.keepT (h.elems y hy).2 hk).mono hs, (h.elems y hy).2⟩, own_keepK h.own (fun b hb hlt => hk b hlt (h.own.lt b hb).1), h.big⟩
theorem Cln.mono {B C : Nat} {w : World} {v : VT} {ao : Option Addr} {c : Nat} {Y : List VT} (h : Cln B w v ao c Y) (hC : C ≤ B) : Cln C w v ao c Y :=
  ⟨h.nz, fun y hy => ⟨(h.elems y hy).1, (h.elems y hy).2.imp fun k hk => Nat.le_trans hC hk⟩, own_base h.own hC, h.big⟩
def ClPost (v : VT) (w : World) (e : Ending) (w' : World) : Prop := ∃ ao c Y, e = .returned (.agg (cln v ao c Y).cells.toArray) ∧ Cln w.heap.size w' v ao c Y ∧ Below w.heap.size w w'
def ClAny (v : VT) : Prop := ∀ (N : Nat) (w : World), v.At N w → N ≤ w.heap.size → Calls Tryz.prog 120 #[.agg v.cells.toArray] w (ClPost v w)
def GoodC (B : Nat) (W : World) (x y : VT) : Prop := y.nz = x.nz ∧ y.At W.heap.size W ∧ y.In (B ≤ ·)
theorem GoodC.keep {B : Nat} {W W' : World} {x y : VT} (h : GoodC B W x y) (hs : W.heap.size ≤ W'.heap.size) (hk : ∀ k, k < W.heap.size → B ≤ k → W'.heap[k]? = W.heap[k]?) : GoodC B W' x y := ⟨h.1, (h.2.1.keepT h.2.2 hk).mono hs, h.2.2⟩
structure AppC (w5 : World) (B3 j : Nat) (aL : Option Addr) (cL : Nat) (Y : List VT) (x : VT) (W : World) (a2 : Option Addr) (c2 : Nat) (y : VT) (w3 : World) : Prop where
  good : GoodC w5.heap.size w3 x y
  below : Below w5.heap.size w5 w3
  own : W.ownsRow B3 26 4 (.slice a2 (j + 1) c2) (j + 1) (vcs Y ++ y.cells)
  low : Below B3 w3 W
  blk : ∀ k, k < w3.heap.size → some k ≠ (Value.slice aL j cL).ownBlock → W.heap[k]? = w3.heap[k]?
  grown : (Value.slice a2 (j + 1) c2).ownBlock = (Value.slice aL j cL).ownBlock ∨ (Value.slice a2 (j + 1) c2).ownBlock = some (w3.heap.size + 1)
structure ClS (w5 : World) (g3 B3 j : Nat) (aL : Option Addr) (cL : Nat) (Y : List VT) (x : VT) (l1 l2 l3 l4 l5 l7 : Bool) (v3 v4 v5 : Value) (W : World) : Prop where
  i3 : l3 = true → l2 = true
  i4 : l4 = true → l3 = true
  i5 : l5 = true → l4 = true ∧ l1 = true
  i7 : l7 = true → l5 = true
  pre : l3 = false → Below w5.heap.size w5 W
  called : l3 = true → l4 = false → ∃ y, v3 = .agg y.cells.toArray ∧ Below w5.heap.size w5 W ∧ GoodC w5.heap.size W x y
  built : l4 = true → l5 = false → ∃ y w3, W = w3.alloc (.cells y.cells.toArray 26) ∧ v4 = .slice (some ⟨w3.heap.size, 0, none⟩) 1 1 ∧ Below w5.heap.size w5 w3 ∧ GoodC w5.heap.size w3 x y
  app : l5 = true → l7 = false → ∃ a2 c2 y w3, v5 = .slice a2 (j + 1) c2 ∧ AppC w5 B3 j aL cL Y x W a2 c2 y w3
  fin : l7 = true → ∃ a2 c2 y w3 W', W = W'.setCell ⟨g3, 3, none⟩ (.slice a2 (j + 1) c2) ∧ AppC w5 B3 j aL cL Y x W' a2 c2 y w3
theorem ClS.low {w5 : World} {g3 B3 j : Nat} {aL : Option Addr} {cL : Nat} {Y : List VT} {x : VT} {l1 l2 l3 l4 l5 l7 : Bool} {v3 v4 v5 : Value} {W : World} (h : ClS w5 g3 B3 j aL cL Y x l1 l2 l3 l4 l5 l7 v3 v4 v5 W) (h5 : l5 = false) : Below w5.heap.size w5 W := by
  cases l3 with
  | false => exact h.pre rfl
  | true =>
    cases l4 with
    | false => obtain ⟨y, _, hb, _⟩ := h.called rfl rfl; exact hb
    | true => obtain ⟨y, w3, rfl, _, hb, _⟩ := h.built rfl h5; exact hb.alloc hb.size _
def clJ (w5 : World) (g3 B3 j : Nat) (aL : Option Addr) (cL : Nat) (Y : List VT) (x : VT) (L : Nat → Bool) (y : Nat → Value) (W : World) : Prop :=
  (L 0 = true → y 0 = .pointer (some ⟨g3, 3, none⟩)) ∧ (L 1 = true → y 1 = .slice aL j cL) ∧ (L 2 = true → y 2 = .agg x.cells.toArray) ∧ (L 6 = true → y 6 = .pointer (some ⟨g3, 3, none⟩)) ∧
  ClS w5 g3 B3 j aL cL Y x (L 1) (L 2) (L 3) (L 4) (L 5) (L 7) (y 3) (y 4) (y 5) W
theorem clJ.s0 {w5 : World} {g3 B3 j : Nat} {aL : Option Addr} {cL : Nat} {Y : List VT} {x : VT} {L : Nat → Bool} {y : Nat → Value} {W : World} (h : clJ w5 g3 B3 j aL cL Y x L y W) : clJ w5 g3 B3 j aL cL Y x (upd L 0 true) (upd y 0 (.pointer (some ⟨g3, 3, none⟩))) W := by
  obtain ⟨a0, a1, a2, a6, S⟩ := h
  exact ⟨fun _ => rfl, a1, a2, a6, S⟩
theorem clJ.s6 {w5 : World} {g3 B3 j : Nat} {aL : Option Addr} {cL : Nat} {Y : List VT} {x : VT} {L : Nat → Bool} {y : Nat → Value} {W : World} (h : clJ w5 g3 B3 j aL cL Y x L y W) : clJ w5 g3 B3 j aL cL Y x (upd L 6 true) (upd y 6 (.pointer (some ⟨g3, 3, none⟩))) W := by
  obtain ⟨a0, a1, a2, a6, S⟩ := h
  exact ⟨a0, a1, a2, fun _ => rfl, S⟩
theorem clJ.s1 {w5 : World} {g3 B3 j : Nat} {aL : Option Addr} {cL : Nat} {Y : List VT} {x : VT} {L : Nat → Bool} {y : Nat → Value} {W : World} (h : clJ w5 g3 B3 j aL cL Y x L y W) : clJ w5 g3 B3 j aL cL Y x (upd L 1 true) (upd y 1 (.slice aL j cL)) W := by
  obtain ⟨a0, a1, a2, a6, S⟩ := h
  exact ⟨a0, fun _ => rfl, a2, a6, ⟨S.i3, S.i4, fun h => ⟨(S.i5 h).1, rfl⟩, S.i7, S.pre, S.called, S.built, S.app, S.fin⟩⟩
theorem clJ.s2 {w5 : World} {g3 B3 j : Nat} {aL : Option Addr} {cL : Nat} {Y : List VT} {x : VT} {L : Nat → Bool} {y : Nat → Value} {W : World} (h : clJ w5 g3 B3 j aL cL Y x L y W) : clJ w5 g3 B3 j aL cL Y x (upd L 2 true) (upd y 2 (.agg x.cells.toArray)) W := by
  obtain ⟨a0, a1, a2, a6, S⟩ := h
  exact ⟨a0, a1, fun _ => rfl, a6, ⟨fun _ => rfl, S.i4, S.i5, S.i7, S.pre, S.called, S.built, S.app, S.fin⟩⟩
theorem ClS.off {w5 : World} {g3 B3 j : Nat} {aL : Option Addr} {cL : Nat} {Y : List VT} {x : VT} {l1 l2 l3 l4 l5 l7 : Bool} {v3 v4 v5 : Value} {W : World} (h : ClS w5 g3 B3 j aL cL Y x l1 l2 l3 l4 l5 l7 v3 v4 v5 W) : (l3 = false → l4 = false) ∧ (l4 = false → l5 = false) ∧ (l5 = false → l7 = false) := by
  refine ⟨fun e => ?_, fun e => ?_, fun e => ?_⟩
  · cases l4 with
    | false => rfl
    | true => rw [h.i4 rfl] at e; cases e
  · cases l5 with
    | false => rfl
    | true => rw [(h.i5 rfl).1] at e; cases e
  · cases l7 with
    | false => rfl
    | true => rw [h.i7 rfl] at e; cases e
theorem clJ.s3 {w5 : World} {g3 B3 j : Nat} {aL : Option Addr} {cL : Nat} {Y : List VT} {x : VT} {L : Nat → Bool} {y : Nat → Value} {W W' : World} (h : clJ w5 g3 B3 j aL cL Y x L y W) (h3 : L 3 = false) (h2 : L 2 = true) (z : VT) (hb : Below w5.heap.size w5 W') (hz : GoodC w5.heap.size W' x z) : clJ w5 g3 B3 j aL cL Y x (upd L 3 true) (upd y 3 (.agg z.cells.toArray)) W' := by
  obtain ⟨a0, a1, a2, a6, S⟩ := h
  have h4 := S.off.1 h3
  have h5 := S.off.2.1 h4
  have h7 := S.off.2.2 h5
  exact ⟨a0, a1, a2, a6, ⟨fun _ => h2, fun _ => rfl, S.i5, S.i7, fun e => (by cases e), fun _ _ => ⟨z, rfl, hb, hz⟩, fun e => (by rw [show (upd L 3 true) 4 = L 4 from rfl, h4] at e; cases e), fun e => (by rw [show (upd L 3 true) 5 = L 5 from rfl, h5] at e; cases e), fun e => (by rw [show (upd L 3 true) 7 = L 7 from rfl, h7] at e; cases e)⟩⟩
theorem clJ.s4 {w5 : World} {g3 B3 j : Nat} {aL : Option Addr} {cL : Nat} {Y : List VT} {x : VT} {L : Nat → Bool} {y : Nat → Value} {W : World} (h : clJ w5 g3 B3 j aL cL Y x L y W) (h4 : L 4 = false) (h3 : L 3 = true) (z : VT) (hb : Below w5.heap.size w5 W) (hz : GoodC w5.heap.size W x z) : clJ w5 g3 B3 j aL cL Y x (upd L 4 true) (upd y 4 (.slice (some ⟨W.heap.size, 0, none⟩) 1 1)) (W.alloc (.cells z.cells.toArray 26)) := by
  obtain ⟨a0, a1, a2, a6, S⟩ := h
  have h5 := S.off.2.1 h4
  have h7 := S.off.2.2 h5
  exact ⟨a0, a1, a2, a6, ⟨S.i3, fun _ => h3, fun e => (by rw [show (upd L 4 true) 5 = L 5 from rfl, h5] at e; cases e), S.i7, fun e => (by rw [show (upd L 4 true) 3 = L 3 from rfl, h3] at e; cases e), fun _ e => (by cases e), fun _ _ => ⟨z, W, rfl, rfl, hb, hz⟩, fun e => (by rw [show (upd L 4 true) 5 = L 5 from rfl, h5] at e; cases e), fun e => (by rw [show (upd L 4 true) 7 = L 7 from rfl, h7] at e; cases e)⟩⟩
theorem clJ.s5 {w5 : World} {g3 B3 j : Nat} {aL : Option Addr} {cL : Nat} {Y : List VT} {x : VT} {L : Nat → Bool} {y : Nat → Value} {W W' : World} (h : clJ w5 g3 B3 j aL cL Y x L y W) (h5 : L 5 = false) (h4 : L 4 = true) (h1 : L 1 = true) {a2 : Option Addr} {c2 : Nat} {z : VT} {w3 : World} (ha : AppC w5 B3 j aL cL Y x W' a2 c2 z w3) : clJ w5 g3 B3 j aL cL Y x (upd L 5 true) (upd y 5 (.slice a2 (j + 1) c2)) W' := by
  obtain ⟨a0, a1, a2', a6, S⟩ := h
  have h7 := S.off.2.2 h5
  have h3 := S.i4 h4
  exact ⟨a0, a1, a2', a6, ⟨S.i3, S.i4, fun _ => ⟨h4, h1⟩, fun _ => rfl, fun e => (by rw [show (upd L 5 true) 3 = L 3 from rfl, h3] at e; cases e), fun _ e => (by rw [show (upd L 5 true) 4 = L 4 from rfl, h4] at e; cases e), fun _ e => (by cases e), fun _ _ => ⟨a2, c2, z, w3, rfl, ha⟩, fun e => (by rw [show (upd L 5 true) 7 = L 7 from rfl, h7] at e; cases e)⟩⟩
theorem clJ.s7 {w5 : World} {g3 B3 j : Nat} {aL : Option Addr} {cL : Nat} {Y : List VT} {x : VT} {L : Nat → Bool} {y : Nat → Value} {W : World} (h : clJ w5 g3 B3 j aL cL Y x L y W) (h5 : L 5 = true) {a2 : Option Addr} {c2 : Nat} {z : VT} {w3 : World} (ha : AppC w5 B3 j aL cL Y x W a2 c2 z w3) : clJ w5 g3 B3 j aL cL Y x (upd L 7 true) (upd y 7 undef) (W.setCell ⟨g3, 3, none⟩ (.slice a2 (j + 1) c2)) := by
  obtain ⟨a0, a1, a2', a6, S⟩ := h
  have h4 := (S.i5 h5).1
  have h3 := S.i4 h4
  exact ⟨a0, a1, a2', a6, ⟨S.i3, S.i4, S.i5, fun _ => h5, fun e => (by rw [show (upd L 7 true) 3 = L 3 from rfl, h3] at e; cases e), fun _ e => (by rw [show (upd L 7 true) 4 = L 4 from rfl, h4] at e; cases e), fun _ e => (by rw [show (upd L 7 true) 5 = L 5 from rfl, h5] at e; cases e), fun _ e => (by cases e), fun _ => ⟨a2, c2, z, w3, W, rfl, ha⟩⟩⟩
end Go.Proofs.YtnfobnnbeefeeaaGreatDoor.Wi
/- clone, walked. -/
namespace Go.Proofs.YtnfobnnbeefeeaaGreatDoor.Wi
open Go Go.RowKit
set_option linter.unusedVariables false
set_option linter.unusedSimpArgs false
structure ClW (w3 : World) (g3 : Nat) (wr : World) : Prop where
  os : wr.os = w3.os
  tape : wr.tape = w3.tape
  output : wr.output = w3.output
  size : w3.heap.size ≤ wr.heap.size
  block : ∀ k, k < w3.heap.size → k ≠ g3 → wr.heap[k]? = w3.heap[k]?
def clRel (v : VT) (w3 : World) (g3 : Nat) (l : List VT) (i : Value) (wr : World) : Prop :=
  ∃ (j : Nat) (Y : List VT) (ao : Option Addr) (c : Nat), i = .int .i64 (j : Int) ∧ j ≤ l.length ∧ Y.length = j ∧ Y.map VT.nz = (l.take j).map VT.nz ∧ wr.heap[g3]? = some (.cells #[.int .i64 3, .int .i64 0, .string ⟨#[]⟩, .slice ao j c] 26 (0, 0)) ∧
    wr.ownsRow w3.heap.size 26 4 (.slice ao j c) j (vcs Y) ∧ (∀ y ∈ Y, y.At wr.heap.size wr ∧ y.In (w3.heap.size ≤ ·) ∧ y.In (fun k => some k ≠ (Value.slice ao j c).ownBlock)) ∧ ClW w3 g3 wr
theorem Tryz.val4 (cs : List Value) (h : cs.length = 4) : (Tryz.prog.info? 26).map (·.size) = some cs.toArray.size := by rw [List.size_toArray, h]; kernel_rfl
theorem ClW.below {w3 wr : World} {g3 B : Nat} (h : ClW w3 g3 wr) (h1 : B ≤ g3) (h2 : B ≤ w3.heap.size) : Below B w3 wr := ⟨h.os, h.tape, h.output, h.size, fun k hk => h.block k (by omega) (by omega)⟩
set_option maxHeartbeats 8000000 in
set_option maxRecDepth 100000 in
theorem cl_any : ∀ v : VT, ClAny v := by
  intro v
  induction v using VT.ind with
  | h k n s ao c l ih =>
    intro N w hv hN
    obtain ⟨hk, hn, hs, hll⟩ := hv.fit
    have hl4 := hv.fit4
    obtain ⟨w1, hw1⟩ : ∃ w1, w1 = w.alloc (.cells (VT.mk k n s ao c l).cells.toArray 26) := ⟨_, rfl⟩
    obtain ⟨g, hg⟩ : ∃ g, g = w.heap.size := ⟨_, rfl⟩
    obtain ⟨w2, hw2⟩ : ∃ w2, w2 = w1.alloc (.cells z4.toArray 26) := ⟨_, rfl⟩
    obtain ⟨g2, hg2⟩ : ∃ g, g = w.heap.size + 1 := ⟨_, rfl⟩
    obtain ⟨w3, hw3⟩ : ∃ w3, w3 = w2.alloc (.cells #[.int .i64 k, .int .i64 0, .string ⟨#[]⟩, .slice none 0 0] 26) := ⟨_, rfl⟩
    obtain ⟨g3, hg3⟩ : ∃ g, g = w2.heap.size := ⟨_, rfl⟩
    have hg2' : g2 = w1.heap.size := by rw [hg2, hw1]; simp
    have hs3 : w3.heap.size = g3 + 1 := by rw [hw3, hg3]; simp
    have hs2 : w2.heap.size = g2 + 1 := by rw [hw2, hg2']; simp
    have hb1 : Below w.heap.size w w1 := by rw [hw1]; exact (Below.refl _ _).alloc (Nat.le_refl _) _
    have hb2 : Below w1.heap.size w1 w2 := by rw [hw2]; exact (Below.refl _ _).alloc (Nat.le_refl _) _
    have hb3 : Below w2.heap.size w2 w3 := by rw [hw3]; exact (Below.refl _ _).alloc (Nat.le_refl _) _
    have n1 : w1.heap[g]? = some (.cells (VT.mk k n s ao c l).cells.toArray 26 (0, 0)) := by rw [hw1, hg]; exact heap_alloc_new _ _
    have n2 : w2.heap[g2]? = some (.cells z4.toArray 26 (0, 0)) := by rw [hw2, hg2']; exact heap_alloc_new _ _
    have n3 : w3.heap[g3]? = some (.cells #[.int .i64 k, .int .i64 0, .string ⟨#[]⟩, .slice none 0 0] 26 (0, 0)) := by rw [hw3, hg3]; exact heap_alloc_new _ _
    have n12 := (hb2.block g (lt_of_rowW n1)).trans n1
    have n13 := (hb3.block g (lt_of_rowW n12)).trans n12
    have n23 := (hb3.block g2 (lt_of_rowW n2)).trans n2
    have hbw : Below w.heap.size w w3 := hb1.trans ((hb2.trans (hb3.mono hb2.size)).mono hb1.size)
    have k0 : w2.cell? ⟨g, 0, none⟩ = some (.int .i64 k) := by rw [cell_of_rowW w2 g 0 _ _ _ n12]; rfl
    have d0 : w3.cell? ⟨g, 0, none⟩ = some (.int .i64 k) := by rw [cell_of_rowW w3 g 0 _ _ _ n13]; rfl
    have d1 : w3.cell? ⟨g, 1, none⟩ = some (.int .i64 n) := by rw [cell_of_rowW w3 g 1 _ _ _ n13]; rfl
    have d2 : w3.cell? ⟨g, 2, none⟩ = some (.string (str s)) := by rw [cell_of_rowW w3 g 2 _ _ _ n13]; rfl
    have d3 : w3.cell? ⟨g, 3, none⟩ = some (.slice ao l.length c) := by rw [cell_of_rowW w3 g 3 _ _ _ n13]; rfl
    have e1 : w3.cell? ⟨g3, 1, none⟩ = some (.int .i64 0) := by rw [cell_of_rowW w3 g3 1 _ _ _ n3]; rfl
    have e2 : w3.cell? ⟨g3, 2, none⟩ = some (.string ⟨#[]⟩) := by rw [cell_of_rowW w3 g3 2 _ _ _ n3]; rfl
    have fz : ∀ i, w3.frozen? ⟨g3, i, none⟩ = false := fun i => frozen_of_row w3 g3 i _ _ n3
    have f1 := fz 1
    have f2 := fz 2
    have hgl : g2 < g3 ∧ w.heap.size ≤ g2 ∧ g3 < w3.heap.size ∧ w.heap.size ≤ g3 ∧ N ≤ g3 := by have := hb1.size; have := hb2.size; omega
    have SZ := Lib.hid Tryz.valSize
    have SZ' := Lib.hid Tryz.valSize'
    have S4 := Lib.hid (show ∀ x : VT, 4 = x.cells.toArray.size from fun x => by rw [List.size_toArray, x.cells_len])
    have SB := Lib.hid (show (Tryz.prog.info? 26).map (·.size) = some (#[.int .i64 k, .int .i64 0, .string ⟨#[]⟩, .slice none 0 0] : Array Value).size by kernel_rfl)
    have HV := Lib.hid hv
    have IH := Lib.hid ih
    have N13 := Lib.hid n13
    have N23 := Lib.hid n23
    have N3 := Lib.hid n3
    have HBW := Lib.hid hbw
    have HW1 := Lib.hid (show w1 = w.alloc (.cells #[.int .i64 k, .int .i64 n, .string (str s), .slice ao l.length c] 26) from hw1)
    have HW2 := Lib.hid (show w2 = w1.alloc (.cells #[.int .i64 0, .int .i64 0, .string ⟨#[]⟩, .slice none 0 0] 26) from hw2)
    have HW3 := Lib.hid hw3
    have HG := Lib.hid hg
    have HG2 := Lib.hid hg2
    have HG3 := Lib.hid hg3
    have HGL := Lib.hid hgl
    clear hw1 hg hw2 hg2 hw3 hg3 hg2' hs3 hs2 hb1 hb2 hb3 n1 n2 n3 n12 n13 n23 hbw fz hgl hv ih
    show Calls Tryz.prog 120 #[.agg #[.int .i64 k, .int .i64 n, .string (str s), .slice ao l.length c]] w _
    obtain ⟨S, hS⟩ : ∃ S, S = str s := ⟨_, rfl⟩
    rw [← hS] at HW1 d2 ⊢
    have HS := Lib.hid hS
    clear hS
    go_enter Tryz.func120, Tryz.ntmps120
    go_upto_region 1 with fail
    rw [← HW1.out, ← HW2.out, ← HG2.out, ← HG.out]
    go_upto_region 2 with (with_reducible show wpList _ _ _ _ _ _; refine wpList_store_newW rfl 26 (.tmp 3) (.tmp 8) rfl 26 _ #[.int .i64 k, .int .i64 0, .string ⟨#[]⟩, .slice none 0 0] rfl rfl SB.out rfl rfl ?_)
    rw [← HW3.out, ← HG3.out]
    by_cases h1 : k = 1
    · subst h1
      obtain ⟨wz, hwz⟩ : ∃ wz, wz = w3.setCell ⟨g3, 1, none⟩ (.int .i64 n) := ⟨_, rfl⟩
      have hzrow : wz.heap[g3]? = some (.cells (cln (VT.mk 1 n s ao c l) none 0 []).cells.toArray 26 (0, 0)) := by rw [hwz]; exact Go.Joins.block_setCell (i := 1) N3.out _
      have hz2 : wz.heap[g2]? = some (.cells z4.toArray 26 (0, 0)) := by rw [hwz]; exact (Below.heap_setCell w3 ⟨g3, 1, none⟩ _ g2 (by have := HGL.out; show g2 ≠ g3; omega)).trans N23.out
      have hbz : Below w.heap.size w wz := by rw [hwz]; exact HBW.out.setCell (p := ⟨g3, 1, none⟩) HGL.out.2.2.2.1 _
      have hcln : Cln w3.heap.size wz (VT.mk 1 n s ao c l) none 0 [] := ⟨rfl, (fun y hy => by cases hy), World.ownsRow_nil _ _ _ _, by decide⟩
      have HWZ := Lib.hid hwz
      clear hwz
      go_upto_region 13 with fail
      rw [← HWZ.out]
      obtain ⟨CC, hCC⟩ : ∃ CC, CC = cln (VT.mk 1 n s ao c l) none 0 [] := ⟨_, rfl⟩
      have hzrow2 : wz.heap[g3]? = some (.cells CC.cells.toArray 26 (0, 0)) := by rw [hCC]; exact hzrow
      have KZ := Lib.hid (show ∀ (j : Nat) u, CC.cells[j]? = some u → wz.cell? ((⟨g3, 0, none⟩ : Addr).add j) = some u from fun j u hj => by
        rw [Addr.add_mid, Nat.zero_add, cell_of_rowW wz g3 j _ _ _ hzrow2]
        simpa using hj)
      have N2Z := Lib.hid hz2
      have Z4 := Lib.hid (show z4.toArray.size = CC.cells.toArray.size by rw [List.size_toArray, List.size_toArray, CC.cells_len]; rfl)
      have RL := Lib.hid (show ClPost (VT.mk 1 n s ao c l) w (.returned (.agg CC.cells.toArray)) (wz.setRow g2 CC.cells.toArray) from by
        have hgl := HGL.out
        refine ⟨none, 0, [], by rw [hCC], (hcln.keep (by simp) (fun q h1 h2 => setRow_other wz g2 q _ (by omega))).mono (by omega), below_setRow hbz (by omega) _⟩)
      clear hCC hzrow2 hz2 hcln hbz hzrow
      go_wp2_with (first
        | (with_reducible show wpList _ _ _ _ _ _; refine wpList_load_allW rfl 26 (.tmp 3) rfl ⟨g3, 0, none⟩ rfl CC.cells _ KZ.out Tryz.underlying26 rfl (SZ.out CC) ?_)
        | (with_reducible show wpList _ _ _ _ _ _; refine wpList_store_whole rfl 26 (.tmp 2) (.tmp 38) rfl g2 26 z4.toArray CC.cells.toArray rfl rfl N2Z.out (SZ'.out CC) Z4.out CC.cells_one ?_))
      refine bodyPost_ret (results_cell_row rfl _ _ g2 26 CC.cells.toArray (0, 0) _ rfl (setRow_heap _ g2 _ _ _ _ N2Z.out) Tryz.underlying26 rfl (SZ'.out CC)) rfl ?_
      exact RL.out
    by_cases h2 : k = 2
    · subst h2
      obtain ⟨wz, hwz⟩ : ∃ wz, wz = w3.setCell ⟨g3, 2, none⟩ (.string S) := ⟨_, rfl⟩
      have hzrow : wz.heap[g3]? = some (.cells (cln (VT.mk 2 n s ao c l) none 0 []).cells.toArray 26 (0, 0)) := by rw [hwz]; rw [HS.out]; exact Go.Joins.block_setCell (i := 2) N3.out _
      have hz2 : wz.heap[g2]? = some (.cells z4.toArray 26 (0, 0)) := by rw [hwz]; exact (Below.heap_setCell w3 ⟨g3, 2, none⟩ _ g2 (by have := HGL.out; show g2 ≠ g3; omega)).trans N23.out
      have hbz : Below w.heap.size w wz := by rw [hwz]; exact HBW.out.setCell (p := ⟨g3, 2, none⟩) HGL.out.2.2.2.1 _
      have hcln : Cln w3.heap.size wz (VT.mk 2 n s ao c l) none 0 [] := ⟨rfl, (fun y hy => by cases hy), World.ownsRow_nil _ _ _ _, by decide⟩
      have HWZ := Lib.hid hwz
      clear hwz
      go_upto_region 13 with fail
      rw [← HWZ.out]
      obtain ⟨CC, hCC⟩ : ∃ CC, CC = cln (VT.mk 2 n s ao c l) none 0 [] := ⟨_, rfl⟩
      have hzrow2 : wz.heap[g3]? = some (.cells CC.cells.toArray 26 (0, 0)) := by rw [hCC]; exact hzrow
      have KZ := Lib.hid (show ∀ (j : Nat) u, CC.cells[j]? = some u → wz.cell? ((⟨g3, 0, none⟩ : Addr).add j) = some u from fun j u hj => by
        rw [Addr.add_mid, Nat.zero_add, cell_of_rowW wz g3 j _ _ _ hzrow2]
        simpa using hj)
      have N2Z := Lib.hid hz2
      have Z4 := Lib.hid (show z4.toArray.size = CC.cells.toArray.size by rw [List.size_toArray, List.size_toArray, CC.cells_len]; rfl)
      have RL := Lib.hid (show ClPost (VT.mk 2 n s ao c l) w (.returned (.agg CC.cells.toArray)) (wz.setRow g2 CC.cells.toArray) from by
        have hgl := HGL.out
        refine ⟨none, 0, [], by rw [hCC], (hcln.keep (by simp) (fun q h1 h2 => setRow_other wz g2 q _ (by omega))).mono (by omega), below_setRow hbz (by omega) _⟩)
      clear hCC hzrow2 hz2 hcln hbz hzrow
      go_wp2_with (first
        | (with_reducible show wpList _ _ _ _ _ _; refine wpList_load_allW rfl 26 (.tmp 3) rfl ⟨g3, 0, none⟩ rfl CC.cells _ KZ.out Tryz.underlying26 rfl (SZ.out CC) ?_)
        | (with_reducible show wpList _ _ _ _ _ _; refine wpList_store_whole rfl 26 (.tmp 2) (.tmp 38) rfl g2 26 z4.toArray CC.cells.toArray rfl rfl N2Z.out (SZ'.out CC) Z4.out CC.cells_one ?_))
      refine bodyPost_ret (results_cell_row rfl _ _ g2 26 CC.cells.toArray (0, 0) _ rfl (setRow_heap _ g2 _ _ _ _ N2Z.out) Tryz.underlying26 rfl (SZ'.out CC)) rfl ?_
      exact RL.out
    by_cases h3 : k = 3
    · subst h3
      go_wp2_with fail
      go_loopw [26] (fun i wr => clRel (VT.mk 3 n s ao c l) w3 g3 l i wr) (fun i _ => l.length - (intOf i).toNat)
      case atStart => exact ⟨0, [], none, 0, rfl, Nat.zero_le _, rfl, rfl, N3.out, World.ownsRow_nil _ _ _ _, (fun y hy => by cases hy), ⟨rfl, rfl, rfl, Nat.le_refl _, fun _ _ _ => rfl⟩⟩
      case round =>
        obtain ⟨wq, rfl⟩ : ∃ wq : World, wq = wr := ⟨_, rfl⟩
        obtain ⟨j, Y, aL, cL, rfl, hj, hYl, hYn, hrow, own, hel, hcw⟩ := hrel
        have q0 : (0 : Int) ≤ (j : Int) := by omega
        by_cases hjl : j < l.length
        · have q1 : (j : Int) < (l.length : Int) := by omega
          obtain ⟨x, hx⟩ : ∃ x, l[j]? = some x := ⟨_, List.getElem?_eq_getElem hjl⟩
          obtain ⟨hxv, ad, rfl, had, hxc⟩ := HV.out.elem hx
          have nbW : ∀ k, k < N → wq.heap[k]? = w.heap[k]? := fun q hq => (hcw.block q (by have := HGL.out; omega) (by have := HGL.out; omega)).trans (HBW.out.block q (by omega))
          obtain ⟨w5, hw5⟩ : ∃ w5, w5 = wq.alloc (.cells x.cells.toArray 26) := ⟨_, rfl⟩
          obtain ⟨g5, hg5⟩ : ∃ d, d = wq.heap.size := ⟨_, rfl⟩
          have KX := Lib.hid (hxc wq nbW)
          have HW5 := Lib.hid hw5
          have HG5 := Lib.hid hg5
          have hb5 : Below wq.heap.size wq w5 := by rw [hw5]; exact (Below.refl _ _).alloc (Nat.le_refl _) _
          have n5 : w5.heap[g5]? = some (.cells x.cells.toArray 26 (0, 0)) := by rw [hw5, hg5]; exact heap_alloc_new _ _
          have r5 := (hb5.block g3 (lt_of_rowW hrow)).trans hrow
          have CX := Lib.hid (fun W (h : Below w5.heap.size w5 W) => IH.out x (List.mem_of_getElem? hx) N W (hxv.keep fun q hq => (h.block q (by have := hb5.size; have := hcw.size; have := HGL.out; omega)).trans ((hb5.block q (by have := hcw.size; have := HGL.out; omega)).trans (nbW q hq))) (by have := h.size; have := hb5.size; have := hcw.size; have := HGL.out; omega))
          have OWN5 := Lib.hid (own_belowK own hb5)
          have R5 := Lib.hid r5
          have N5 := Lib.hid n5
          have HCW := Lib.hid hcw
          have HB5 := Lib.hid hb5
          have HEL := Lib.hid hel
          have HYN := Lib.hid hYn
          have HXG := Lib.hid hx
          have HYL := Lib.hid hYl
          have HB3 := Lib.hid (show w3.heap.size ≤ w5.heap.size from Nat.le_trans hcw.size hb5.size)
          obtain ⟨i0, hi0, hz0, hz1, hz2⟩ := info_parts Tryz.infoVal
          have HI := Lib.hid (And.intro hi0 (And.intro hz0 (And.intro hz1 hz2)))
          clear hw5 hg5 d0 d1 d2 d3 e1 e2 f1 f2 k0 hrow own hel hcw hYn hi0 hz0 hz1 hz2 hb5 n5 r5 hxv hxc nbW hx had hYl
          go_wp2_with (first
            | (with_reducible show wpList _ _ _ _ _ _; refine wpList_load_allW rfl 26 (.tmp 28) rfl _ rfl x.cells _ KX.out Tryz.underlying26 rfl (SZ.out x) ?_)
            | (with_reducible show wpList _ _ _ _ _ _; refine wpList_store_newW rfl 26 (.tmp 5) (.tmp 29) rfl 26 _ x.cells.toArray rfl rfl (SZ'.out x) (by with_unfolding_all exact S4.out x) x.cells_one ?_; rw [← HW5.out, ← HG5.out]))
          simp only [Act.put, List.setIfInBounds_toArray, List.set_cons_zero, List.set_cons_succ, List.getElem_toArray, List.getElem_cons_zero, List.getElem_cons_succ]
          refine wp_region_slotsJ (by kernel_rfl) (by kernel_rfl)
            (fun y => ⟨#[.agg #[.int .i64 3, .int .i64 n, .string S, .slice (some ad) l.length c], .pointer (some ⟨g, 0, none⟩), .pointer (some ⟨g2, 0, none⟩), .pointer (some ⟨g3, 0, none⟩), undef, .pointer (some ⟨g5, 0, none⟩), .pointer (some ⟨g, 0, none⟩), .int .i64 3,
              .agg #[.int .i64 3, .int .i64 0, .string ⟨#[]⟩, .slice none 0 0], .pointer (some ⟨g, 0, none⟩), .int .i64 3, .bool false, .bool false, undef, undef, undef, .bool false, .bool false, undef, undef, undef, .bool true, .bool true, .pointer (some ⟨g, 3, none⟩),
              .slice (some ad) l.length c, .int .i64 (l.length : Int), .int .i64 (j : Int), .bool true, .pointer (some (ad.add (j * 4))), .agg x.cells.toArray, y 0, y 1, y 2, y 3, y 4, y 5, y 6, u37, undef], []⟩)
            (clJ w5 g3 w3.heap.size j aL cL Y x) ?_ ?_ (fun j => #[u30, u31, u32, u33, u34, u35, u36].getD j undef) rfl
            ⟨(fun h => by cases h), (fun h => by cases h), (fun h => by cases h), (fun h => by cases h), ⟨(fun h => by cases h), (fun h => by cases h), (fun h => by cases h), (fun h => by cases h), (fun _ => below_drewG (Below.refl _ _) 1), (fun h => by cases h), (fun h => by cases h), (fun h => by cases h), (fun h => by cases h)⟩⟩
          · intro i' o ho L y wx hd hi' hJ
            match i', ho with
            | 0, ho =>
              obtain rfl := Option.some.inj ho
              exact .inl ⟨rfl, slot_run (v := .pointer (some ⟨g3, 3, none⟩)) (w' := wx) rfl ⟨_, rfl, hJ.s0⟩⟩
            | 1, ho =>
              obtain rfl := Option.some.inj ho
              have ya : y 0 = .pointer (some ⟨g3, 3, none⟩) := hJ.1 (hd ⟨0, .data⟩ (by simp) rfl)
              have h5 : L 5 = false := by
                cases hb : L 5 with
                | false => rfl
                | true => have := (hJ.2.2.2.2.i5 hb).2; rw [hi'] at this; cases this
              have hb := hJ.2.2.2.2.low h5
              have c1 : wx.cell? ⟨g3, 3, none⟩ = some (.slice aL j cL) := by rw [cell_of_rowW wx g3 3 _ _ _ ((hb.block g3 (lt_of_rowW R5.out)).trans R5.out)]; rfl
              refine .inl ⟨rfl, slot_run (v := .slice aL j cL) (w' := wx) ?_ ⟨_, rfl, hJ.s1⟩⟩
              refine runWithK (fun z => match z with | .tmp 30 => y 0 | _ => undef) (by kernel_rfl) ?_
              rw [ya]
              go_simp
            | 2, ho =>
              obtain rfl := Option.some.inj ho
              have h3 : L 3 = false := by
                cases hb : L 3 with
                | false => rfl
                | true => have := hJ.2.2.2.2.i3 hb; rw [hi'] at this; cases this
              have hb := hJ.2.2.2.2.pre h3
              refine .inl ⟨rfl, slot_loadK 26 (.tmp 5) rfl ⟨g5, 0, none⟩ rfl x.cells _ (fun j v hj => ?_) Tryz.underlying26 rfl (SZ.out x) ⟨_, rfl, hJ.s2⟩⟩
              rw [Addr.add_mid, Nat.zero_add, cell_of_rowW wx g5 j _ _ _ ((hb.block g5 (lt_of_rowW N5.out)).trans N5.out)]
              simpa using hj
            | 3, ho =>
              obtain rfl := Option.some.inj ho
              have h2 : L 2 = true := hd ⟨2, .data⟩ (by simp) rfl
              have ya : y 2 = .agg x.cells.toArray := hJ.2.2.1 h2
              have hb := hJ.2.2.2.2.pre hi'
              refine .inl ⟨rfl, ?_⟩
              refine slot_call #[.agg x.cells.toArray] rfl Tryz.func120 (by kernel_rfl) (by kernel_rfl) (by simp [Act.eval, ya]) ?_
              refine (CX.out wx hb).mono ?_
              rintro e w' ⟨ao6, c6, Y6, rfl, hc6, hb6⟩
              exact ⟨_, rfl, _, rfl, hJ.s3 hi' h2 (cln x ao6 c6 Y6) (hb.trans (hb6.mono hb.size)) ⟨cln_nz hc6, cln_at hc6 ((HV.out.elem HXG.out).1), (cln_in hc6).imp fun k hk => Nat.le_trans hb.size hk⟩⟩
            | 4, ho =>
              obtain rfl := Option.some.inj ho
              have h3 : L 3 = true := hd ⟨3, .data⟩ (by simp) rfl
              obtain ⟨z, ya, hb, hz⟩ := hJ.2.2.2.2.called h3 hi'
              refine .inl ⟨rfl, slot_run (v := .slice (some ⟨wx.heap.size, 0, none⟩) 1 1) (w' := wx.alloc (.cells z.cells.toArray 26)) ?_ ⟨_, rfl, hJ.s4 hi' h3 z hb hz⟩⟩
              refine runWithK (fun q => match q with | .tmp 33 => y 3 | _ => undef) (by kernel_rfl) ?_
              rw [ya]
              obtain ⟨zk, zn, zs, za, zc, zl⟩ := z
              show _ = Result.ok (Next.value (Value.slice (some ⟨wx.heap.size, 0, none⟩) 1 1)) (wx.alloc (.cells #[.int .i64 zk, .int .i64 zn, .string (str zs), .slice za zl.length zc] 26))
              unfold VT.cells
              go_simp
            | 5, ho =>
              obtain rfl := Option.some.inj ho
              have h1 : L 1 = true := hd ⟨1, .data⟩ (by simp) rfl
              have h4 : L 4 = true := hd ⟨4, .data⟩ (by simp) rfl
              have y1 : y 1 = .slice aL j cL := hJ.2.1 h1
              obtain ⟨z, w6, rfl, yb, hb, hz⟩ := hJ.2.2.2.2.built h4 hi'
              have ow6 := own_belowK OWN5.out hb
              have hbz : w3.heap.size ≤ w6.heap.size := Nat.le_trans HB3.out hb.size
              obtain ⟨v', w', hr, hg⟩ := run_append_own_src (P := Tryz.prog) (w6.alloc (.cells z.cells.toArray 26)) w3.heap.size 24 24 24 26 i0 (.agg #[.int .i64 0, .int .i64 0, .string ⟨#[]⟩, .slice none 0 0]) 4 56 Tryz.underlying24 HI.out.1 HI.out.2.1 HI.out.2.2.1 HI.out.2.2.2 rfl (.slice aL j cL) j (vcs Y) (ow6.alloc _) _ 1 z.cells (src_oneK Tryz.underlying24 w6 z.cells z.cells_len z.cells_one') (by unfold maxLen; omega) (by omega) (by simp; omega)
              obtain ⟨a2, c2, rfl, own7, hb7, blk7⟩ := grew_oneK ow6 hbz (Nat.le_refl _) hg
              exact .inl ⟨rfl, slot_appendK (s := .tmp 31) (x := .tmp 34) (t := 24) (tx := 24) rfl (show _ = Value.slice aL j cL by exact y1) (show _ = Value.slice (some ⟨w6.heap.size, 0, none⟩) 1 1 by exact yb) hr ⟨_, rfl, hJ.s5 hi' h4 h1 ⟨hz, hb, own7, hb7, blk7, by have := hg.2.2; simpa using this⟩⟩⟩
            | 6, ho =>
              obtain rfl := Option.some.inj ho
              exact .inl ⟨rfl, slot_run (v := .pointer (some ⟨g3, 3, none⟩)) (w' := wx) rfl ⟨_, rfl, hJ.s6⟩⟩
            | 7, ho =>
              obtain rfl := Option.some.inj ho
              have y6 : y 6 = .pointer (some ⟨g3, 3, none⟩) := hJ.2.2.2.1 (hd ⟨6, .data⟩ (by simp) rfl)
              have h5 : L 5 = true := hd ⟨5, .data⟩ (by simp) rfl
              obtain ⟨a2, c2, z, w6, y5, ha⟩ := hJ.2.2.2.2.app h5 hi'
              have hrow7 : wx.heap[g3]? = some (.cells #[.int .i64 3, .int .i64 0, .string ⟨#[]⟩, .slice aL j cL] 26 (0, 0)) :=
                (ha.low.block g3 HGL.out.2.2.1).trans ((ha.below.block g3 (lt_of_rowW R5.out)).trans R5.out)
              have c1 : wx.cell? ⟨g3, 3, none⟩ = some (.slice aL j cL) := by rw [cell_of_rowW wx g3 3 _ _ _ hrow7]; rfl
              have f1 : wx.frozen? ⟨g3, 3, none⟩ = false := frozen_of_row wx g3 3 _ _ hrow7
              refine .inl ⟨rfl, slot_skipK (w' := wx.setCell ⟨g3, 3, none⟩ (.slice a2 (j + 1) c2)) ?_ ⟨undef, rfl, hJ.s7 h5 ha⟩⟩
              refine runWithK (fun z => match z with | .tmp 36 => y 6 | .tmp 35 => y 5 | _ => undef) (by kernel_rfl) ?_
              rw [y6, y5]
              go_simp
            | k + 8, ho => simp at ho
          · intro L y wx hall hJ
            obtain ⟨a2, c2, z, w6, wy, rfl, ha⟩ := hJ.2.2.2.2.fin (hall 7 (by decide))
            have RL := Lib.hid (show clRel (VT.mk 3 n s (some ad) c l) w3 g3 l (.int .i64 ((j + 1 : Nat) : Int)) (wy.setCell ⟨g3, 3, none⟩ (.slice a2 (j + 1) c2)) from by
              have hlt6 : w5.heap.size ≤ w6.heap.size := ha.below.size
              have hwy : w6.heap.size ≤ wy.heap.size := ha.low.size
              have hrow7 : wy.heap[g3]? = some (.cells #[.int .i64 3, .int .i64 0, .string ⟨#[]⟩, .slice aL j cL] 26 (0, 0)) :=
                (ha.low.block g3 HGL.out.2.2.1).trans ((ha.below.block g3 (lt_of_rowW R5.out)).trans R5.out)
              have st : ∀ q, q ≠ g3 → (wy.setCell ⟨g3, 3, none⟩ (.slice a2 (j + 1) c2)).heap[q]? = wy.heap[q]? := fun q hq => Below.heap_setCell wy ⟨g3, 3, none⟩ _ q hq
              have ssz : (wy.setCell ⟨g3, 3, none⟩ (.slice a2 (j + 1) c2)).heap.size = wy.heap.size := by simp [World.setCell]
              have z0 := (Below.refl 0 wy).setCell (p := ⟨g3, 3, none⟩) (Nat.zero_le _) (.slice a2 (j + 1) c2)
              have olt := OWN5.out.lt
              refine ⟨j + 1, Y ++ [z], a2, c2, rfl, hjl, by simp [HYL.out], ?_, Go.Joins.block_setCell (i := 3) hrow7 _, ?_, ?_, ?_⟩
              · rw [List.map_append, HYN.out, List.take_add_one, HXG.out, List.map_append]
                simp [ha.good.1]
              · rw [vcs_app, show vcs [z] = z.cells by simp [vcs]]
                exact own_keepK ha.own (fun b hb hlt => st b (by have := (ha.own.lt b hb).1; have := HGL.out; omega))
              · intro y' hy'
                have key : ∀ q, q < w6.heap.size → q ≠ g3 → some q ≠ (Value.slice aL j cL).ownBlock → (wy.setCell ⟨g3, 3, none⟩ (.slice a2 (j + 1) c2)).heap[q]? = w6.heap[q]? := fun q h1 h2 h3 => (st q h2).trans (ha.blk q h1 h3)
                have a2new : ∀ q, q < w6.heap.size → some q ≠ (Value.slice aL j cL).ownBlock → some q ≠ (Value.slice a2 (j + 1) c2).ownBlock := by
                  intro q h1 h2 h3
                  have hq := ha.own.2
                  rcases ha.grown with h | h
                  · rw [h] at h3; exact h2 h3
                  · rw [h] at h3; injection h3 with h3; omega
                rcases List.mem_append.1 hy' with hy' | hy'
                · obtain ⟨p1, p2, p3⟩ := HEL.out y' hy'
                  have hsz5 := HB5.out.size
                  have q1 : y'.At wq.heap.size (wy.setCell ⟨g3, 3, none⟩ (.slice a2 (j + 1) c2)) := p1.keepT (p2.both p3) (fun q hq hT => (key q (by omega) (by have := HGL.out; omega) hT.2).trans ((ha.below.block q (by omega)).trans (HB5.out.block q hq)))
                  refine ⟨q1.mono (by omega), p2, (p1.inN.both p3).imp fun q hq => a2new q (by omega) hq.2⟩
                · obtain rfl := List.mem_singleton.1 hy'
                  obtain ⟨_, g2', g3'⟩ := ha.good
                  have hne : ∀ q, w5.heap.size ≤ q → some q ≠ (Value.slice aL j cL).ownBlock := fun q hq e => by have := (olt q e.symm).2; omega
                  refine ⟨(g2'.keepT g3' (fun q h1 h2 => key q h1 (by have := HGL.out; have := HB3.out; omega) (hne q h2))).mono (by omega), g3'.imp fun q hq => Nat.le_trans HB3.out hq, (g2'.inN.both g3').imp fun q hq => a2new q hq.1 (hne q hq.2)⟩
              · have h1 := HCW.out
                have h2 := HB5.out
                have h3 := ha.below
                have h4 := ha.low
                refine ⟨z0.os.trans (h4.os.trans (h3.os.trans (h2.os.trans h1.os))), z0.tape.trans (h4.tape.trans (h3.tape.trans (h2.tape.trans h1.tape))), z0.output.trans (h4.output.trans (h3.output.trans (h2.output.trans h1.output))), (by have e1 := h1.size; have e2 := h2.size; have e3 := h3.size; have e4 := h4.size; rw [ssz]; omega), fun q hq hne => ?_⟩
                exact (st q hne).trans ((h4.block q hq).trans ((h3.block q (Nat.lt_of_lt_of_le hq HB3.out)).trans ((h2.block q (by have := h1.size; omega)).trans (h1.block q hq hne)))))
            clear hall hJ ha
            generalize y 0 = v0
            generalize y 1 = v1
            generalize y 2 = v2
            generalize y 3 = v3
            generalize y 4 = v4
            generalize y 5 = v5
            generalize y 6 = v6
            go_wp2_with fail
            exact ⟨RL.out, by simp [intOf]; omega⟩
        · have q1 : ¬ (j : Int) < (l.length : Int) := by omega
          have hzrow : wq.heap[g3]? = some (.cells (cln (VT.mk 3 n s ao c l) aL cL Y).cells.toArray 26 (0, 0)) := by
            have h := hrow
            rw [← hYl] at h
            exact h
          have hz2 : wq.heap[g2]? = some (.cells z4.toArray 26 (0, 0)) := (hcw.block g2 (by have := HGL.out; omega) (by have := HGL.out; omega)).trans N23.out
          have hbz : Below w.heap.size w wq := HBW.out.trans (hcw.below HGL.out.2.2.2.1 HBW.out.size)
          have hcln : Cln w3.heap.size wq (VT.mk 3 n s ao c l) aL cL Y := ⟨by
            rw [hYn, List.take_of_length_le (by omega)]
            rfl, fun y hy => ⟨(hel y hy).1, (hel y hy).2.1⟩, by rw [hYl]; exact own, by rw [hYl]; omega⟩
          clear hrow own hel hcw hYn d0 d1 d2 d3 e1 e2 f1 f2 k0
          obtain ⟨CC, hCC⟩ : ∃ CC, CC = cln (VT.mk 3 n s ao c l) aL cL Y := ⟨_, rfl⟩
          have hzrow2 : wq.heap[g3]? = some (.cells CC.cells.toArray 26 (0, 0)) := by rw [hCC]; exact hzrow
          have KZ := Lib.hid (show ∀ (j : Nat) u, CC.cells[j]? = some u → wq.cell? ((⟨g3, 0, none⟩ : Addr).add j) = some u from fun j u hj => by
            rw [Addr.add_mid, Nat.zero_add, cell_of_rowW wq g3 j _ _ _ hzrow2]
            simpa using hj)
          have N2Z := Lib.hid hz2
          have Z4 := Lib.hid (show z4.toArray.size = CC.cells.toArray.size by rw [List.size_toArray, List.size_toArray, CC.cells_len]; rfl)
          have RL := Lib.hid (show ClPost (VT.mk 3 n s ao c l) w (.returned (.agg CC.cells.toArray)) (wq.setRow g2 CC.cells.toArray) from by
            have hgl := HGL.out
            refine ⟨aL, cL, Y, by rw [hCC], (hcln.keep (by simp) (fun q h1 h2 => setRow_other wq g2 q _ (by omega))).mono (by omega), below_setRow hbz (by omega) _⟩)
          clear hCC hzrow2 hz2 hcln hbz hzrow
          go_wp2_with (first
            | (with_reducible show wpList _ _ _ _ _ _; refine wpList_load_allW rfl 26 (.tmp 3) rfl ⟨g3, 0, none⟩ rfl CC.cells _ KZ.out Tryz.underlying26 rfl (SZ.out CC) ?_)
            | (with_reducible show wpList _ _ _ _ _ _; refine wpList_store_whole rfl 26 (.tmp 2) (.tmp 38) rfl g2 26 z4.toArray CC.cells.toArray rfl rfl N2Z.out (SZ'.out CC) Z4.out CC.cells_one ?_))
          refine bodyPost_ret (results_cell_row rfl _ _ g2 26 CC.cells.toArray (0, 0) _ rfl (setRow_heap _ g2 _ _ _ _ N2Z.out) Tryz.underlying26 rfl (SZ'.out CC)) rfl ?_
          exact RL.out
    · have hzrow : w3.heap[g3]? = some (.cells (cln (VT.mk k n s ao c l) none 0 []).cells.toArray 26 (0, 0)) := by
        have e : cln (VT.mk k n s ao c l) none 0 [] = VT.mk k 0 [] none 0 [] := by
          show VT.mk k (if k = 1 then n else 0) (if k = 2 then s else []) none 0 [] = _
          rw [if_neg h1, if_neg h2]
        rw [e]
        exact N3.out
      have hz2 := N23.out
      have hbz := HBW.out
      have hcln : Cln w3.heap.size w3 (VT.mk k n s ao c l) none 0 [] := ⟨by rw [if_neg (by exact h3)]; rfl, (fun y hy => by cases hy), World.ownsRow_nil _ _ _ _, by decide⟩
      obtain ⟨CC, hCC⟩ : ∃ CC, CC = cln (VT.mk k n s ao c l) none 0 [] := ⟨_, rfl⟩
      have hzrow2 : w3.heap[g3]? = some (.cells CC.cells.toArray 26 (0, 0)) := by rw [hCC]; exact hzrow
      have KZ := Lib.hid (show ∀ (j : Nat) u, CC.cells[j]? = some u → w3.cell? ((⟨g3, 0, none⟩ : Addr).add j) = some u from fun j u hj => by
        rw [Addr.add_mid, Nat.zero_add, cell_of_rowW w3 g3 j _ _ _ hzrow2]
        simpa using hj)
      have N2Z := Lib.hid hz2
      have Z4 := Lib.hid (show z4.toArray.size = CC.cells.toArray.size by rw [List.size_toArray, List.size_toArray, CC.cells_len]; rfl)
      have RL := Lib.hid (show ClPost (VT.mk k n s ao c l) w (.returned (.agg CC.cells.toArray)) (w3.setRow g2 CC.cells.toArray) from by
        have hgl := HGL.out
        refine ⟨none, 0, [], by rw [hCC], (hcln.keep (by simp) (fun q h1 h2 => setRow_other w3 g2 q _ (by omega))).mono (by omega), below_setRow hbz (by omega) _⟩)
      clear hCC hzrow2 hz2 hcln hbz hzrow
      go_wp2_with (first
        | (with_reducible show wpList _ _ _ _ _ _; refine wpList_load_allW rfl 26 (.tmp 3) rfl ⟨g3, 0, none⟩ rfl CC.cells _ KZ.out Tryz.underlying26 rfl (SZ.out CC) ?_)
        | (with_reducible show wpList _ _ _ _ _ _; refine wpList_store_whole rfl 26 (.tmp 2) (.tmp 38) rfl g2 26 z4.toArray CC.cells.toArray rfl rfl N2Z.out (SZ'.out CC) Z4.out CC.cells_one ?_))
      refine bodyPost_ret (results_cell_row rfl _ _ g2 26 CC.cells.toArray (0, 0) _ rfl (setRow_heap _ g2 _ _ _ _ N2Z.out) Tryz.underlying26 rfl (SZ'.out CC)) rfl ?_
      exact RL.out
end Go.Proofs.YtnfobnnbeefeeaaGreatDoor.Wi
/- Clone, List, Of, Text, Bool, True, Parts. -/
namespace Go.Proofs.YtnfobnnbeefeeaaGreatDoor.Wi
open Go Go.RowKit
set_option linter.unusedVariables false
set_option linter.unusedSimpArgs false
theorem all_oneV {cs : List Value} (h : ∀ u ∈ cs, u.oneCell' = true) : cs.toArray.all (·.oneCell') = true := by
  rw [Array.all_eq_true_iff_forall_mem]
  intro u hu
  exact h u (by simpa using hu)
def ofV (n : Int) : VT := .mk 1 n [] none 0 []
def txV (s : List UInt8) : VT := .mk 2 0 s none 0 []
def AnsV (x : VT) (w : World) (e : Ending) (w' : World) : Prop := e = .returned (.agg x.cells.toArray) ∧ Below w.heap.size w w'
set_option maxRecDepth 100000 in
theorem vof_any (n : Int) (w : World) : Calls Tryz.prog 42 #[.int .i64 n] w (AnsV (ofV n) w) := by
  obtain ⟨w2, hw2⟩ : ∃ w2, w2 = w.alloc (.cells z4.toArray 26) := ⟨_, rfl⟩
  obtain ⟨g, hg⟩ : ∃ g, g = w.heap.size := ⟨_, rfl⟩
  have hb2 : Below w.heap.size w w2 := by rw [hw2]; exact (Below.refl _ _).alloc (Nat.le_refl _) _
  have n2 : w2.heap[g]? = some (.cells z4.toArray 26 (0, 0)) := by rw [hw2, hg]; exact heap_alloc_new _ _
  have N2 := Lib.hid n2
  have HB := Lib.hid hb2
  have HW2 := Lib.hid (show w2 = w.alloc (.cells #[.int .i64 0, .int .i64 0, .string ⟨#[]⟩, .slice none 0 0] 26) from hw2)
  have HG := Lib.hid hg
  have HGL := Lib.hid (show w.heap.size ≤ g by omega)
  have ZS := Lib.hid (show z4.toArray.size = (#[.int .i64 1, .int .i64 n, .string ⟨#[]⟩, .slice none 0 0] : Array Value).size from rfl)
  have ON := Lib.hid (show (#[.int .i64 1, .int .i64 n, .string ⟨#[]⟩, .slice none 0 0] : Array Value).all (·.oneCell') = true from all_oneV (by intro u hu; simp at hu; rcases hu with rfl | rfl | rfl | rfl <;> rfl))
  have SB := Lib.hid (show (Tryz.prog.info? 26).map (·.size) = some (#[.int .i64 1, .int .i64 n, .string ⟨#[]⟩, .slice none 0 0] : Array Value).size by kernel_rfl)
  show Calls Tryz.prog 42 #[.int .i64 n] w (fun e w' => e = .returned (.agg #[.int .i64 1, .int .i64 n, .string ⟨#[]⟩, .slice none 0 0]) ∧ Below w.heap.size w w')
  clear hw2 hg hb2 n2
  go_enter Tryz.func42, Tryz.ntmps42
  go_upto_region 1 with fail
  rw [← HW2.out, ← HG.out]
  go_wp2_with (with_reducible show wpList _ _ _ _ _ _; refine wpList_store_whole rfl 26 (.tmp 2) (.tmp 4) rfl g 26 z4.toArray #[.int .i64 1, .int .i64 n, .string ⟨#[]⟩, .slice none 0 0] rfl rfl N2.out SB.out ZS.out ON.out ?_)
  refine bodyPost_ret (results_cell_row rfl _ _ g 26 #[.int .i64 1, .int .i64 n, .string ⟨#[]⟩, .slice none 0 0] (0, 0) _ rfl (setRow_heap _ g _ _ _ _ N2.out) Tryz.underlying26 rfl SB.out) rfl ?_
  exact ⟨rfl, below_setRow HB.out HGL.out _⟩
set_option maxHeartbeats 4000000 in
theorem vclone_any (v : VT) (hd : v.dpr 65536 = false) (N : Nat) (w : World) (hv : v.At N w) (hN : N ≤ w.heap.size) : Calls Tryz.prog 85 #[.agg v.cells.toArray] w (ClPost v w) := by
  obtain ⟨w1, hw1⟩ : ∃ bx, bx = w.alloc (.cells v.cells.toArray 26) := ⟨_, rfl⟩
  obtain ⟨g, hg⟩ : ∃ bx, bx = w.heap.size := ⟨_, rfl⟩
  have bw1 : Below w.heap.size w w1 := by rw [hw1]; exact (Below.refl _ _).alloc (Nat.le_refl _) _
  have nw1 : w1.heap[g]? = some (.cells v.cells.toArray 26 (0, 0)) := by rw [hw1, hg]; exact heap_alloc_new _ _
  have Kw1 := Lib.hid (rowK nw1)
  have Hw1 := Lib.hid hw1
  have Hg := Lib.hid hg
  have Bw1 := Lib.hid bw1
  have Nw1 := Lib.hid nw1
  clear hw1 hg bw1 nw1
  obtain ⟨w2, hw2⟩ : ∃ w2, w2 = w1.alloc (.cells z4.toArray 26) := ⟨_, rfl⟩
  obtain ⟨g2, hg2⟩ : ∃ g, g = w.heap.size + 1 := ⟨_, rfl⟩
  have hg2' : g2 = w1.heap.size := by rw [hg2, Hw1.out]; simp
  have hb2 : Below w1.heap.size w1 w2 := by rw [hw2]; exact (Below.refl _ _).alloc (Nat.le_refl _) _
  have n2 : w2.heap[g2]? = some (.cells z4.toArray 26 (0, 0)) := by rw [hw2, hg2']; exact heap_alloc_new _ _
  have n12 := (hb2.block g (lt_of_rowW Nw1.out)).trans Nw1.out
  have hbw := Bw1.out.trans (hb2.mono Bw1.out.size)
  have EN := endless_any v N w2 (hv.below (hbw.mono hN)) (Nat.le_trans hN hbw.size)
  rw [hd] at EN
  have HEN := Lib.hid EN
  have K2 := Lib.hid (rowK n12)
  have N12 := Lib.hid n12
  have N2 := Lib.hid n2
  have HB := Lib.hid hbw
  have HW2 := Lib.hid (show w2 = w1.alloc (.cells #[.int .i64 0, .int .i64 0, .string ⟨#[]⟩, .slice none 0 0] 26) from hw2)
  have HG2 := Lib.hid hg2
  have HGL := Lib.hid (show w.heap.size ≤ g2 ∧ g2 < w2.heap.size from ⟨by omega, lt_of_rowW n2⟩)
  have HV := Lib.hid hv
  clear hw2 hg2 hg2' hb2 n2 n12 hbw EN hv hd
  go_enter Tryz.func85, Tryz.ntmps85
  go_upto_region 1 with fail
  rw [← Hw1.out, ← HW2.out, ← HG2.out, ← Hg.out]
  go_wp2_with (with_reducible show wpList _ _ _ _ _ _; refine wpList_load_allW rfl 26 (.tmp 1) rfl ⟨g,0,none⟩ rfl v.cells _ K2.out Tryz.underlying26 rfl (Tryz.valSize v) ?_)
  refine HEN.out.mono ?_
  rintro e w3 ⟨rfl, hb3⟩
  have K3 := Lib.hid (rowK ((hb3.block g (lt_of_rowW N12.out)).trans N12.out))
  have N3 := Lib.hid ((hb3.block g2 (lt_of_rowW N2.out)).trans N2.out)
  have hbw := HB.out.trans (hb3.mono HB.out.size)
  have CL := Lib.hid (cl_any v N w3 (HV.out.below (hbw.mono hN)) (Nat.le_trans hN hbw.size))
  have HB3 := Lib.hid hbw
  have HGL3 := Lib.hid (show g2 < w3.heap.size from Nat.lt_of_lt_of_le HGL.out.2 hb3.size)
  clear hb3 hbw
  go_wp2_with (with_reducible show wpList _ _ _ _ _ _; refine wpList_load_allW rfl 26 (.tmp 1) rfl ⟨g,0,none⟩ rfl v.cells _ K3.out Tryz.underlying26 rfl (Tryz.valSize v) ?_)
  refine CL.out.mono ?_
  rintro e w4 ⟨ao, c, Y, rfl, hcln, hb4⟩
  have N4 := Lib.hid ((hb4.block g2 (lt_of_rowW N3.out)).trans N3.out)
  obtain ⟨CC, hCC⟩ : ∃ CC, CC = cln v ao c Y := ⟨_, rfl⟩
  have RL := Lib.hid (show ClPost v w (.returned (.agg CC.cells.toArray)) (w4.setRow g2 CC.cells.toArray) from by
    refine ⟨ao, c, Y, by rw [hCC], (hcln.keep (by simp) (fun q h1 h2 => setRow_other w4 g2 q _ (by have := HGL3.out; omega))).mono HB3.out.size, below_setRow (HB3.out.trans (hb4.mono HB3.out.size)) HGL.out.1 _⟩)
  rw [← hCC]
  clear hCC hcln hb4
  go_wp2_with (with_reducible show wpList _ _ _ _ _ _; refine wpList_store_whole rfl 26 (.tmp 2) (.tmp 7) rfl g2 26 z4.toArray CC.cells.toArray rfl rfl N4.out (Tryz.valSize' CC) (VT.fourZ CC) CC.cells_one ?_)
  refine bodyPost_ret (results_cell_row rfl _ _ g2 26 CC.cells.toArray (0, 0) _ rfl (setRow_heap _ g2 _ _ _ _ N4.out) Tryz.underlying26 rfl (Tryz.valSize' CC)) rfl ?_
  exact RL.out
end Go.Proofs.YtnfobnnbeefeeaaGreatDoor.Wi
