/- A map of tasks to truth values; a slice of matching's operations that came in. -/
import Derived.Test.YtkmhbbcppjckiaaMY1
import Derived.Test.YtkmhbbcppjckiaaNU
namespace Go.Proofs.Ytkmhbbcppjckiaa.Ma
open Go Go.Proofs.Ytkmhbbcppjckiaa Go.RowKit Go.ChangeShapes Go.WideShapes Go.ChangeAt Go.Deep Go.ChangeMaps Go.MapKept
open Go.Maps (Keyed)
open Go.Proofs.Ytkmhbbcppjckiaa.Hp (i64wf K3 wf3 kv KLit kv_inj)
open Go.Proofs.Ytkmhbbcppjckiaa.Qu
set_option linter.unusedVariables false
set_option linter.unusedSimpArgs false
set_option maxRecDepth 100000
def bElem (v : Value) : Option (DataW Unit × List MemPlace) := match v with
  | .bool b => some (.lit (.bool b), [])
  | _ => none
theorem bElem_inv {v : Value} {y : DataW Unit × List MemPlace} (h : bElem v = some y) : ∃ b, v = .bool b ∧ y = (.lit (.bool b), []) := by
  unfold bElem at h
  split at h
  · cases h; exact ⟨_, rfl, rfl⟩
  · cases h
/-- Block m is a map of at most n tasks, S at each; false where there is none. -/
def TMap (w : World) (m n : Nat) (S : K3 → Bool) : Prop := ∃ D : DataW Unit, w.ownsMap Try.prog 32 bElem m n D ∧ ∀ x, wf3 x → D.atKey (KLit x) (.lit (.bool false)) = .lit (.bool (S x))
variable {w w' : World} {m n : Nat} {S : K3 → Bool}
theorem TMap.made (w : World) : TMap (w.alloc (.map #[] 0)) w.heap.size 0 (fun _ => false) := ⟨.map [], World.ownsMap_made w Try.prog 32 bElem, fun x _ => rfl⟩
theorem TMap.keep (h : TMap w m n S) (hb : w'.heap[m]? = w.heap[m]?) : TMap w' m n S := by
  obtain ⟨D, ⟨es, c, h1, h2⟩, h3⟩ := h
  exact ⟨D, ⟨es, c, hb.trans h1, h2⟩, h3⟩
theorem TMap.lt (h : TMap w m n S) : m < w.heap.size := by
  obtain ⟨D, ⟨es, c, h1, h2⟩, h3⟩ := h
  exact (Array.getElem?_eq_some_iff.1 h1).1
theorem TMap.look (h : TMap w m n S) {x : K3} (hw : wf3 x) : (Instr.lookup 97 (.map (some m)) (.agg (kcs x).toArray) false).run Try.prog w = .ok (.bool (S x)) w := by
  obtain ⟨D, h1, h2⟩ := h
  obtain ⟨v, ps, hrun, hv⟩ := h1.lookup qu_keyP.keyed Try.underlying97 (show (zeroValue 4).run Try.prog w = .ok (.bool false) w by kernel_rfl) (zd := .lit (.bool false)) (zp := []) rfl (qu_key x hw)
  obtain ⟨b, rfl, hb⟩ := bElem_inv hv
  have := congrArg Prod.fst hb
  rw [h2 x hw] at this
  simp only at this
  injection this with h3
  injection h3 with h4
  rw [h4]
  exact hrun
theorem TMap.put_run (h : TMap w m n S) (hn : n < maxLen) {x : K3} (hw : wf3 x) (b : Bool) :
    ∃ w', (Instr.mapUpdate 97 (.map (some m)) (.agg (kcs x).toArray) (.bool b)).run Try.prog w = .ok () w' ∧ TMap w' m (n + 1) (fun y => if y = x then b else S y) ∧ w.mapTurned w' m := by
  obtain ⟨D, h1, h2⟩ := h
  obtain ⟨w', hrun, r1, r2⟩ := h1.store qu_keyP.keyed Try.underlying97 hn (qu_key x hw) (show bElem (.bool b) = some (.lit (.bool b), []) from rfl)
  refine ⟨w', hrun, ⟨_, r1, fun y hy => ?_⟩, r2⟩
  show _ = DataW.lit (Lit.bool (if y = x then b else S y))
  by_cases he : y = x
  · subst he
    rw [if_pos rfl]
    exact Maps.atKey_put_same h1.isMap (qu_keyP.keyed.key (qu_key y hy)) _ _
  · have hne : KLit y ≠ KLit x := fun e => he (qu_keyP.inj hy hw e)
    rw [if_neg he, Maps.atKey_put_other hne]
    exact h2 y hy
section
variable {ops : Array Oper} {rest : List Oper} {o : Oper} {a : Act} {Q : Exit → Act → World → Prop}
theorem wpList_lookT (hw : Region.wanted o (yielded ops a.tmps) = true) (x1 x2 : Operand) (hop : o.op = Op.lookup 97 x1 x2 false) (hm : a.eval x1 = .map (some m)) (h : TMap w m n S) {x : K3} (hx : a.eval x2 = .agg (kcs x).toArray) (hwf : wf3 x)
    (hK : wpList Try.prog ops Q rest (a.put o.dst (.bool (S x))) w) : wpList Try.prog ops Q (o :: rest) a w := by
  refine wpList_runWanted hw (.bool (S x)) ?_ hK
  unfold execOp
  simp only [hop, hm, hx]
  simp [h.look hwf, Result.andThen]
theorem wpList_putT (hg : o.guard = none) (x1 x2 x3 : Operand) (hop : o.op = Op.mapUpdate 97 x1 x2 x3) (hm : a.eval x1 = .map (some m)) (h : TMap w m n S) (hc : n < maxLen) {x : K3} (hx : a.eval x2 = .agg (kcs x).toArray) (hw : wf3 x) {b : Bool} (hv : a.eval x3 = .bool b)
    (hK : ∀ w', TMap w' m (n + 1) (fun y => if y = x then b else S y) → w.mapTurned w' m → wpList Try.prog ops Q rest (a.put o.dst undef) w') : wpList Try.prog ops Q (o :: rest) a w := by
  refine wpList_plain hg fun K' hK' => ?_
  obtain ⟨w', hrun, r1, r2⟩ := h.put_run hc hw b
  unfold Oper.wp
  simp [execOp, hop, hm, hx, hv, hrun, Result.andThen]
  exact hK' _ _ (hK w' r1 r2)
end
/-- An operation on a Match. -/
structure OpA where
  kind : Int
  key : K3
  wk : Int
  tok : Int
  ticks : Int
instance : Inhabited OpA := ⟨⟨0, (0, 0, 0), 0, 0, 0⟩⟩
def OpA.cells (p : OpA) : List Value := [.int .i64 p.kind, .int .i64 p.key.1, .int .i64 p.key.2.1, .int .i64 p.key.2.2, .int .i64 p.wk, .int .u64 p.tok, .int .i64 p.ticks]
def u64wf (n : Int) : Prop := (Lit.int .u64 n).wf = true
def OpA.Good (p : OpA) : Prop := i64wf p.kind ∧ wf3 p.key ∧ i64wf p.wk ∧ u64wf p.tok ∧ i64wf p.ticks
structure OpsA (w : World) (ao : Option Addr) (L : List OpA) : Prop where
  none : ao = none → L = []
  cell : ∀ ad, ao = some ad → ∀ (j : Nat) p, L[j]? = some p → ∀ (i : Nat) u, p.cells[i]? = some u → w.cell? (ad.add (j * 7 + i)) = some u
  good : ∀ p ∈ L, p.Good
theorem OpsA.below {w w' : World} {ao : Option Addr} {L : List OpA} {B : Nat} (h : OpsA w ao L) (hb : Below B w w') (hB : w.heap.size ≤ B) : OpsA w' ao L :=
  ⟨h.none, fun ad ha j p hp i u hu => by
    have hc := h.cell ad ha j p hp i u hu
    rw [hb.cell (Nat.lt_of_lt_of_le (World.block_lt_of_cell? w _ hc) hB)]
    exact hc, h.good⟩
theorem trod_struct5A {H : Type} {enc : TypeId × Value → H} {P : Program} {w : World} {base : Nat} {spare : Nat → Bool} {held : Bool} {t : TypeId} {f0 f1 f2 f3 f4 : Field} {fuel : Nat} {cs : List Value} {x : DataW H × List MemPlace} (ht : P.underlying t = some (.struct #[f0, f1, f2, f3, f4])) (h : DataW.trod enc P w base spare held fuel t cs = some x) :
    ∃ y0 y1 y2 y3 y4 n, cs.length = P.cellsOf t ∧ DataW.trod enc P w base spare held n f0.type ((cs.drop f0.offset).take (P.cellsOf f0.type)) = some y0 ∧ DataW.trod enc P w base spare held n f1.type ((cs.drop f1.offset).take (P.cellsOf f1.type)) = some y1 ∧ DataW.trod enc P w base spare held n f2.type ((cs.drop f2.offset).take (P.cellsOf f2.type)) = some y2 ∧ DataW.trod enc P w base spare held n f3.type ((cs.drop f3.offset).take (P.cellsOf f3.type)) = some y3 ∧ DataW.trod enc P w base spare held n f4.type ((cs.drop f4.offset).take (P.cellsOf f4.type)) = some y4 := by
  obtain ⟨xs, n, _, rfl, hl, hlen, hf⟩ := DataW.trod_struct ht h
  match xs, hlen with
  | [y0, y1, y2, y3, y4], _ => exact ⟨y0, y1, y2, y3, y4, n, hl, by simpa using hf 0 f0 rfl, by simpa using hf 1 f1 rfl, by simpa using hf 2 f2 rfl, by simpa using hf 3 f3 rfl, by simpa using hf 4 f4 rfl⟩
theorem cA_u64 : Try.prog.cellsOf 62 = 1 := by kernel_rfl
theorem cA_op : Try.prog.cellsOf 75 = 7 := by kernel_rfl
theorem trod_opa {H : Type} {enc : TypeId × Value → H} {W : World} {fuel : Nat} {cs : List Value} {x : DataW H × List MemPlace} (h : DataW.trod enc Try.prog W 0 (fun _ => true) true fuel 75 cs = some x) :
    ∃ p : OpA, cs = p.cells ∧ p.Good := by
  obtain ⟨y0, y1, y2, y3, y4, n, hl, h0, h1, h2, h3, h4⟩ := trod_struct5A Try.underlying75 h
  simp only [cA_op, cQ_int, cA_u64, cQ_task] at hl h0 h1 h2 h3 h4
  obtain ⟨a, e0, _, w0⟩ := DataW.trod_int Try.underlying3 h0
  obtain ⟨k, e1, wk⟩ := trod_task h1
  obtain ⟨c, e2, _, w2⟩ := DataW.trod_int Try.underlying3 h2
  obtain ⟨d, e3, _, w3⟩ := DataW.trod_int Try.underlying62 h3
  obtain ⟨f, e4, _, w4⟩ := DataW.trod_int Try.underlying3 h4
  refine ⟨⟨a, k, c, d, f⟩, ?_, w0, wk, w2, w3, w4⟩
  have g0 := nth1 e0
  have g2 := nth1 e2
  have g3 := nth1 e3
  have g4 := nth1 e4
  match cs, hl with
  | [v0, v1, v2, v3, v4, v5, v6], hl =>
    simp [kcs] at g0 g2 g3 g4 e1
    obtain ⟨r1, r2, r3⟩ := e1
    rw [g0, g2, g3, g4, r1, r2, r3]
    rfl
theorem open_opa {H : Type} {enc : TypeId × Value → H} {W : World} {base : Nat} {v : Value} {d : DataW H} {p : List MemPlace} (hv : Value.okWide Try.prog W .any base 58 v) (h : DataW.Trod enc Try.prog W 0 (fun _ => true) true 58 v d p) : ∃ ao c L, v = .slice ao (List.length L) c ∧ OpsA W ao L ∧ L.length ≤ maxLen := by
  obtain ⟨a0, len, cap, rfl⟩ := okWide_slice Try.underlying58 hv
  obtain ⟨fuel, hf⟩ := h
  rcases open_slice Try.underlying58 hf with ⟨hcs, hx⟩ | ⟨a, len', cap', m, n, D, Pl, hcs, _, hl, hm, hmm, hx, hr⟩
  · simp only [Value.cells] at hcs
    injection hcs with hcs
    rw [hcs]
    exact ⟨none, 0, [], rfl, ⟨fun _ => rfl, (by intro a e; cases e), (by intro p hp; cases hp)⟩, Nat.zero_le _⟩
  · simp only [Value.cells] at hcs
    injection hcs with hcs
    rw [hcs]
    simp only [if_true] at hmm
    have each : ∀ i, i < len' → ∃ p : OpA, (∀ k u, p.cells[k]? = some u → W.cell? (a.add (i * 7 + k)) = some u) ∧ p.Good := by
      intro i hi
      obtain ⟨cs', h1, h2⟩ := hr i (by omega)
      rw [cA_op] at h1
      obtain ⟨p, rfl, hg⟩ := trod_opa h2
      refine ⟨p, fun k u hk => ?_, hg⟩
      obtain ⟨_, hlen, hcell⟩ := World.cells?_some h1
      have hk' : k < 7 := (List.getElem?_eq_some_iff.1 hk).1
      have := hcell k hk'
      rw [add_add] at this
      rw [this, hk]
    obtain ⟨q, hq⟩ := choose_lt each
    refine ⟨some a, cap', (List.range len').map q, by simp, ⟨(by intro e; cases e), fun a' ha j p hj k u hk => ?_, fun p hp => ?_⟩, by simp; omega⟩
    · cases ha
      have hjl : j < len' := by simpa using (List.getElem?_eq_some_iff.1 hj).1
      obtain rfl : q j = p := by simpa [hjl] using hj
      exact (hq j hjl).1 k u hk
    · obtain ⟨j, hj, rfl⟩ := List.mem_map.1 hp
      exact (hq j (List.mem_range.1 hj)).2
theorem paSize (p : OpA) : (Try.prog.info? 75).map (·.size) = some p.cells.length := by
  show _ = some 7
  kernel_rfl
theorem OpA.one (p : OpA) : p.cells.toArray.all (·.oneCell') = true := by simp [OpA.cells, Value.oneCell']
theorem paSizeA (p : OpA) : (Try.prog.info? 75).map (·.size) = some p.cells.toArray.size := by
  show _ = some 7
  kernel_rfl
end Go.Proofs.Ytkmhbbcppjckiaa.Ma
