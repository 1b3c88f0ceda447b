/- A slice of operations (foliotlaw05.Op) that came in: what of it the walks ask. -/
import Derived.Test.YtdjpeebekpjiiaaJ0B
import Derived.Deep.Slices
import Derived.Test.YtdjpeebekpjiiaaJ0E
import Derived.Laws.CopyOwn
import Derived.OwnWalk
namespace Go.Proofs.Ytdjpeebekpjiiaa.Dk
open Go Go.RowKit Go.ChangeShapes Go.WideShapes Go.ChangeAt Go.Deep
set_option linter.unusedVariables false
set_option linter.unusedSimpArgs false

/-- Numbers in a slice. -/
def Nums (w : World) (v : Value) (L : List Int) : Prop := ∃ ao c, v = .slice ao L.length c ∧ (∀ j, j < L.length → ∃ a, ao = some a ∧ w.cell? (a.add j) = some (.int .i64 (L.getD j 0))) ∧ (∀ z ∈ L, wfi z)
/-- What an operation holds. -/
structure OpD where
  kind : Int
  n : Int
  at_ : Int
  x : Int
  raw : Bool
  ao : Option Addr
  cap : Nat
  data : List UInt8
  ko : Option Addr
  kcap : Nat
  keep : List Int
instance : Inhabited OpD := ⟨⟨0, 0, 0, 0, false, none, 0, [], none, 0, []⟩⟩
def OpD.cells (p : OpD) : List Value := [.int .i64 p.kind, .int .i64 p.n, .int .i64 p.at_, .int .u8 p.x, .bool p.raw, .slice p.ao p.data.length p.cap, .slice p.ko p.keep.length p.kcap]
structure OpD.Good (w : World) (p : OpD) : Prop where
  kind : wfi p.kind
  n : wfi p.n
  at_ : wfi p.at_
  x : 0 ≤ p.x ∧ p.x ≤ 255
  data : Sl w (.slice p.ao p.data.length p.cap) p.data
  len : p.data.length ≤ 9223372036854775807
  keep : Nums w (.slice p.ko p.keep.length p.kcap) p.keep
  klen : p.keep.length ≤ 9223372036854775807
/-- The slice: its cells, and each operation good. -/
def Ops (w : World) (v : Value) (L : List OpD) : Prop :=
  ∃ ao c, v = .slice ao L.length c ∧ (ao = none → L = []) ∧ (∀ a, ao = some a → ∀ j p, L[j]? = some p → ∀ i u, p.cells[i]? = some u → w.cell? (a.add (j * 7 + i)) = some u) ∧ ∀ p ∈ L, p.Good w
theorem OpD.cells_length (p : OpD) : p.cells.length = 7 := rfl
theorem Sl.below' {w w' : World} {v : Value} {xs : List UInt8} {B : Nat} (h : Sl w v xs) (hb : Below B w w') (hs : w.heap.size ≤ B) : Sl w' v xs := by
  obtain ⟨ao, c, rfl, hno, hc⟩ := h
  refine ⟨ao, c, rfl, hno, fun a ha j u hu => ?_⟩
  have := hc a ha j u hu
  rw [hb.cell (Nat.lt_of_lt_of_le (World.block_lt_of_cell? w _ this) hs)]
  exact this
theorem Nums.below {w w' : World} {v : Value} {L : List Int} {B : Nat} (h : Nums w v L) (hb : Below B w w') (hs : w.heap.size ≤ B) : Nums w' v L := by
  obtain ⟨ao, c, rfl, hc, hw⟩ := h
  refine ⟨ao, c, rfl, fun j hj => ?_, hw⟩
  obtain ⟨a, ha, this⟩ := hc j hj
  refine ⟨a, ha, ?_⟩
  rw [hb.cell (Nat.lt_of_lt_of_le (World.block_lt_of_cell? w _ this) hs)]
  exact this
theorem OpD.Good.below {w w' : World} {p : OpD} {B : Nat} (h : p.Good w) (hb : Below B w w') (hs : w.heap.size ≤ B) : p.Good w' := ⟨h.kind, h.n, h.at_, h.x, h.data.below' hb hs, h.len, h.keep.below hb hs, h.klen⟩
theorem Ops.below {w w' : World} {v : Value} {L : List OpD} {B : Nat} (h : Ops w v L) (hb : Below B w w') (hs : w.heap.size ≤ B) : Ops w' v L := by
  obtain ⟨ao, c, rfl, hno, hc, hg⟩ := h
  refine ⟨ao, c, rfl, hno, fun a ha j p hp i u hu => ?_, fun p hp => (hg p hp).below hb hs⟩
  have := hc a ha j p hp i u hu
  rw [hb.cell (Nat.lt_of_lt_of_le (World.block_lt_of_cell? w _ this) hs)]
  exact this

section
variable {H : Type} {enc : TypeId × Value → H} {P : Program} {w : World} {base : Nat} {spare : Nat → Bool} {held : Bool}
theorem trod_struct7 {t : TypeId} {f0 f1 f2 f3 f4 f5 f6 : Field} {fuel : Nat} {cs : List Value} {x : DataW H × List MemPlace} (ht : P.underlying t = some (.struct #[f0, f1, f2, f3, f4, f5, f6])) (h : DataW.trod enc P w base spare held fuel t cs = some x) :
    ∃ y0 y1 y2 y3 y4 y5 y6 n, cs.length = P.cellsOf t ∧ DataW.trod enc P w base spare held n f0.type ((cs.drop f0.offset).take (P.cellsOf f0.type)) = some y0 ∧
      DataW.trod enc P w base spare held n f1.type ((cs.drop f1.offset).take (P.cellsOf f1.type)) = some y1 ∧ DataW.trod enc P w base spare held n f2.type ((cs.drop f2.offset).take (P.cellsOf f2.type)) = some y2 ∧
      DataW.trod enc P w base spare held n f3.type ((cs.drop f3.offset).take (P.cellsOf f3.type)) = some y3 ∧ DataW.trod enc P w base spare held n f4.type ((cs.drop f4.offset).take (P.cellsOf f4.type)) = some y4 ∧
      DataW.trod enc P w base spare held n f5.type ((cs.drop f5.offset).take (P.cellsOf f5.type)) = some y5 ∧ DataW.trod enc P w base spare held n f6.type ((cs.drop f6.offset).take (P.cellsOf f6.type)) = some y6 := by
  obtain ⟨xs, n, _, rfl, hl, hlen, hf⟩ := DataW.trod_struct ht h
  match xs, hlen with
  | [y0, y1, y2, y3, y4, y5, y6], _ => exact ⟨y0, y1, y2, y3, y4, y5, y6, n, hl, by simpa using hf 0 f0 rfl, by simpa using hf 1 f1 rfl, by simpa using hf 2 f2 rfl, by simpa using hf 3 f3 rfl, by simpa using hf 4 f4 rfl, by simpa using hf 5 f5 rfl, by simpa using hf 6 f6 rfl⟩
end
/- A slice of bytes, off its cell. -/
set_option maxRecDepth 100000 in
theorem trod_bytes {H : Type} {enc : TypeId × Value → H} {W : World} {fuel : Nat} {cs : List Value} {x : DataW H × List MemPlace} (h : DataW.trod enc Try.prog W 0 (fun _ => true) true fuel 37 cs = some x) :
    ∃ ao c xs, cs = [.slice ao xs.length c] ∧ Sl W (.slice ao xs.length c) xs ∧ xs.length ≤ c ∧ c ≤ 9223372036854775807 := by
  rcases open_ints Try.underlying37 Try.underlying5 (by kernel_rfl) h with ⟨hcs, hx⟩ | ⟨a, len', cap', zs, hcs, _, hl, hm, hz, hx, hcell, hwz⟩
  · rw [hcs]
    exact ⟨none, 0, [], rfl, ⟨none, 0, rfl, (fun _ => rfl), (fun a ha => by cases ha)⟩, by simp, by omega⟩
  · rw [hcs]
    simp only [if_true] at hz
    have hb : ∀ z ∈ zs.take len', 0 ≤ z ∧ z ≤ 255 := fun z hz' => bounds_u8 (hwz z (List.mem_of_mem_take hz'))
    have hlen : (ofInts (zs.take len')).length = len' := by simp [ofInts]; omega
    refine ⟨some a, cap', ofInts (zs.take len'), (by rw [hlen]), ⟨some a, cap', rfl, (fun h => by cases h), ?_⟩, (by omega), (by unfold maxLen at hm; omega)⟩
    intro a' ha j u hu
    cases ha
    obtain ⟨hj, rfl⟩ := ofInts_get _ hb j u hu
    have hj' : j < len' := by have : (zs.take len').length ≤ len' := List.length_take_le _ _; omega
    rw [hcell j (by omega)]
    simp [List.getD, hj']
/- A slice of numbers, off its cell. -/
set_option maxRecDepth 100000 in
theorem trod_nums {H : Type} {enc : TypeId × Value → H} {W : World} {fuel : Nat} {cs : List Value} {x : DataW H × List MemPlace} (h : DataW.trod enc Try.prog W 0 (fun _ => true) true fuel 64 cs = some x) :
    ∃ ao c L, cs = [.slice ao L.length c] ∧ Nums W (.slice ao L.length c) L ∧ L.length ≤ 9223372036854775807 := by
  rcases open_ints Try.underlying64 Try.underlying3 (by kernel_rfl) h with ⟨hcs, hx⟩ | ⟨a, len', cap', zs, hcs, _, hl, hm, hz, hx, hcell, hwz⟩
  · rw [hcs]
    exact ⟨none, 0, [], rfl, ⟨none, 0, rfl, (fun j hj => by simp at hj), (fun z hz => by cases hz)⟩, by simp⟩
  · rw [hcs]
    simp only [if_true] at hz
    have hlen : (zs.take len').length = len' := by simp; omega
    refine ⟨some a, cap', zs.take len', (by rw [hlen]), ⟨some a, cap', rfl, (fun j hj => ⟨a, rfl, ?_⟩), (fun z hz' => hwz z (List.mem_of_mem_take hz'))⟩, (by unfold maxLen at hm; omega)⟩
    rw [hlen] at hj
    rw [hcell j (by omega)]
    simp [List.getD, hj]
theorem list_nth_one {cs : List Value} {k : Nat} {v : Value} (h : (cs.drop k).take 1 = [v]) : cs[k]? = some v := by
  have := congrArg (fun l => l[0]?) h
  simpa [List.getElem?_take, List.getElem?_drop] using this
theorem cP_u8 : Try.prog.cellsOf 5 = 1 := by kernel_rfl
theorem cP_int : Try.prog.cellsOf 3 = 1 := by kernel_rfl
theorem cP_bool : Try.prog.cellsOf 4 = 1 := by kernel_rfl
theorem cP_bytes : Try.prog.cellsOf 37 = 1 := by kernel_rfl
theorem cP_ints : Try.prog.cellsOf 64 = 1 := by kernel_rfl
/- One operation, off its cells. -/
end Go.Proofs.Ytdjpeebekpjiiaa.Dk
/- The laws' own fits. -/
namespace Go.Proofs.Ytdjpeebekpjiiaa.Dk
open Go Go.RowKit Go.ChangeShapes Go.WideShapes Go.ChangeAt Go.Deep
set_option linter.unusedVariables false
set_option linter.unusedSimpArgs false

section
variable {P : Program}
/-- A variable of many cells is read, wherever it lies. -/
theorem run_loadVar_all (w : World) (a : Addr) (ty : TypeId) (cs : List Value) (d : TypeDesc) (hc : ∀ j v, cs[j]? = some v → w.cell? (a.add j) = some v)
    (hu : P.underlying ty = some d) (hd : d.isRow = true) (hi : (P.info? ty).map (·.size) = some cs.length) :
    (loadVar ty a).run P w = .ok (.agg cs.toArray) w := by
  have hl : (loadCells a cs.length).run P w = .ok cs.toArray w := run_loadCells_list (P := P) w a cs hc
  cases hq : P.info? ty with
  | none => simp [hq] at hi
  | some i =>
    have hs : i.size = cs.length := by simpa [hq] using hi
    have hagg : (isAgg ty).run P w = .ok true w := by
      unfold isAgg
      rw [Sem.run_bind, run_underlying hu w]
      cases d <;> simp_all
    simp [loadVar, Sem.run_bind, hagg, sizeOf, typeInfo, hq, hs, hl]
theorem wpList_load_all {ops : Array Oper} {rest : List Oper} {op : Oper} {a : Act} {w : World} {Q : Exit → Act → World → Prop} (hgd : op.guard = none) (ty : TypeId) (x : Operand) (ho : op.op = .load ty x)
    (p : Addr) (hx : a.eval x = .pointer (some p)) (cs : List Value) (d : TypeDesc) (hc : ∀ j v, cs[j]? = some v → w.cell? (p.add j) = some v)
    (hu : P.underlying ty = some d) (hd : d.isRow = true) (hi : (P.info? ty).map (·.size) = some cs.length)
    (h : wpList P ops Q rest (a.put op.dst (.agg cs.toArray)) w) : wpList P ops Q (op :: rest) a w :=
  wpList_plain hgd fun _ hK => by
    unfold Oper.wp execOp
    simp only [ho, hx, Instr.loadAt, Instr.sureAddr, Sem.run_bind, Sem.run_pure, Result.andThen_ok, run_loadVar_all w p ty cs d hc hu hd hi]
    exact hK _ _ h
end
/-- Whether an operation is of a size that is tried. -/
def OpD.fits (p : OpD) : Bool := decide (p.data.length ≤ 300) && decide (p.keep.length ≤ 20) && (p.raw || decide (p.data.length ≤ 128))
def fitsB (L : List OpD) : Bool := decide (L.length ≤ 30) && L.all OpD.fits
theorem OpD.cells_one (p : OpD) : p.cells.toArray.all (·.oneCell') = true := all_oneCell_toArray (by
  intro v hv
  simp only [OpD.cells, List.mem_cons, List.not_mem_nil, or_false] at hv
  rcases hv with rfl | rfl | rfl | rfl | rfl | rfl | rfl <;> rfl)
def FitRel (w : World) (L : List OpD) (u : Value) (wr : World) : Prop := ∃ j : Nat, u = .int .i64 (j : Int) ∧ j ≤ L.length ∧ (∀ i, i < j → (L.getD i default).fits = true) ∧ Below w.heap.size w wr
theorem Ops.at {w : World} {ao : Option Addr} {c : Nat} {L : List OpD} (h : Ops w (.slice ao L.length c) L) {j : Nat} (hj : j < L.length) : ∃ a, ao = some a ∧ (∀ i v, (L.getD j default).cells[i]? = some v → w.cell? ((a.add (j * 7)).add i) = some v) ∧ (L.getD j default).Good w := by
  obtain ⟨ao', c', e, hno, hc, hg⟩ := h
  injection e with e1 e2 e3
  subst e1 e3
  have hL : L.getD j default = L[j] := by simp [List.getD, hj]
  cases ao with
  | none => rw [hno rfl] at hj; simp at hj
  | some a =>
    refine ⟨a, rfl, fun i v hv => ?_, by rw [hL]; exact hg _ (List.getElem_mem hj)⟩
    rw [add_add]
    exact hc a rfl j _ (by rw [hL]; exact List.getElem?_eq_getElem hj) i v hv
end Go.Proofs.Ytdjpeebekpjiiaa.Dk
/- A mark's sector: what place, lay and read do. -/
namespace Go.Proofs.Ytdjpeebekpjiiaa.Dk
open Go Go.RowKit
set_option linter.unusedVariables false
set_option linter.unusedSimpArgs false

/-- A mark: its number and its six words. -/
structure MkD where
  seq : Nat
  W : List Nat
def uv (n : Nat) : Value := .int .u64 (n : Int)
def MkD.cells (m : MkD) : List Value := uv m.seq :: m.W.map uv
structure MkD.Ok (m : MkD) : Prop where
  seq : m.seq < 18446744073709551616
  len : m.W.length = 6
  W : ∀ n ∈ m.W, n < 18446744073709551616
theorem MkD.cells_length {m : MkD} (h : m.Ok) : m.cells.length = 7 := by simp [MkD.cells, h.len]
theorem Try.markSize {m : MkD} (h : m.Ok) : (Try.prog.info? 88).map (·.size) = some m.cells.length := by rw [m.cells_length h]; kernel_rfl
theorem uv_one (l : List Nat) : ∀ u ∈ l.map uv, u.oneCell' = true := by
  intro u hu
  obtain ⟨_, _, rfl⟩ := List.mem_map.1 hu
  rfl
theorem MkD.cells_one (m : MkD) : m.cells.toArray.all (·.oneCell') = true := all_oneCell_toArray (by
  intro v hv
  rcases List.mem_cons.1 hv with rfl | hv
  · rfl
  · exact uv_one _ v hv)
theorem ret_i64m {a b : Int} (h : a = b) : Ending.returned (.int .i64 a) = Ending.returned (.int .i64 b) := by rw [h]
set_option maxRecDepth 100000 in
theorem place_any (m : MkD) (h : m.Ok) (w : World) : Calls Try.prog 77 #[.agg m.cells.toArray] w fun e w' => e = .returned (.int .i64 ((m.seq % 2 : Nat) : Int)) ∧ Below w.heap.size w w' := by
  have q0 : (w.alloc (.cells m.cells.toArray 88)).cell? ⟨w.heap.size, 0, none⟩ = some (.int .u64 (m.seq : Int)) := by rw [cell_of_row _ w.heap.size 0 _ _ _ (heap_alloc_new w _)]; rfl
  have HB := Lib.hid (show Below w.heap.size w (w.alloc (.cells m.cells.toArray 88)) from (Below.refl _ _).alloc (Nat.le_refl _) _)
  have hs := Lib.hid h.seq
  clear h
  go_enter Try.func77, Try.ntmps77
  go_wp2_with fail
  go_ret
  exact ⟨ret_i64m (by omega), HB.out⟩
/-- The first words of a mark, each in eight bytes. -/
def bodyM (m : MkD) (i : Nat) : List UInt8 := leTo m.seq 8 ++ ((m.W.take i).map (leTo · 8)).flatten
/-- A mark's sector. -/
def layM (m : MkD) : List UInt8 := bodyM m 6 ++ bodyM m 6 ++ List.replicate 16 0
theorem flat8_length : ∀ L : List Nat, ((L.map (leTo · 8)).flatten).length = 8 * L.length
  | [] => rfl
  | n :: L => by
    rw [List.map_cons, List.flatten_cons, List.length_append, leTo_length, flat8_length L, List.length_cons]
    omega
theorem bodyM_length {m : MkD} (h : m.W.length = 6) {i : Nat} (hi : i ≤ 6) : (bodyM m i).length = 8 * (1 + i) := by
  unfold bodyM
  rw [List.length_append, leTo_length, flat8_length, List.length_take]
  omega
theorem layM_length {m : MkD} (h : m.W.length = 6) : (layM m).length = 128 := by
  unfold layM
  rw [List.length_append, List.length_append, bodyM_length h (Nat.le_refl _), List.length_replicate]
theorem lay8_zeros {p b : List UInt8} {k : Nat} (hb : b.length ≤ k) : lay8 (p ++ List.replicate k 0) p.length b = (p ++ b) ++ List.replicate (k - b.length) 0 := by
  unfold lay8
  rw [List.take_left, List.append_assoc]
  congr 2
  rw [← List.drop_drop, List.drop_left, List.drop_replicate]
theorem bodyM_succ {m : MkD} {i : Nat} (hi : i < m.W.length) : bodyM m (i + 1) = bodyM m i ++ leTo (m.W.getD i 0) 8 := by
  unfold bodyM
  rw [List.take_add_one, List.map_append, List.flatten_append, List.getElem?_eq_getElem hi]
  simp [List.getD, hi, List.append_assoc]
theorem Try.infoU64 : (Try.prog.info? 43).map (fun i => (i.zero, i.size, i.bytes)) = some (some (.int .u64 0), 1, 8) := by kernel_rfl
theorem index_a6 (cs : Array Value) (i : Nat) (u : Value) (hi : i < 6) (hs : cs.size = 6) (h : cs[i]? = some u) (k : IntKind) (w : World) : (Instr.index 86 (.agg cs) (.int k (i : Int))).run Try.prog w = .ok u w := by
  have hu : Try.prog.underlying 86 = some (.array 6 43) := by kernel_rfl
  obtain ⟨i0, hi0, hz0, hz1, hz2⟩ := info_parts Try.infoU64
  have hi' : i < cs.size := by omega
  have hv : cs[i] = u := by rw [Array.getElem?_eq_getElem hi'] at h; exact Option.some.inj h
  simp [Instr.index, run_underlying hu, asIntOf, go_sem, hi, sizeOf, typeInfo, hi0, hz1, hv, hi']
def LyRel (m : MkD) (g1 g3 : Nat) (w3 : World) (u : Value) (wr : World) : Prop := ∃ i : Nat, u = .int .i64 (i : Int) ∧ i ≤ 6 ∧ SecAt wr g3 (bodyM m i ++ List.replicate (128 - 8 * (1 + i)) 0) ∧ Frm (fun k => k = g3) w3 wr
set_option maxRecDepth 100000 in
set_option maxHeartbeats 4000000 in
theorem lay_any (m : MkD) (h : m.Ok) (w : World) : Calls Try.prog 78 #[.agg m.cells.toArray] w fun e w' => e = .returned (.agg (bvs (layM m)).toArray) ∧ Below w.heap.size w w' := by
  have hm0 : m.cells[0]? = some (.int .u64 (m.seq : Int)) := rfl
  have hz : Try.zeroCells125 = (bvs zeros).toArray := by kernel_rfl
  obtain ⟨g3, hg3⟩ : ∃ g3, g3 = w.heap.size + 1 + 1 := ⟨_, rfl⟩
  obtain ⟨w3, hw3⟩ : ∃ w3, w3 = ((w.alloc (.cells m.cells.toArray 88)).alloc (.cells Try.zeroCells125 125)).alloc (.cells Try.zeroCells125 125) := ⟨_, rfl⟩
  have e1 : (w.alloc (.cells m.cells.toArray 88)).heap.size = w.heap.size + 1 := Array.size_push _
  have e2 : ((w.alloc (.cells m.cells.toArray 88)).alloc (.cells Try.zeroCells125 125)).heap.size = w.heap.size + 1 + 1 := by rw [← e1]; exact Array.size_push _
  have hr3 : SecAt w3 g3 zeros := ⟨by rw [hw3, hg3, ← e2, hz]; exact heap_alloc_new _ _, zeros_length⟩
  have hr2 : w3.heap[w.heap.size + 1]? = some (.cells (bvs zeros).toArray 125 (0, 0)) := by
    rw [hw3, Below.heap_alloc _ _ _ (by rw [e2]; omega), ← e1, hz]
    exact heap_alloc_new _ _
  have hr1 : w3.heap[w.heap.size]? = some (.cells m.cells.toArray 88 (0, 0)) := by
    rw [hw3, Below.heap_alloc _ _ _ (by rw [e2]; omega), Below.heap_alloc _ _ _ (by rw [e1]; omega)]
    exact heap_alloc_new _ _
  have hb3 : Below w.heap.size w w3 := by rw [hw3]; exact (((Below.refl _ w).alloc (Nat.le_refl _) _).alloc (by rw [e1]; omega) _).alloc (by rw [e2]; omega) _
  have PW := Lib.hid (putWord_any hr3 0 m.seq (by decide) h.seq)
  have HR1 := Lib.hid hr1
  have HR2 := Lib.hid hr2
  have HB3 := Lib.hid hb3
  have HW3 := Lib.hid hw3
  have HG3 := Lib.hid hg3
  have HOK := Lib.hid h
  clear hr1 hr2 hr3 hb3 e1 e2 hz hw3 hg3 h
  go_enter Try.func78, Try.ntmps78
  go_wp2_with fail
  rw [← HW3.out, ← HG3.out]
  refine PW.out.mono ?_
  rintro e w4 ⟨rfl, hS4, hF4⟩
  have e4 : lay8 zeros 0 (leTo m.seq 8) = bodyM m 0 ++ List.replicate (128 - 8 * (1 + 0)) 0 := by
    have := lay8_zeros (p := []) (b := leTo m.seq 8) (k := 128) (by rw [leTo_length]; decide)
    rw [List.nil_append, List.nil_append, leTo_length] at this
    simpa [bodyM, zeros] using this
  rw [e4] at hS4
  have HLY := Lib.hid (show LyRel m w.heap.size g3 w4 (.int .i64 0) w4 from ⟨0, rfl, Nat.zero_le _, hS4, Frm.refl _ _⟩)
  have hr4 := (hF4.block w.heap.size (lt_of_row HR1.out) (fun e => by have := HG3.out; omega)).trans HR1.out
  have HR24 := Lib.hid ((hF4.block (w.heap.size + 1) (lt_of_row HR2.out) (fun e => by have := HG3.out; omega)).trans HR2.out)
  have HC := Lib.hid (show ∀ j v, (m.W.map uv)[j]? = some v → w4.cell? ((⟨w.heap.size, 1, none⟩ : Addr).add j) = some v from fun j v hv => by
    rw [Addr.add_mid, cell_of_row w4 w.heap.size (1 + j) _ _ _ hr4]
    simpa [MkD.cells, Nat.add_comm 1 j] using hv)
  have HZ := Lib.hid (show (Try.prog.info? 86).map (·.size) = some (m.W.map uv).length by rw [List.length_map, HOK.out.len]; kernel_rfl)
  have HB4 := Lib.hid (HB3.out.trans (hF4.below (B := w.heap.size) (fun i _ e => by have := HG3.out; omega) HB3.out.size))
  clear hS4 hF4 e4 hr4 PW hm0
  go_wp2_with (with_reducible show wpList _ _ _ _ _ _; refine wpList_load_all rfl 86 (.tmp 9) rfl ⟨w.heap.size, 1, none⟩ rfl (m.W.map uv) _ HC.out Try.underlying86 rfl HZ.out ?_)
  go_loopw [11] (fun u wr => LyRel m w.heap.size g3 w4 u wr) (fun u _ => 6 - (intOf u).toNat)
  case atStart => exact HLY.out
  case round =>
    obtain ⟨wo, rfl⟩ : ∃ wo : World, wo = wr := ⟨_, rfl⟩
    obtain ⟨i, rfl, hi, hS, hF⟩ := hrel
    have HS := Lib.hid hS
    have HF := Lib.hid hF
    clear hS hF HLY
    by_cases hil : i < 6
    · have hii : (i : Int) < 6 := by omega
      have hiw : i < m.W.length := by rw [HOK.out.len]; exact hil
      have hidx : (m.W.map uv)[i]? = some (.int .u64 ((m.W.getD i 0 : Nat) : Int)) := by simp [uv, List.getD, hiw]
      have hlt : m.W.getD i 0 < 18446744073709551616 := HOK.out.W _ (by simp [List.getD, hiw])
      have PW := Lib.hid (putWord_any HS.out (8 * (1 + i)) (m.W.getD i 0) (by omega) hlt)
      obtain ⟨wi, hwi⟩ : ∃ wi, wi = m.W.getD i 0 := ⟨_, rfl⟩
      rw [← hwi] at hidx PW
      rw [show ((8 * (1 + i) : Nat) : Int) = (1 + (i : Int)) * 8 by omega] at PW
      have HWI := Lib.hid hwi
      clear hlt hwi hiw
      have hix := index_a6 (m.W.map uv).toArray i (.int .u64 (wi : Int)) hil (by simp [HOK.out.len]) (by simpa using hidx) .i64 wo
      have hw8 : wrap64 (8 * (1 + (i : Int))) = 8 * (1 + (i : Int)) := by unfold wrap64; omega
      go_wp2_with fail
      refine PW.out.mono ?_
      rintro e w5 ⟨rfl, hS5, hF5⟩
      have e5 : lay8 (bodyM m i ++ List.replicate (128 - 8 * (1 + i)) 0) (8 * (1 + i)) (leTo wi 8) = bodyM m (i + 1) ++ List.replicate (128 - 8 * (1 + (i + 1))) 0 := by
        have hbl := bodyM_length (m := m) HOK.out.len (show i ≤ 6 by omega)
        have h1 := lay8_zeros (p := bodyM m i) (b := leTo wi 8) (k := 128 - 8 * (1 + i)) (by rw [leTo_length]; omega)
        rw [hbl, leTo_length] at h1
        rw [h1, bodyM_succ (by rw [HOK.out.len]; exact hil), ← HWI.out]
        congr 2
      rw [e5] at hS5
      have RL := Lib.hid (show LyRel m w.heap.size g3 w4 (.int .i64 ((i + 1 : Nat) : Int)) w5 from ⟨i + 1, rfl, by omega, hS5, HF.out.trans hF5⟩)
      clear hS5 hF5 e5 hix hidx
      go_wp2_with fail
      exact ⟨RL.out, by simp [intOf]; omega⟩
    · obtain rfl : i = 6 := by omega
      rw [show ((6 : Nat) : Int) = 6 from rfl]
      have hbl := bodyM_length (m := m) HOK.out.len (Nat.le_refl 6)
      have HBL := Lib.hid hbl
      clear hbl
      go_wp2_with fail
      (refine wp_region_quiet_tail 2 (by kernel_rfl) (by kernel_rfl) ?_; simp only [List.take_succ_cons, List.take_zero, List.drop_succ_cons, List.drop_zero]; (repeat (go_big_quiet_step (fail))); refine wpQuiet_nil ?_; intro _ hw'; obtain ⟨nq, hw''⟩ := hw'; subst hw'')
      have HS6 : SecAt (wo.drewN nq) g3 (bodyM m 6 ++ List.replicate (128 - 8 * (1 + 6)) 0) := HS.out
      have hn : (bvs (bodyM m 6)).length = Nat.min 56 72 := by rw [bvs_length, HBL.out]; rfl
      have hc : 0 < (bvs (bodyM m 6)).length → (some ⟨g3, 56, none⟩ : Option Addr) = some ⟨g3, 56, none⟩ ∧ ∃ ad, (some ⟨g3, 0, none⟩ : Option Addr) = some ad ∧ ∀ j v, (bvs (bodyM m 6))[j]? = some v → (wo.drewN nq).cell? (ad.add j) = some v := by
        intro _
        refine ⟨rfl, _, rfl, fun j v hv => ?_⟩
        rw [Addr.add_mid, cell_of_row (wo.drewN nq) g3 (0 + j) _ _ _ HS6.1, Nat.zero_add, bvs_append]
        have hj := (List.getElem?_eq_some_iff.1 hv).1
        simpa [List.getElem?_append_left hj] using hv
      have hf : 56 + (bvs (bodyM m 6)).length ≤ (bvs (bodyM m 6 ++ List.replicate (128 - 8 * (1 + 6)) 0)).length := by rw [hn, bvs_length, List.length_append, HBL.out, List.length_replicate]; decide
      have HN := Lib.hid hn
      have HCC := Lib.hid hc
      have HFF := Lib.hid hf
      have HSX := Lib.hid HS6
      have hr2 := HF.out.block (w.heap.size + 1) (lt_of_row HR24.out) (fun e => by have := HG3.out; omega)
      have HR2W := Lib.hid (hr2.trans HR24.out)
      have HBW := Lib.hid (HB4.out.trans (HF.out.below (B := w.heap.size) (fun i _ e => by have := HG3.out; omega) HB4.out.size))
      clear HS6 hn hc hf hr2
      refine wpList_copy_splice rfl (.tmp 21) (.tmp 22) 37 37 rfl 5 Try.underlying37 (by kernel_rfl) (some ⟨g3, 56, none⟩) (some ⟨g3, 0, none⟩) 72 72 56 128 rfl rfl g3 56 (bvs (bodyM m 6 ++ List.replicate (128 - 8 * (1 + 6)) 0)) 125 HSX.out.1 (bvs (bodyM m 6)) HN.out HCC.out HFF.out (bvs_one _) g3 (wo.drewN nq) (Below.refl _ _) (Nat.le_refl _) ?_
      intro w6 HG hb6
      have esp : splice (bvs (bodyM m 6 ++ List.replicate (128 - 8 * (1 + 6)) 0)) 56 (bvs (bodyM m 6)) = bvs (layM m) := by
        unfold splice layM
        rw [bvs_append, bvs_append, bvs_append, List.take_append_of_le_length (by rw [bvs_length, HBL.out]; decide), List.take_of_length_le (by rw [bvs_length, HBL.out]; decide)]
        rw [List.drop_append, bvs_length, HBL.out, List.drop_eq_nil_of_le (by rw [bvs_length, HBL.out]; decide), List.nil_append]
        rw [List.append_assoc]
        congr 2
      have hg6 := HG.out
      rw [esp] at hg6
      have hll := layM_length (m := m) HOK.out.len
      have HC6 := Lib.hid (show ∀ j v, (bvs (layM m))[j]? = some v → w6.cell? ((⟨g3, 0, none⟩ : Addr).add j) = some v from fun j v hv => by
        rw [Addr.add_mid, cell_of_row w6 g3 (0 + j) _ _ _ hg6, Nat.zero_add]
        simpa using hv)
      have HSZ := Lib.hid (show (Try.prog.info? 125).map (·.size) = some (bvs (layM m)).length by rw [bvs_length, hll]; kernel_rfl)
      have HSZ2 := Lib.hid (show (Try.prog.info? 125).map (·.size) = some (bvs (layM m)).toArray.size by rw [List.size_toArray, bvs_length, hll]; kernel_rfl)
      have HSO := Lib.hid (show (bvs zeros).toArray.size = (bvs (layM m)).toArray.size by rw [List.size_toArray, List.size_toArray, bvs_length, bvs_length, hll]; rfl)
      have HR6 := Lib.hid ((hb6.block (w.heap.size + 1) (by have := HG3.out; omega)).trans HR2W.out)
      have HB6 := Lib.hid ((below_drewN HBW.out nq).trans (hb6.mono (B' := w.heap.size) (by have := HG3.out; omega)))
      clear hg6 hll esp HG hb6
      go_wp2_with (first
        | (with_reducible show wpList _ _ _ _ _ _; refine wpList_load_all rfl 125 (.tmp 3) rfl ⟨g3, 0, none⟩ rfl (bvs (layM m)) _ HC6.out Try.underlying125 rfl HSZ.out ?_)
        | (with_reducible show wpList _ _ _ _ _ _; refine wpList_store_whole rfl 125 (.tmp 2) (.tmp 24) rfl (w.heap.size + 1) 125 (bvs zeros).toArray (bvs (layM m)).toArray rfl rfl HR6.out HSZ2.out HSO.out (all_bvs _) ?_))
      refine bodyPost_ret (results_cell_row rfl _ _ (w.heap.size + 1) 125 _ (0, 0) _ rfl (setRow_heap w6 _ _ _ _ (0, 0) HR6.out) Try.underlying125 rfl HSZ2.out) rfl ⟨rfl, ?_⟩
      exact below_setRow HB6.out (by omega) _
end Go.Proofs.Ytdjpeebekpjiiaa.Dk
/- A mark's sector: what read does. -/
namespace Go.Proofs.Ytdjpeebekpjiiaa.Dk
open Go Go.RowKit
set_option linter.unusedVariables false
set_option linter.unusedSimpArgs false

/-- The mark that a sector's bytes tell. -/
def readM (l : List UInt8) : MkD := ⟨wordN l 0 8, (List.range 6).map fun i => wordN l (8 * (1 + i)) 8⟩
theorem word8_lt (l : List UInt8) (a : Nat) : wordN l a 8 < 18446744073709551616 := by
  have := wordN_lt l a 8
  have e : (256 : Nat) ^ 8 = 18446744073709551616 := by decide
  omega
theorem readM_ok (l : List UInt8) : (readM l).Ok := ⟨word8_lt l 0, by simp [readM], fun n hn => by
  simp only [readM, List.mem_map] at hn
  obtain ⟨i, _, rfl⟩ := hn
  exact word8_lt l _⟩
/-- Its first i words are read. -/
def upM (l : List UInt8) (i : Nat) : List Value := uv (wordN l 0 8) :: (((List.range i).map fun k => uv (wordN l (8 * (1 + k)) 8)) ++ List.replicate (6 - i) (uv 0))
theorem upM_end (l : List UInt8) : upM l 6 = (readM l).cells := by
  simp only [upM, readM, MkD.cells, List.map_map, Nat.sub_self, List.replicate_zero, List.append_nil]
  rfl
theorem upM_length (l : List UInt8) {i : Nat} (h : i ≤ 6) : (upM l i).length = 7 := by simp [upM]; omega
theorem upM_step (l : List UInt8) {i : Nat} (h : i < 6) : (upM l i).set (1 + i) (uv (wordN l (8 * (1 + i)) 8)) = upM l (i + 1) := by
  unfold upM
  rw [Nat.add_comm 1 i, List.set_cons_succ]
  congr 1
  have hl : ((List.range i).map fun k => uv (wordN l (8 * (1 + k)) 8)).length = i := by simp
  rw [List.set_append, if_neg (by rw [hl]; omega), hl, Nat.sub_self, List.range_succ, List.map_append]
  rw [show 6 - i = (6 - (i + 1)) + 1 by omega, List.replicate_succ, List.set_cons_zero]
  simp [Nat.add_comm 1 i]
def RdmRel (l : List UInt8) (g g3 : Nat) (w3 : World) (u : Value) (wr : World) : Prop := ∃ i : Nat, u = .int .i64 (i : Int) ∧ i ≤ 6 ∧ wr.heap[g3]? = some (.cells (upM l i).toArray 88 (0, 0)) ∧ Frm (fun k => k = g3) w3 wr
theorem MkD.ofSize : (Try.prog.info? 88).map (·.size) = some 7 := by kernel_rfl
set_option maxRecDepth 100000 in
set_option maxHeartbeats 4000000 in
theorem kread_any {w : World} {g : Nat} {l : List UInt8} (h : SecAt w g l) : Calls Try.prog 76 #[.pointer (some ⟨g, 0, none⟩)] w fun e w' => e = .returned (.agg (readM l).cells.toArray) ∧ Below w.heap.size w w' := by
  have H := Lib.hid h
  clear h
  have hgl := lt_of_row H.out.1
  obtain ⟨w1, hw1⟩ : ∃ w1, w1 = w.alloc (.cells #[.int .u64 0, .int .u64 0, .int .u64 0, .int .u64 0, .int .u64 0, .int .u64 0, .int .u64 0] 88) := ⟨_, rfl⟩
  have f1 : Below w.heap.size w w1 := by rw [hw1]; exact (Below.refl _ _).alloc (Nat.le_refl _) _
  have r1 := heap_alloc_new w (.cells #[.int .u64 0, .int .u64 0, .int .u64 0, .int .u64 0, .int .u64 0, .int .u64 0, .int .u64 0] 88)
  have z1 : w1.heap.size = w.heap.size + 1 := by rw [hw1]; exact Array.size_push _
  rw [← hw1] at r1
  have S1 : SecAt w1 g l := ⟨(f1.block g hgl).trans H.out.1, H.out.2⟩
  have WD := Lib.hid (word_any S1 0 (by decide))
  have HW1 := Lib.hid hw1
  have HS1 := Lib.hid S1
  have HR1 := Lib.hid r1
  have HF1 := Lib.hid f1
  have HZ1 := Lib.hid z1
  clear hw1 r1 f1 S1 z1
  go_enter Try.func76, Try.ntmps76
  go_wp2_with fail
  rw [← HW1.out]
  refine WD.out.mono ?_
  rintro e w' ⟨rfl, rfl⟩
  obtain ⟨g3, hg3⟩ : ∃ g3, g3 = w1.heap.size := ⟨_, rfl⟩
  obtain ⟨w2, hw2⟩ : ∃ w2, w2 = w1.alloc (.cells #[.int .u64 ((wordN l 0 8 : Nat) : Int), .int .u64 0, .int .u64 0, .int .u64 0, .int .u64 0, .int .u64 0, .int .u64 0] 88) := ⟨_, rfl⟩
  have f2 : Below w1.heap.size w1 w2 := by rw [hw2]; exact (Below.refl _ _).alloc (Nat.le_refl _) _
  have r2 : w2.heap[g3]? = some (.cells (upM l 0).toArray 88 (0, 0)) := by rw [hw2, hg3]; exact heap_alloc_new w1 _
  have L0 := Lib.hid (show RdmRel l g g3 w2 (.int .i64 0) w2 from ⟨0, rfl, Nat.zero_le _, r2, Frm.refl _ _⟩)
  have HG3 := Lib.hid hg3
  have HW2 := Lib.hid hw2
  have HS2 := Lib.hid (show SecAt w2 g l from ⟨(f2.block g (lt_of_row HS1.out.1)).trans HS1.out.1, HS1.out.2⟩)
  have HR2 := Lib.hid ((f2.block w.heap.size (lt_of_row HR1.out)).trans HR1.out)
  have HB2 := Lib.hid (HF1.out.trans (f2.mono HF1.out.size))
  have GNE := Lib.hid (show g ≠ g3 ∧ w.heap.size ≠ g3 ∧ w.heap.size ≤ g3 from by have := lt_of_row HS1.out.1; have := HZ1.out; omega)
  clear hg3 hw2 f2 r2
  go_wp2_with fail
  rw [← HW2.out, ← HG3.out]
  go_loopw [8] (fun u wr => RdmRel l g g3 w2 u wr) (fun u _ => 6 - (intOf u).toNat)
  case atStart => exact L0.out
  case round =>
    obtain ⟨wo, rfl⟩ : ∃ wo : World, wo = wr := ⟨_, rfl⟩
    obtain ⟨i, rfl, hi, hrow, hF⟩ := hrel
    have HROW := Lib.hid hrow
    have HF := Lib.hid hF
    clear hrow hF L0
    by_cases hil : i < 6
    · have hii : (i : Int) < 6 := by omega
      have SW : SecAt wo g l := ⟨(HF.out.block g (lt_of_row HS2.out.1) GNE.out.1).trans HS2.out.1, HS2.out.2⟩
      have WD := Lib.hid (word_any SW (8 * (1 + i)) (by omega))
      rw [show ((8 * (1 + i) : Nat) : Int) = (1 + (i : Int)) * 8 by omega] at WD
      have hw8 : wrap64 (8 * (1 + (i : Int))) = 8 * (1 + (i : Int)) := by unfold wrap64; omega
      have hc : wo.cell? ⟨g3, 1 + i, none⟩ = (upM l i)[1 + i]? := by rw [cell_of_row wo g3 (1 + i) _ _ _ HROW.out]; simp
      have hcl : (upM l i)[1 + i]? = some ((upM l i)[1 + i]'(by rw [upM_length l hi]; omega)) := List.getElem?_eq_getElem _
      rw [hcl] at hc
      generalize (upM l i)[1 + i]'(by rw [upM_length l hi]; omega) = old at hc
      have hf := frozen_of_row wo g3 (1 + i) _ _ HROW.out
      have hst := Go.Joins.block_setCell (i := 1 + i) HROW.out (uv (wordN l (8 * (1 + i)) 8))
      rw [List.setIfInBounds_toArray, upM_step l hil] at hst
      have RL := Lib.hid (show RdmRel l g g3 w2 (.int .i64 ((i + 1 : Nat) : Int)) (wo.setCell ⟨g3, 1 + i, none⟩ (.int .u64 ((wordN l (8 * (1 + i)) 8 : Nat) : Int))) from ⟨i + 1, rfl, by omega, hst, HF.out.setCell (p := ⟨g3, 1 + i, none⟩) (.inl rfl) _⟩)
      clear hst hcl SW
      go_wp2_with fail
      refine WD.out.mono ?_
      rintro e w' ⟨rfl, rfl⟩
      go_wp2_with fail
      exact ⟨RL.out, by simp [intOf]; omega⟩
    · obtain rfl : i = 6 := by omega
      rw [show ((6 : Nat) : Int) = 6 from rfl]
      have hr6 := HROW.out
      rw [upM_end] at hr6
      have HC := Lib.hid (show ∀ j v, (readM l).cells[j]? = some v → wo.cell? ((⟨g3, 0, none⟩ : Addr).add j) = some v from fun j v hv => by
        rw [Addr.add_mid, cell_of_row wo g3 (0 + j) _ _ _ hr6, Nat.zero_add]
        simpa using hv)
      have HSZ := Lib.hid (Try.markSize (readM_ok l))
      have HSZ2 := Lib.hid (show (Try.prog.info? 88).map (·.size) = some (readM l).cells.toArray.size by rw [List.size_toArray]; exact Try.markSize (readM_ok l))
      have HR6 := Lib.hid ((HF.out.block w.heap.size (lt_of_row HR2.out) GNE.out.2.1).trans HR2.out)
      have HB6 := Lib.hid (HB2.out.trans (HF.out.below (B := w.heap.size) (fun i _ e => by have := GNE.out; omega) HB2.out.size))
      have HSO := Lib.hid (show (#[Value.int .u64 0, .int .u64 0, .int .u64 0, .int .u64 0, .int .u64 0, .int .u64 0, .int .u64 0] : Array Value).size = (readM l).cells.toArray.size by show 7 = _; rw [List.size_toArray, MkD.cells_length (readM_ok l)])
      clear hr6
      go_wp2_with (first
        | (with_reducible show wpList _ _ _ _ _ _; refine wpList_load_all rfl 88 (.tmp 3) rfl ⟨g3, 0, none⟩ rfl (readM l).cells _ HC.out Try.underlying88 rfl HSZ.out ?_)
        | (with_reducible show wpList _ _ _ _ _ _; refine wpList_store_whole rfl 88 (.tmp 2) (.tmp 20) rfl w.heap.size 88 _ (readM l).cells.toArray rfl rfl HR6.out HSZ2.out HSO.out (readM l).cells_one ?_))
      refine bodyPost_ret (results_cell_row rfl _ _ w.heap.size 88 _ (0, 0) _ rfl (setRow_heap wo _ _ _ _ (0, 0) HR6.out) Try.underlying88 rfl HSZ2.out) rfl ⟨rfl, ?_⟩
      exact below_setRow HB6.out (Nat.le_refl _) _
end Go.Proofs.Ytdjpeebekpjiiaa.Dk
