/- Two sectors: the greatest number on them. -/
import Derived.Test.YtdjpeebekpjiiaaJ0L
import Derived.ChangeKeysEq
import Derived.Laws.ResultCell
import Derived.Test.YtdjpeebekpjiiaaJ0J
namespace Go.Proofs.Ytdjpeebekpjiiaa.Dk
open Go Go.RowKit
set_option linter.unusedVariables false
set_option linter.unusedSimpArgs false

/-- Two sectors in a block. -/
structure PairAt (w : World) (g : Nat) (a b : List UInt8) : Prop where
  row : w.heap[g]? = some (.cells (bvs a ++ bvs b).toArray 127 (0, 0))
  la : a.length = 128
  lb : b.length = 128
theorem Try.zeroM : Try.zeroCells125.size = 128 := by kernel_rfl
def sel (a b : List UInt8) (i : Nat) : List UInt8 := if i = 0 then a else b
theorem sel_length {a b : List UInt8} (la : a.length = 128) (lb : b.length = 128) (i : Nat) : (sel a b i).length = 128 := by
  unfold sel
  split <;> assumption
theorem PairAt.cells {w : World} {g : Nat} {a b : List UInt8} (h : PairAt w g a b) {i : Nat} (hi : i < 2) : ∀ j v, (bvs (sel a b i))[j]? = some v → w.cell? ((⟨g, i * 128, none⟩ : Addr).add j) = some v := by
  intro j v hv
  have hj := (List.getElem?_eq_some_iff.1 hv).1
  rw [bvs_length, sel_length h.la h.lb] at hj
  rw [Addr.add_mid, cell_of_row w g (i * 128 + j) _ _ _ h.row]
  have hal : (bvs a).length = 128 := by rw [bvs_length, h.la]
  have hi' : i = 0 ∨ i = 1 := by omega
  rcases hi' with rfl | rfl
  · simp only [sel, if_true] at hv
    simp only [Nat.zero_mul, Nat.zero_add, List.getElem?_toArray]
    rw [List.getElem?_append_left (by rw [hal]; exact hj)]
    exact hv
  · simp only [sel, if_neg (show ¬ (1 = 0) by decide)] at hv
    simp only [Nat.one_mul, List.getElem?_toArray]
    rw [List.getElem?_append_right (by rw [hal]; omega), hal, Nat.add_sub_cancel_left]
    exact hv
theorem PairAt.keep {w w' : World} {g : Nat} {a b : List UInt8} (h : PairAt w g a b) (e : w'.heap[g]? = w.heap[g]?) : PairAt w' g a b := ⟨e.trans h.row, h.la, h.lb⟩
theorem PairAt.lt {w : World} {g : Nat} {a b : List UInt8} (h : PairAt w g a b) : g < w.heap.size := lt_of_row h.row
/-- The greatest of the numbers that stand where marks' numbers do, on the first i sectors. -/
def greatN (a b : List UInt8) : Nat → Nat
  | 0 => 0
  | i + 1 => max (max (greatN a b i) (wordN (sel a b i) 0 8)) (wordN (sel a b i) 56 8)
theorem greatN_lt (a b : List UInt8) : ∀ i, greatN a b i < 18446744073709551616
  | 0 => by simp [greatN]
  | i + 1 => by
    have h1 := greatN_lt a b i
    have h2 := word8_lt (sel a b i) 0
    have h3 := word8_lt (sel a b i) 56
    unfold greatN
    omega
theorem max3 (n x y : Nat) : (if (if n < x then (x : Int) else (n : Int)) < (y : Int) then (y : Int) else if n < x then (x : Int) else (n : Int)) = ((max (max n x) y : Nat) : Int) := by
  by_cases h : n < x
  · simp only [if_pos h]
    split <;> omega
  · simp only [if_neg h]
    split <;> omega
def GrRel (w : World) (a b : List UInt8) (u v : Value) (wr : World) : Prop := ∃ i : Nat, u = .int .i64 (i : Int) ∧ i ≤ 2 ∧ v = .int .u64 ((greatN a b i : Nat) : Int) ∧ Below w.heap.size w wr
set_option maxRecDepth 100000 in
set_option maxHeartbeats 4000000 in
theorem greatest_any {w : World} {g : Nat} {a b : List UInt8} (h : PairAt w g a b) : Calls Try.prog 89 #[.pointer (some ⟨g, 0, none⟩)] w fun e w' => e = .returned (.int .u64 ((greatN a b 2 : Nat) : Int)) ∧ Below w.heap.size w w' := by
  have H := Lib.hid h
  clear h
  have L0 := Lib.hid (show GrRel w a b (.int .i64 0) (.int .u64 0) w from ⟨0, rfl, Nat.zero_le _, rfl, Below.refl _ _⟩)
  go_enter Try.func89, Try.ntmps89
  go_wp2_with fail
  go_loopw [8, 3] (fun u v wr => GrRel w a b u v wr) (fun u _ _ => 2 - (intOf u).toNat)
  case atStart => exact L0.out
  case round =>
    obtain ⟨wo, rfl⟩ : ∃ wo : World, wo = wr := ⟨_, rfl⟩
    obtain ⟨i, rfl, hi, rfl, hB⟩ := hrel
    have HB := Lib.hid hB
    clear hB L0
    by_cases hil : i < 2
    · have hii : (i : Int) < 2 := by omega
      have HPo := Lib.hid (H.out.keep (HB.out.block g H.out.lt))
      have hsl := sel_length H.out.la H.out.lb i
      have HC := Lib.hid (HPo.out.cells hil)
      obtain ⟨s, hs⟩ : ∃ s, s = sel a b i := ⟨_, rfl⟩
      rw [← hs] at HC hsl
      have HSL := Lib.hid hsl
      have HS := Lib.hid hs
      have HSZ := Lib.hid (show (Try.prog.info? 125).map (·.size) = some (bvs s).length by rw [bvs_length, hsl]; kernel_rfl)
      have HSZ2 := Lib.hid (show (Try.prog.info? 125).map (·.size) = some (bvs s).toArray.size by rw [List.size_toArray, bvs_length, hsl]; kernel_rfl)
      have HSO := Lib.hid (show Try.zeroCells125.size = (bvs s).toArray.size by rw [Try.zeroM, List.size_toArray, bvs_length, hsl])
      clear hsl hs
      go_wp2_with (first
        | (with_reducible show wpList _ _ _ _ _ _; refine wpList_load_all rfl 125 (.tmp 11) rfl ⟨g, i * 128, none⟩ rfl (bvs s) _ HC.out Try.underlying125 rfl HSZ.out ?_)
        | (with_reducible show wpList _ _ _ _ _ _; refine wpList_store_new rfl 125 (.tmp 5) (.tmp 12) rfl 125 Try.zeroCells125 (bvs s).toArray rfl rfl HSZ2.out HSO.out (all_bvs _) ?_))
      obtain ⟨w4, hw4⟩ : ∃ w4, w4 = wo.alloc (.cells (bvs s).toArray 125) := ⟨_, rfl⟩
      have S4 : SecAt w4 wo.heap.size s := ⟨by rw [hw4]; exact heap_alloc_new _ _, HSL.out⟩
      have f4 : Below wo.heap.size wo w4 := by rw [hw4]; exact (Below.refl _ _).alloc (Nat.le_refl _) _
      have WD0 := Lib.hid (word_any S4 0 (by decide))
      have WD1 := Lib.hid (word_any S4 56 (by decide))
      have HB4 := Lib.hid (HB.out.trans (f4.mono HB.out.size))
      rw [← hw4]
      clear S4 f4 hw4
      refine WD0.out.mono ?_
      rintro e w' ⟨rfl, rfl⟩
      go_wp2_with fail
      refine WD1.out.mono ?_
      rintro e w' ⟨rfl, rfl⟩
      have HM := Lib.hid (max3 (greatN a b i) (wordN s 0 8) (wordN s 56 8))
      have HG := Lib.hid (show max (max (greatN a b i) (wordN s 0 8)) (wordN s 56 8) = greatN a b (i + 1) by rw [greatN, ← HS.out])
      have RL := Lib.hid (show GrRel w a b (.int .i64 ((i + 1 : Nat) : Int)) (.int .u64 ((greatN a b (i + 1) : Nat) : Int)) w4 from ⟨i + 1, rfl, by omega, rfl, HB4.out⟩)
      go_wp2_with fail
      rw [HM.out, HG.out]
      exact ⟨RL.out, by simp [intOf]; omega⟩
    · obtain rfl : i = 2 := by omega
      rw [show ((2 : Nat) : Int) = 2 from rfl]
      go_wp2_with fail
      go_ret
      exact ⟨rfl, HB.out⟩
end Go.Proofs.Ytdjpeebekpjiiaa.Dk
/- Two sectors held against each other. -/
namespace Go.Proofs.Ytdjpeebekpjiiaa.Dk
open Go Go.RowKit
set_option linter.unusedVariables false
set_option linter.unusedSimpArgs false

theorem bvs_lit (l : List UInt8) (i : Nat) (h : i < l.length) : (bvs l).toArray[i]? = some (.int .u8 ((l.getD i 0).toNat : Int)) := by
  simp [bvs, bv, List.getD, h]
set_option maxRecDepth 100000 in
set_option maxHeartbeats 1000000 in
theorem Try.infoU8e : (Try.prog.info? 5).map (fun i => (i.zero, i.size, i.bytes)) = some (some (.int .u8 0), 1, 1) := by kernel_rfl
theorem part_byte (l : List UInt8) (i : Nat) (h : i < l.length) (w : World) : (part 5 (bvs l).toArray (i * 1)).run Try.prog w = .ok (.int .u8 ((l.getD i 0).toNat : Int)) w := by
  obtain ⟨i0, hi0, hz0, hz1, hz2⟩ := info_parts Try.infoU8e
  have hh := bvs_lit l i h
  have hs : i < (bvs l).toArray.size := by simpa [bvs] using h
  rw [Array.getElem?_eq_getElem hs] at hh
  have hv := Option.some.inj hh
  simp only [List.getElem_toArray] at hv
  have hsz : (sizeOf 5).run Try.prog w = .ok 1 w := by simp [sizeOf, typeInfo, hi0, hz1]
  have hl : i < (bvs l).length := by simpa using hs
  simp [part, go_sem, hi0, hz1, hl, hv, sizeOf, typeInfo]
theorem eq_bytes (l m : List UInt8) (d : Nat) : ∀ (is : List Nat) (w : World), (∀ i ∈ is, i < l.length ∧ i < m.length) →
    (Op.eqItems (d + 1) 5 1 (bvs l).toArray (bvs m).toArray is).run Try.prog w = .ok (is.all fun i => l.getD i 0 == m.getD i 0) w
  | [], w, _ => by simp [Op.eqItems]
  | i :: is, w, h => by
    have hi := h i (by simp)
    have ih := eq_bytes l m d is w (fun j hj => h j (by simp [hj]))
    have hu : Try.prog.underlying 5 = some (.int .u8) := Try.underlying5
    have he : ∀ a b : UInt8, (Op.equalIn (d + 1) 5 (.int .u8 (a.toNat : Int)) (.int .u8 (b.toNat : Int))).run Try.prog w = .ok (a == b) w := by
      intro a b
      have : (((a.toNat : Nat) : Int) == ((b.toNat : Nat) : Int)) = (a == b) := by
        rw [Bool.eq_iff_iff, beq_iff_eq, beq_iff_eq, Int.ofNat_inj, UInt8.toNat_inj]
      simp [Op.equalIn, run_underlying hu, this]
    simp only [Op.eqItems, Sem.run_bind, part_byte l i hi.1, part_byte m i hi.2, Result.andThen_ok, he]
    by_cases hb : (l.getD i 0 == m.getD i 0) = true
    · simp only [hb, Bool.not_true, Bool.false_eq_true, if_false, ih, List.all_cons, Bool.true_and]
    · simp only [Bool.not_eq_true] at hb
      simp only [hb, Bool.not_false, if_true, Sem.run_pure, List.all_cons, Bool.false_and]
set_option maxRecDepth 100000 in
theorem equal_sec (l m : List UInt8) (hl : l.length = 128) (hm : m.length = 128) (w : World) : (Op.equal 125 (.agg (bvs l).toArray) (.agg (bvs m).toArray)).run Try.prog w = .ok (decide (l = m)) w := by
  obtain ⟨i0, hi0, hz0, hz1, hz2⟩ := info_parts Try.infoU8e
  have hc : Try.prog.cellsOf 5 = 1 := by kernel_rfl
  have h := run_equalIn_array (P := Try.prog) w 9999 (t := 125) (bvs l).toArray (bvs m).toArray (show Try.prog.underlying 125 = some (.array 128 5) by kernel_rfl) hi0
  have hd : Op.maxDepth = 9999 + 1 := rfl
  unfold Op.equal
  rw [hd, h, hc, eq_bytes l m 9998 _ w (fun i hi => by have := List.mem_range.1 hi; omega)]
  congr 1
  rw [Bool.eq_iff_iff]
  simp only [List.all_eq_true, List.mem_range, beq_iff_eq, decide_eq_true_eq]
  constructor
  · intro hh
    apply List.ext_getElem (by omega)
    intro i h1 h2
    have := hh i (by omega)
    simpa [List.getD, h1, h2] using this
  · rintro rfl i _; rfl
theorem eql_sec (l m : List UInt8) (hl : l.length = 128) (hm : m.length = 128) (w : World) : (binOp .eql 125 (.agg (bvs l).toArray) (.agg (bvs m).toArray)).run Try.prog w = .ok (.bool (decide (l = m))) w := by
  simp [binOp, equal_sec l m hl hm]
theorem guard_sec : Try.prog.eqGuardType Try.prog.depth 125 = false := by kernel_rfl
theorem exec_eql {o : Oper} {ev : Operand → Value} {x y : Operand} {s : TypeId} (ho : o.op = .binOp .eql 125 x y s) (l m : List UInt8) (hl : l.length = 128) (hm : m.length = 128) (hx : ev x = .agg (bvs l).toArray) (hy : ev y = .agg (bvs m).toArray) (w : World) :
    (execOp ev o).run Try.prog w = .ok (.value (.bool (decide (l = m)))) w := by
  have hg := guard_sec
  have hn := eql_sec l m hl hm w
  unfold execOp
  simp only [ho, hx, hy]
  simp [eqGuard, Sem.run_bind, hg, hn]
end Go.Proofs.Ytdjpeebekpjiiaa.Dk
/- Two sectors of a disk: what readPair makes of them. -/
namespace Go.Proofs.Ytdjpeebekpjiiaa.Dk
open Go Go.RowKit
set_option linter.unusedVariables false
set_option linter.unusedSimpArgs false

theorem results2_cell_row {P : Program} {fn : Func} {p u : Tmp} {ty : TypeId} (h : fn.results = #[.cell p ty, .tmp u]) (tmps : Array Value) (w : World) (g : Nat) (t : TypeId) (cs : Array Value) (fr : Nat × Nat) (d : TypeDesc) (vu : Value)
    (hp : tmps.getD p undef = .pointer (some ⟨g, 0, none⟩)) (hv : tmps.getD u undef = vu) (hg : w.heap[g]? = some (.cells cs t fr))
    (hu : P.underlying ty = some d) (hd : (match d with | .struct _ | .array _ _ => true | _ => false) = true) (hi : (P.info? ty).map (·.size) = some cs.size) :
    (results fn tmps).run P w = .ok (.tuple #[.agg cs, vu]) w := by
  rw [results_cell_tmp h, hp, hv]
  simp [asAddr, run_loadVar_row w g t ty cs fr d hg hu hd hi, Result.andThen]
variable {w : World} {d g m n : Nat} {x : DS}
theorem read_up (hd : x.down = false) {i : Int} (hi : x.has i = true) : (x.read i).2 = 0 := by
  unfold DS.read
  rw [if_neg (by rw [hd]; decide)]
  split
  · rfl
  · simp [DS.sure, hi]
theorem Try.zeroP : Try.zeroCells127 = (bvs zeros ++ bvs zeros).toArray := by kernel_rfl
theorem Try.pairSize : (Try.prog.info? 127).map (·.size) = some 256 := by kernel_rfl
/-- Where the loop stands that reads the two sectors. -/
def RpRel (w : World) (d g m n : Nat) (x : DS) (first : Nat) (g4 g6 : Nat) (u : Value) (wr : World) : Prop :=
  ∃ i : Nat, u = .int .i64 (i : Int) ∧ i ≤ 2 ∧ ∃ a b : List UInt8, a.length = 128 ∧ b.length = 128 ∧ (0 < i → a = (x.read (first : Int)).1) ∧ (1 < i → b = (x.read ((first + 1 : Nat) : Int)).1) ∧ wr.heap[g6]? = some (.cells (bvs a ++ bvs b).toArray 127 (0, 0)) ∧
    wr.heap[g4]? = some (.cells (bvs zeros ++ bvs zeros).toArray 127 (0, 0)) ∧ DiskAt Try.prog wr d g m n x ∧ Below w.heap.size w wr
theorem splice_fst {a b c : List UInt8} (ha : a.length = 128) (hb : b.length = 128) (hc : c.length = 128) : splice (bvs a ++ bvs b) 0 (bvs c) = bvs c ++ bvs b := by
  unfold splice
  rw [List.take_zero, List.nil_append, Nat.zero_add, bvs_length, hc, List.drop_append, bvs_length, ha, List.drop_eq_nil_of_le (by rw [bvs_length, ha]; omega), List.nil_append]
  rfl
theorem splice_snd {a b c : List UInt8} (ha : a.length = 128) (hb : b.length = 128) (hc : c.length = 128) : splice (bvs a ++ bvs b) 128 (bvs c) = bvs a ++ bvs c := by
  unfold splice
  rw [bvs_length, hc, List.take_append_of_le_length (by rw [bvs_length, ha]; omega), List.take_of_length_le (by rw [bvs_length, ha]; omega), List.drop_eq_nil_of_le (by rw [List.length_append, bvs_length, bvs_length, ha, hb]; omega), List.append_nil]
set_option maxRecDepth 100000 in
set_option maxHeartbeats 4000000 in
theorem readPair_ok (h : DiskAt Try.prog w d g m n x) (first : Nat) (hr : first + 2 ≤ x.s.length) (hdn : x.down = false) :
    Calls Try.prog 56 #[.pointer (some ⟨d, 0, none⟩), .int .i64 (first : Int)] w fun e w' => ∃ a b, a = (x.read (first : Int)).1 ∧ b = (x.read ((first + 1 : Nat) : Int)).1 ∧ a.length = 128 ∧ b.length = 128 ∧ e = .returned (.tuple #[.agg (bvs a ++ bvs b).toArray, .int .i64 0]) ∧ Below w.heap.size w w' := by
  have hfw := h.few
  have H := Lib.hid h
  obtain ⟨w1, hw1⟩ : ∃ w1, w1 = w.alloc (.cells Try.zeroCells127 127) := ⟨_, rfl⟩
  have z1 : w1.heap.size = w.heap.size + 1 := by rw [hw1]; exact Array.size_push _
  have f1 : Below w.heap.size w w1 := by rw [hw1]; exact (Below.refl _ _).alloc (Nat.le_refl _) _
  have r1 : w1.heap[w.heap.size]? = some (.cells (bvs zeros ++ bvs zeros).toArray 127 (0, 0)) := by rw [hw1, ← Try.zeroP]; exact heap_alloc_new _ _
  obtain ⟨w2, hw2⟩ : ∃ w2, w2 = w1.alloc (.cells Try.zeroCells127 127) := ⟨_, rfl⟩
  obtain ⟨g6, hg6⟩ : ∃ g6, g6 = w1.heap.size := ⟨_, rfl⟩
  have f2 : Below w1.heap.size w1 w2 := by rw [hw2]; exact (Below.refl _ _).alloc (Nat.le_refl _) _
  have r2 : w2.heap[g6]? = some (.cells (bvs zeros ++ bvs zeros).toArray 127 (0, 0)) := by rw [hw2, hg6, ← Try.zeroP]; exact heap_alloc_new _ _
  have SC := Lib.hid (sectors_any (h.below f1 (Nat.le_refl _)))
  have L0 := Lib.hid (show RpRel w d g m n x first w.heap.size g6 (.int .i64 0) w2 from ⟨0, rfl, Nat.zero_le _, zeros, zeros, zeros_length, zeros_length, fun h => absurd h (by decide), fun h => absurd h (by decide), r2, (f2.block _ (lt_of_row r1)).trans r1, (h.below f1 (Nat.le_refl _)).below f2 (Nat.le_refl _), f1.trans (f2.mono f1.size)⟩)
  have HW1 := Lib.hid hw1
  have HW2 := Lib.hid hw2
  have HG6 := Lib.hid hg6
  have HN := Lib.hid (show g6 ≠ w.heap.size ∧ w.heap.size ≤ g6 ∧ ¬ own3 d g m g6 from ⟨by omega, by omega, fun e => by have h1 := h.dlt; have h2 := h.glt; have h3 := h.mlt; rcases e with e | e | e <;> omega⟩)
  have c1 : ¬ ((x.s.length : Int) - 2 < (first : Int)) := by omega
  have hwr : ∀ i : Nat, i ≤ 2 → wrap64 ((first : Int) + (i : Int)) = (first : Int) + (i : Int) := fun i hi => by unfold wrap64; omega
  have hwr2 : wrap64 ((x.s.length : Int) - 2) = (x.s.length : Int) - 2 := by unfold wrap64; omega
  have HWR := Lib.hid hwr
  clear h hw1 hw2 hg6 z1 f1 r1 f2 r2 hwr
  go_enter Try.func56, Try.ntmps56
  go_wp2_with fail
  rw [← HW1.out]
  refine SC.out.mono ?_
  rintro e w' ⟨rfl, rfl⟩
  go_wp2_with fail
  rw [← HW2.out, ← HG6.out]
  clear c1 hwr2
  go_loopw [20] (fun u wr => RpRel w d g m n x first w.heap.size g6 u wr) (fun u _ => 2 - (intOf u).toNat)
  case atStart => exact L0.out
  case round =>
    obtain ⟨wo, rfl⟩ : ∃ wo : World, wo = wr := ⟨_, rfl⟩
    obtain ⟨i, rfl, hi, a, b, la, lb, ha, hb, hrow, hr4, hD, hB⟩ := hrel
    have HA := Lib.hid ha
    have HBB := Lib.hid hb
    have HROW := Lib.hid hrow
    have HR4 := Lib.hid hr4
    have HD := Lib.hid hD
    have HB := Lib.hid hB
    have HLA := Lib.hid la
    have HLB := Lib.hid lb
    clear ha hb hrow hr4 hD hB la lb L0
    by_cases hil : i < 2
    · have hii : (i : Int) < 2 := by omega
      have hw := HWR.out i (by omega)
      have hcode : (x.read (((first + i : Nat)) : Int)).2 = 0 := read_up hdn (by simp [DS.has]; omega)
      have RD := Lib.hid (read_any HD.out (((first + i : Nat)) : Int) (WalkArith.wf_i64 (by omega)))
      rw [hcode] at RD
      rw [Int.natCast_add] at RD
      have hfi : (first : Int) + (i : Int) ≤ 5000 := by omega
      clear hcode
      go_wp2_with fail
      refine RD.out.mono ?_
      rintro e w3 ⟨v, rfl, hans, hb3⟩
      unfold Ans at hans
      rw [if_pos (by rw [← Int.natCast_add]; exact read_up hdn (by simp [DS.has]; omega)), ← Int.natCast_add] at hans
      obtain ⟨k4, hv4, hk4, hr4', hl4⟩ := hans
      subst hv4
      have HROW3 := Lib.hid ((hb3.block _ (lt_of_row HROW.out)).trans HROW.out)
      have HR43 := Lib.hid ((hb3.block _ (lt_of_row HR4.out)).trans HR4.out)
      have HD3 := Lib.hid (HD.out.below hb3 (Nat.le_refl _))
      have HB3 := Lib.hid (HB.out.trans (hb3.mono HB.out.size))
      have HK4 := Lib.hid hr4'
      have HLL := Lib.hid hl4
      clear hb3 hr4' RD HROW HR4 HD HB hl4
      obtain ⟨rd, hrd⟩ : ∃ rd, rd = (x.read ((first + i : Nat) : Int)).1 := ⟨_, rfl⟩
      rw [← hrd] at HK4 HLL
      have HRD := Lib.hid hrd
      have HNN := Lib.hid (show (bvs rd).length = Nat.min 128 128 by rw [bvs_length, HLL.out]; rfl)
      have HCC := Lib.hid (show ∀ j v, (bvs rd)[j]? = some v → w3.cell? ((⟨k4, 0, none⟩ : Addr).add j) = some v from fun j v hv => by
        rw [Addr.add_mid, cell_of_row w3 k4 (0 + j) _ _ _ HK4.out, Nat.zero_add]
        simpa using hv)
      have HFF := Lib.hid (show i * 128 + (bvs rd).length ≤ (bvs a ++ bvs b).length by rw [List.length_append, bvs_length, bvs_length, bvs_length, HLL.out, HLA.out, HLB.out]; omega)
      clear hrd
      go_wp2_with (with_reducible show wpList _ _ _ _ _ _; refine wpList_copy_splice rfl (.tmp 37) (.tmp 38) 37 37 rfl 5 Try.underlying37 (by kernel_rfl) (some ⟨g6, i * 128, none⟩) (some ⟨k4, 0, none⟩) 128 128 128 128 rfl rfl g6 (i * 128) (bvs a ++ bvs b) 127 HROW3.out (bvs rd) HNN.out (fun _ => ⟨rfl, _, rfl, HCC.out⟩) HFF.out (bvs_one _) g6 w3 (Below.refl _ _) (Nat.le_refl _) ?_)
      intro w6 HG hb6
      have hbb := HB3.out.trans (hb6.mono HN.out.2.1)
      have HR6 := Lib.hid ((hb6.block _ (by have := HN.out; omega)).trans HR43.out)
      have HD6 := Lib.hid (H.out.below hbb (Nat.le_refl _))
      have HB6 := Lib.hid hbb
      clear hbb hb6 HCC HFF
      go_wp2_with fail
      have hme : 2 - (intOf (Value.int .i64 ((i : Int) + 1))).toNat < 2 - (intOf (Value.int .i64 (i : Int))).toNat := by simp [intOf]; omega
      refine ⟨?_, hme⟩
      have hg := HG.out
      rcases (show i = 0 ∨ i = 1 by omega) with rfl | rfl
      · rw [show 0 * 128 = 0 from rfl, splice_fst HLA.out HLB.out HLL.out] at hg
        exact ⟨1, rfl, by decide, rd, b, HLL.out, HLB.out, fun _ => HRD.out, fun h => absurd h (by decide), hg, HR6.out, HD6.out, HB6.out⟩
      · rw [show 1 * 128 = 128 from rfl, splice_snd HLA.out HLB.out HLL.out] at hg
        exact ⟨2, rfl, by decide, a, rd, HLA.out, HLL.out, fun _ => HA.out (by decide), fun _ => HRD.out, hg, HR6.out, HD6.out, HB6.out⟩
    · obtain rfl : i = 2 := by omega
      rw [show ((2 : Nat) : Int) = 2 from rfl]
      have HSZ2 := Lib.hid (show (Try.prog.info? 127).map (·.size) = some (bvs a ++ bvs b).toArray.size by rw [Try.pairSize]; simp [HLA.out, HLB.out, bvs_length])
      have HSZ := Lib.hid (show (Try.prog.info? 127).map (·.size) = some (bvs a ++ bvs b).length by rw [Try.pairSize]; simp [HLA.out, HLB.out, bvs_length])
      have HC := Lib.hid (show ∀ j v, (bvs a ++ bvs b)[j]? = some v → wo.cell? ((⟨g6, 0, none⟩ : Addr).add j) = some v from fun j v hv => by
        rw [Addr.add_mid, cell_of_row wo g6 (0 + j) _ _ _ HROW.out, Nat.zero_add]
        simpa using hv)
      have HSO := Lib.hid (show (bvs zeros ++ bvs zeros).toArray.size = (bvs a ++ bvs b).toArray.size by simp [HLA.out, HLB.out, bvs_length, zeros_length])
      have H1 := Lib.hid (show (bvs a ++ bvs b).toArray.all (·.oneCell') = true from all_oneCell_toArray (fun u hu => by rcases List.mem_append.1 hu with h | h; exact bvs_one _ u h; exact bvs_one _ u h))
      go_wp2_with (first
        | (with_reducible show wpList _ _ _ _ _ _; refine wpList_load_all rfl 127 (.tmp 6) rfl ⟨g6, 0, none⟩ rfl (bvs a ++ bvs b) _ HC.out Try.underlying127 rfl HSZ.out ?_)
        | (with_reducible show wpList _ _ _ _ _ _; refine wpList_store_whole rfl 127 (.tmp 4) (.tmp 41) rfl w.heap.size 127 (bvs zeros ++ bvs zeros).toArray (bvs a ++ bvs b).toArray rfl rfl HR4.out HSZ2.out HSO.out H1.out ?_))
      refine bodyPost_ret (results2_cell_row rfl _ _ w.heap.size 127 _ (0, 0) _ (.int .i64 0) rfl rfl (setRow_heap wo _ _ _ _ (0, 0) HR4.out) Try.underlying127 rfl HSZ2.out) rfl ⟨a, b, HA.out (by decide), HBB.out (by decide), HLA.out, HLB.out, rfl, ?_⟩
      exact below_setRow HB.out (Nat.le_refl _) _
theorem read_down (hd : x.down = true) (i : Int) : (x.read i).2 = 50 := by
  unfold DS.read
  rw [if_pos hd]
theorem Try.zeroPSize : Try.zeroCells127.size = 256 := by kernel_rfl
theorem Try.zeroPOnes : Try.zeroCells127.all (·.oneCell') = true := by kernel_rfl
set_option maxRecDepth 100000 in
set_option maxHeartbeats 4000000 in
theorem readPair_bad (h : DiskAt Try.prog w d g m n x) (first : Int) (hw : wfi first) (hr : first < 0 ∨ (x.s.length : Int) - 2 < first) :
    Calls Try.prog 56 #[.pointer (some ⟨d, 0, none⟩), .int .i64 first] w fun e w' => e = .returned (.tuple #[.agg Try.zeroCells127, .int .i64 1]) ∧ Below w.heap.size w w' := by
  have hfw := h.few
  obtain ⟨w1, hw1⟩ : ∃ w1, w1 = w.alloc (.cells Try.zeroCells127 127) := ⟨_, rfl⟩
  have f1 : Below w.heap.size w w1 := by rw [hw1]; exact (Below.refl _ _).alloc (Nat.le_refl _) _
  have r1 : w1.heap[w.heap.size]? = some (.cells Try.zeroCells127 127 (0, 0)) := by rw [hw1]; exact heap_alloc_new _ _
  have SC := Lib.hid (sectors_any (h.below f1 (Nat.le_refl _)))
  rw [hw1] at SC f1 r1
  have HF1 := Lib.hid f1
  have HR1 := Lib.hid r1
  have HSZ := Lib.hid (show (Try.prog.info? 127).map (·.size) = some Try.zeroCells127.size by rw [Try.pairSize, Try.zeroPSize])
  have hwr2 : wrap64 ((x.s.length : Int) - 2) = (x.s.length : Int) - 2 := by unfold wrap64; omega
  clear h hw1 f1 r1
  go_enter Try.func56, Try.ntmps56
  go_wp2_with (first
    | (go_at_call 55; (with_reducible refine SC.out.mono ?_); rintro e w' ⟨rfl, rfl⟩)
    | (with_reducible show wpList _ _ _ _ _ _; refine wpList_store_whole rfl 127 (.tmp 4) (.tmp 19) rfl w.heap.size 127 Try.zeroCells127 Try.zeroCells127 rfl rfl HR1.out HSZ.out rfl Try.zeroPOnes ?_))
  all_goals exact bodyPost_ret (results2_cell_row rfl _ _ w.heap.size 127 _ (0, 0) _ (.int .i64 1) rfl rfl (setRow_heap _ _ _ _ _ (0, 0) HR1.out) Try.underlying127 rfl HSZ.out) rfl ⟨rfl, below_setRow HF1.out (Nat.le_refl _) _⟩
/-- Where the loop stands that reads the two sectors of a disk that is down. -/
def RdDown (w : World) (g4 : Nat) (d g m n : Nat) (x : DS) (u : Value) (wr : World) : Prop := u = .int .i64 0 ∧ wr.heap[g4]? = some (.cells Try.zeroCells127 127 (0, 0)) ∧ DiskAt Try.prog wr d g m n x ∧ Below w.heap.size w wr
set_option maxRecDepth 100000 in
set_option maxHeartbeats 4000000 in
theorem readPair_down (h : DiskAt Try.prog w d g m n x) (first : Nat) (hr : first + 2 ≤ x.s.length) (hdn : x.down = true) :
    Calls Try.prog 56 #[.pointer (some ⟨d, 0, none⟩), .int .i64 (first : Int)] w fun e w' => e = .returned (.tuple #[.agg Try.zeroCells127, .int .i64 50]) ∧ Below w.heap.size w w' := by
  have hfw := h.few
  obtain ⟨w1, hw1⟩ : ∃ w1, w1 = w.alloc (.cells Try.zeroCells127 127) := ⟨_, rfl⟩
  have z1 : w1.heap.size = w.heap.size + 1 := by rw [hw1]; exact Array.size_push _
  have f1 : Below w.heap.size w w1 := by rw [hw1]; exact (Below.refl _ _).alloc (Nat.le_refl _) _
  have r1 : w1.heap[w.heap.size]? = some (.cells Try.zeroCells127 127 (0, 0)) := by rw [hw1]; exact heap_alloc_new _ _
  obtain ⟨w2, hw2⟩ : ∃ w2, w2 = w1.alloc (.cells Try.zeroCells127 127) := ⟨_, rfl⟩
  obtain ⟨g6, hg6⟩ : ∃ g6, g6 = w1.heap.size := ⟨_, rfl⟩
  have f2 : Below w1.heap.size w1 w2 := by rw [hw2]; exact (Below.refl _ _).alloc (Nat.le_refl _) _
  have SC := Lib.hid (sectors_any (h.below f1 (Nat.le_refl _)))
  have L0 := Lib.hid (show RdDown w w.heap.size d g m n x (.int .i64 0) w2 from ⟨rfl, (f2.block _ (lt_of_row r1)).trans r1, (h.below f1 (Nat.le_refl _)).below f2 (Nat.le_refl _), f1.trans (f2.mono f1.size)⟩)
  have HW1 := Lib.hid hw1
  have HW2 := Lib.hid hw2
  have HG6 := Lib.hid hg6
  have HSZ := Lib.hid (show (Try.prog.info? 127).map (·.size) = some Try.zeroCells127.size by rw [Try.pairSize, Try.zeroPSize])
  have c1 : ¬ ((x.s.length : Int) - 2 < (first : Int)) := by omega
  have hwr2 : wrap64 ((x.s.length : Int) - 2) = (x.s.length : Int) - 2 := by unfold wrap64; omega
  have HWF := Lib.hid (show wfi (first : Int) from WalkArith.wf_i64 (by omega))
  have hwf : wrap64 (first : Int) = (first : Int) := by unfold wrap64; omega
  clear h hw1 hw2 hg6 z1 f1 r1 f2
  go_enter Try.func56, Try.ntmps56
  go_wp2_with fail
  rw [← HW1.out]
  refine SC.out.mono ?_
  rintro e w' ⟨rfl, rfl⟩
  go_wp2_with fail
  rw [← HW2.out, ← HG6.out]
  clear c1 hwr2
  go_loopw [20] (fun u wr => RdDown w w.heap.size d g m n x u wr) (fun u _ => 2 - (intOf u).toNat)
  case atStart => exact L0.out
  case round =>
    obtain ⟨wo, rfl⟩ : ∃ wo : World, wo = wr := ⟨_, rfl⟩
    obtain ⟨rfl, hr4, hD, hB⟩ := hrel
    have RD := Lib.hid (read_any hD (first : Int) HWF.out)
    rw [read_down hdn] at RD
    have HR4 := Lib.hid hr4
    have HB := Lib.hid hB
    clear hr4 hD hB L0
    go_wp2_with fail
    refine RD.out.mono ?_
    rintro e w3 ⟨v, rfl, hans, hb3⟩
    unfold Ans at hans
    rw [if_neg (by rw [read_down hdn]; decide)] at hans
    subst hans
    have HR43 := Lib.hid ((hb3.block _ (lt_of_row HR4.out)).trans HR4.out)
    have HB3 := Lib.hid (HB.out.trans (hb3.mono HB.out.size))
    clear hb3 RD HR4 HB
    go_wp2_with (with_reducible show wpList _ _ _ _ _ _; refine wpList_store_whole rfl 127 (.tmp 4) (.tmp 33) rfl w.heap.size 127 Try.zeroCells127 Try.zeroCells127 rfl rfl HR43.out HSZ.out rfl Try.zeroPOnes ?_)
    refine bodyPost_ret (results2_cell_row rfl _ _ w.heap.size 127 _ (0, 0) _ (.int .i64 50) rfl rfl (setRow_heap _ _ _ _ _ (0, 0) HR43.out) Try.underlying127 rfl HSZ.out) rfl ⟨rfl, ?_⟩
    exact below_setRow HB3.out (Nat.le_refl _) _
end Go.Proofs.Ytdjpeebekpjiiaa.Dk
/- Two sectors: the last mark on them. -/
namespace Go.Proofs.Ytdjpeebekpjiiaa.Dk
open Go Go.RowKit
set_option linter.unusedVariables false
set_option linter.unusedSimpArgs false

def noM : MkD := ⟨0, List.replicate 6 0⟩
theorem noM_ok : noM.Ok := ⟨by decide, rfl, fun n hn => by simp [noM] at hn; subst hn; decide⟩
/-- Is the i-th sector, whose bytes are s, that of a mark? -/
def isM (s : List UInt8) (i : Nat) : Prop := (readM s).seq % 2 = i ∧ layM (readM s) = s
instance (s : List UInt8) (i : Nat) : Decidable (isM s i) := inferInstanceAs (Decidable (_ ∧ _))
/-- The last mark on the first i sectors. -/
def lastM (a b : List UInt8) : Nat → MkD
  | 0 => noM
  | i + 1 => if isM (sel a b i) i ∧ (lastM a b i).seq < (readM (sel a b i)).seq then readM (sel a b i) else lastM a b i
theorem lastM_ok (a b : List UInt8) : ∀ i, (lastM a b i).Ok
  | 0 => noM_ok
  | i + 1 => by
    unfold lastM
    split
    · exact readM_ok _
    · exact lastM_ok a b i
section
variable {P : Program} {Q : Exit → Act → World → Prop}
theorem slot_load {o : Oper} {a : Act} {w : World} {K : Act → World → Prop} (ty : TypeId) (x : Operand) (ho : o.op = .load ty x)
    (p : Addr) (hx : a.eval x = .pointer (some p)) (cs : List Value) (d : TypeDesc) (hc : ∀ j v, cs[j]? = some v → w.cell? (p.add j) = some v)
    (hu : P.underlying ty = some d) (hd : d.isRow = true) (hi : (P.info? ty).map (·.size) = some cs.length) (h : K (a.put o.dst (.agg cs.toArray)) w) : o.wp P a w K Q := by
  unfold Oper.wp execOp
  simp only [ho, hx, Instr.loadAt, Instr.sureAddr, Sem.run_bind, Sem.run_pure, Result.andThen_ok, run_loadVar_all w p ty cs d hc hu hd hi]
  exact h
theorem slot_store {o : Oper} {a : Act} {w : World} {K : Act → World → Prop} (ty : TypeId) (x y : Operand) (ho : o.op = .store ty x y)
    (g : Nat) (t : TypeId) (old cells : Array Value) (hx : a.eval x = .pointer (some ⟨g, 0, none⟩)) (hy : a.eval y = .agg cells) (hg : w.heap[g]? = some (.cells old t (0, 0)))
    (hi : (P.info? ty).map (·.size) = some cells.size) (hs : old.size = cells.size) (h1 : cells.all (·.oneCell') = true)
    (h : K (a.put o.dst undef) (w.setRow g cells)) : o.wp P a w K Q := by
  unfold Oper.wp execOp
  simp only [ho, hx, hy, Instr.storeAt, Instr.sureAddr, Sem.run_bind, Sem.run_pure, Result.andThen_ok, run_storeVar_row w g t ty old cells hg hi hs h1]
  exact h
theorem runWith {P : Program} {o : Oper} {a : Act} {w : World} {r : Result Next} (ev : Operand → Value) (h1 : (execOp a.eval o).run P w = (execOp ev o).run P w) (h2 : (execOp ev o).run P w = r) : (execOp a.eval o).run P w = r := h1.trans h2
end
/-- What the operations of the fourth region leave in their slots. -/
def laF (s : List UInt8) (g i B : Nat) (j : Nat) (v : Value) (_ : World) : Prop := match j with
  | 0 | 5 => v = .int .i64 (i : Int)
  | 1 => v = .pointer (some ⟨g, 0, none⟩)
  | 2 => v = .pointer (some ⟨g, i * 128, none⟩)
  | 3 => v = .agg (bvs s).toArray
  | 4 => v = .pointer (some ⟨B, 0, none⟩)
  | _ => True
structure LaSt (w0 : World) (s : List UInt8) (l4 l6 : Bool) (w : World) : Prop where
  bel : Below w0.heap.size w0 w
  row : l4 = true → w.heap[w0.heap.size]? = some (.cells (if l6 then (bvs s).toArray else Try.zeroCells125) 125 (0, 0))
  none : l4 = false → w.heap.size = w0.heap.size
  imp : l6 = true → l4 = true
def gd (v : Value) (want : Bool) : Bool := (match v with | .bool b => some b | _ => none) == some want
/-- What the operations of the sixth region leave in their slots. -/
def laG (mk lm : MkD) (s : List UInt8) (i g7 g4 : Nat) (p1 p2 p3 : Bool) (j : Nat) (v : Value) (_ : World) : Prop := match j with
  | 0 => v = .agg mk.cells.toArray
  | 1 => v = .int .i64 ((mk.seq % 2 : Nat) : Int)
  | 2 => v = .int .i64 (i : Int)
  | 3 | 4 => v = .bool p1
  | 5 => p1 = true → v = .agg mk.cells.toArray
  | 6 => p1 = true → v = .agg (bvs (layM mk)).toArray
  | 7 => p1 = true → v = .agg (bvs s).toArray
  | 8 => p1 = true → v = .bool p2
  | 9 | 10 => v = .bool (p1 && p2)
  | 11 => (p1 && p2) = true → v = .pointer (some ⟨g7, 0, none⟩)
  | 12 => (p1 && p2) = true → v = .int .u64 (mk.seq : Int)
  | 13 => (p1 && p2) = true → v = .pointer (some ⟨g4, 0, none⟩)
  | 14 => (p1 && p2) = true → v = .int .u64 (lm.seq : Int)
  | 15 => (p1 && p2) = true → v = .bool p3
  | 16 => v = .bool (p1 && p2 && p3)
  | _ => True
theorem cells_row {w : World} {g : Nat} {l : List Value} {t : TypeId} (h : w.heap[g]? = some (.cells l.toArray t (0, 0))) : ∀ j v, l[j]? = some v → w.cell? ((⟨g, 0, none⟩ : Addr).add j) = some v := fun j v hv => by
  rw [Addr.add_mid, cell_of_row w g (0 + j) _ _ _ h, Nat.zero_add]
  simpa using hv
/-- What the operations of the ninth region leave in their slots. -/
def laE (lm : MkD) (g4 : Nat) (j : Nat) (v : Value) (_ : World) : Prop := match j with
  | 0 => v = .agg lm.cells.toArray
  | 1 => v = .pointer (some ⟨g4, 0, none⟩)
  | 2 => v = .int .u64 (lm.seq : Int)
  | 3 | 5 => v = .bool (decide (0 < lm.seq))
  | _ => True
structure LaEnd (w0 : World) (g4 : Nat) (lm : MkD) (l4 : Bool) (w : World) : Prop where
  bel : Below w0.heap.size w0 w
  row4 : w.heap[g4]? = some (.cells lm.cells.toArray 88 (0, 0))
  row2 : w.heap[w0.heap.size]? = some (.cells (if l4 then lm.cells.toArray else noM.cells.toArray) 88 (0, 0))
def LaRel (w : World) (a b : List UInt8) (g2 g4 : Nat) (u : Value) (wr : World) : Prop := ∃ i : Nat, u = .int .i64 (i : Int) ∧ i ≤ 2 ∧ wr.heap[g4]? = some (.cells (lastM a b i).cells.toArray 88 (0, 0)) ∧ wr.heap[g2]? = some (.cells noM.cells.toArray 88 (0, 0)) ∧ Below w.heap.size w wr
set_option maxRecDepth 100000 in
set_option maxHeartbeats 4000000 in
theorem last_any {w : World} {g : Nat} {a b : List UInt8} (h : PairAt w g a b) : Calls Try.prog 57 #[.pointer (some ⟨g, 0, none⟩)] w fun e w' => e = .returned (.tuple #[.agg (lastM a b 2).cells.toArray, .bool (decide (0 < (lastM a b 2).seq))]) ∧ Below w.heap.size w w' := by
  have H := Lib.hid h
  clear h
  obtain ⟨w2, hw2⟩ : ∃ w2, w2 = (w.alloc (.cells #[.int .u64 0, .int .u64 0, .int .u64 0, .int .u64 0, .int .u64 0, .int .u64 0, .int .u64 0] 88)).alloc (.cells #[.int .u64 0, .int .u64 0, .int .u64 0, .int .u64 0, .int .u64 0, .int .u64 0, .int .u64 0] 88) := ⟨_, rfl⟩
  have e1 : (w.alloc (.cells #[.int .u64 0, .int .u64 0, .int .u64 0, .int .u64 0, .int .u64 0, .int .u64 0, .int .u64 0] 88)).heap.size = w.heap.size + 1 := Array.size_push _
  obtain ⟨g4, hg4⟩ : ∃ g4, g4 = w.heap.size + 1 := ⟨_, rfl⟩
  have r4 : w2.heap[g4]? = some (.cells noM.cells.toArray 88 (0, 0)) := by rw [hw2, hg4, ← e1]; exact heap_alloc_new _ _
  have r2 : w2.heap[w.heap.size]? = some (.cells noM.cells.toArray 88 (0, 0)) := by rw [hw2, Below.heap_alloc _ _ _ (by rw [e1]; omega)]; exact heap_alloc_new _ _
  have f2 : Below w.heap.size w w2 := by rw [hw2]; exact ((Below.refl _ w).alloc (Nat.le_refl _) _).alloc (by rw [e1]; omega) _
  have L0 := Lib.hid (show LaRel w a b w.heap.size g4 (.int .i64 0) w2 from ⟨0, rfl, Nat.zero_le _, r4, r2, f2⟩)
  have HW2 := Lib.hid hw2
  have HG4 := Lib.hid hg4
  clear r4 r2 f2 e1 hw2 hg4
  go_enter Try.func57, Try.ntmps57
  go_wp2_with fail
  rw [← HW2.out, ← HG4.out]
  go_loopw [10] (fun u wr => LaRel w a b w.heap.size g4 u wr) (fun u _ => 2 - (intOf u).toNat)
  case atStart => exact L0.out
  case round =>
    obtain ⟨wo, rfl⟩ : ∃ wo : World, wo = wr := ⟨_, rfl⟩
    obtain ⟨i, rfl, hi, hr4, hr2, hB⟩ := hrel
    have HB := Lib.hid hB
    have HR4 := Lib.hid hr4
    have HR2 := Lib.hid hr2
    clear hB hr4 hr2 L0
    by_cases hil : i < 2
    · have hii : (i : Int) < 2 := by omega
      have HPo := Lib.hid (H.out.keep (HB.out.block g H.out.lt))
      have hsl := sel_length H.out.la H.out.lb i
      have HC := Lib.hid (HPo.out.cells hil)
      obtain ⟨s, hs⟩ : ∃ s, s = sel a b i := ⟨_, rfl⟩
      rw [← hs] at HC hsl
      have HSL := Lib.hid hsl
      have HS := Lib.hid hs
      have HSZ := Lib.hid (show (Try.prog.info? 125).map (·.size) = some (bvs s).length by rw [bvs_length, hsl]; kernel_rfl)
      have HSZ2 := Lib.hid (show (Try.prog.info? 125).map (·.size) = some (bvs s).toArray.size by rw [List.size_toArray, bvs_length, hsl]; kernel_rfl)
      have HSO := Lib.hid (show Try.zeroCells125.size = (bvs s).toArray.size by rw [Try.zeroM, List.size_toArray, bvs_length, hsl])
      clear hsl hs
      go_wp2_with fail
      refine wp_region_slots (by kernel_rfl) (by kernel_rfl)
        (fun y => ⟨#[Value.pointer (some { block := g, off := 0 }), undef, Value.pointer (some { block := w.heap.size, off := 0 }),
          Value.bool false, Value.pointer (some { block := g4, off := 0 }), y 5, y 4, u7,
          Value.pointer (some { block := g, off := 0 }), Value.pointer (some { block := g, off := 0 }),
          Value.int IntKind.i64 ↑i, Value.bool true, y 0, y 1, y 2, y 3, u16, u17, u18, u19, u20, u21, u22, u23, u24,
          u25, u26, u27, u28, u29, u30, u31, u32, u33, u34, u35, undef, undef, undef, undef], []⟩)
        (laF s g i wo.heap.size) (fun L w => LaSt wo s (L 4) (L 6) w) (fun _ _ => True) (fun _ _ _ _ _ h => h) ?_ ?_ (fun j => match j with | 0 => u12 | 1 => u13 | 2 => u14 | 3 => u15 | 4 => u6 | _ => u5) rfl ?_
      · intro i' o ho L y wx hd hi' hx hs
        match i', ho with
        | 0, ho =>
          obtain rfl := Option.some.inj ho
          exact slot_run rfl ⟨_, rfl, trivial, rfl, hs⟩
        | 1, ho =>
          obtain rfl := Option.some.inj ho
          exact slot_run rfl ⟨_, rfl, trivial, rfl, hs⟩
        | 2, ho =>
          obtain rfl := Option.some.inj ho
          have y1 : y 1 = .pointer (some ⟨g, 0, none⟩) := hx 1 (hd ⟨1, .data⟩ (by simp) rfl)
          refine slot_run (v := .pointer (some ⟨g, i * 128, none⟩)) (w' := wx) ?_ ⟨_, rfl, trivial, rfl, hs⟩
          refine runWith (fun z => match z with | .tmp 13 => y 1 | _ => .int .i64 (i : Int)) (by kernel_rfl) ?_
          rw [y1]
          rcases (show i = 0 ∨ i = 1 by omega) with rfl | rfl <;> kernel_rfl
        | 3, ho =>
          obtain rfl := Option.some.inj ho
          have y2 : y 2 = .pointer (some ⟨g, i * 128, none⟩) := hx 2 (hd ⟨2, .data⟩ (by simp) rfl)
          have hp := (HPo.out.keep (hs.bel.block g HPo.out.lt)).cells hil
          rw [← HS.out] at hp
          exact slot_load 125 (.tmp 14) rfl ⟨g, i * 128, none⟩ y2 (bvs s) _ hp Try.underlying125 rfl HSZ.out ⟨_, rfl, trivial, rfl, hs⟩
        | 4, ho =>
          obtain rfl := Option.some.inj ho
          have hn := hs.none hi'
          have h6 : L 6 = false := by
            rcases hb : L 6 with _ | _
            · rfl
            · have := hs.imp hb; rw [hi'] at this; cases this
          refine slot_run (v := .pointer (some ⟨wx.heap.size, 0, none⟩)) (w' := wx.alloc (.cells Try.zeroCells125 125)) (by kernel_rfl) ⟨_, rfl, trivial, by show _ = _; rw [hn], ⟨hs.bel.alloc (by omega) _, fun _ => ?_, (fun h => by cases h), fun _ => rfl⟩⟩
          show _ = some (Obj.cells (if L 6 then _ else _) _ _)
          rw [h6, ← hn]
          exact heap_alloc_new _ _
        | 5, ho =>
          obtain rfl := Option.some.inj ho
          have y0 : y 0 = .int .i64 (i : Int) := hx 0 (hd ⟨0, .data⟩ (by simp) rfl)
          exact slot_run rfl ⟨_, rfl, trivial, y0, hs⟩
        | 6, ho =>
          obtain rfl := Option.some.inj ho
          have h4 : L 4 = true := hd ⟨4, .data⟩ (by simp) rfl
          have y4 : y 4 = .pointer (some ⟨wo.heap.size, 0, none⟩) := hx 4 h4
          have y3 : y 3 = .agg (bvs s).toArray := hx 3 (hd ⟨3, .data⟩ (by simp) rfl)
          have hr := hs.row h4
          rw [hi'] at hr
          refine slot_store 125 (.tmp 6) (.tmp 15) rfl wo.heap.size 125 Try.zeroCells125 (bvs s).toArray y4 y3 hr HSZ2.out HSO.out (all_bvs s) ⟨undef, rfl, trivial, trivial, ⟨below_setRow hs.bel (Nat.le_refl _) _, fun _ => setRow_heap _ _ _ _ _ (0, 0) hr, fun h => ?_, fun _ => h4⟩⟩
          change L 4 = false at h
          rw [h4] at h
          cases h
        | n + 7, ho => simp at ho
      · intro L y wx hall hx hs
        dsimp only
        have y0 : y 0 = .int .i64 (i : Int) := hx 0 (hall 0 (by decide))
        have y1 : y 1 = .pointer (some ⟨g, 0, none⟩) := hx 1 (hall 1 (by decide))
        have y2 : y 2 = .pointer (some ⟨g, i * 128, none⟩) := hx 2 (hall 2 (by decide))
        have y3 : y 3 = .agg (bvs s).toArray := hx 3 (hall 3 (by decide))
        have y4 : y 4 = .pointer (some ⟨wo.heap.size, 0, none⟩) := hx 4 (hall 4 (by decide))
        have y5 : y 5 = .int .i64 (i : Int) := hx 5 (hall 5 (by decide))
        rw [y0, y1, y2, y3, y4, y5]
        have hrow := hs.row (hall 4 (by decide))
        rw [hall 6 (by decide), if_pos rfl] at hrow
        have hbel := hs.bel
        clear hs hall hx y0 y1 y2 y3 y4 y5
        obtain ⟨g6, hg6⟩ : ∃ g6, g6 = wo.heap.size := ⟨_, rfl⟩
        rw [← hg6] at hrow ⊢
        have KR := Lib.hid (kread_any (w := wx) (g := g6) (l := s) ⟨hrow, HSL.out⟩)
        have HR6 := Lib.hid hrow
        have HBX := Lib.hid hbel
        have HG6 := Lib.hid hg6
        obtain ⟨mk, hmk⟩ : ∃ mk, mk = readM s := ⟨_, rfl⟩
        have HMK := Lib.hid hmk
        have HOK := Lib.hid (show mk.Ok from hmk ▸ readM_ok s)
        rw [← hmk] at KR
        have HSM := Lib.hid (Try.markSize HOK.out)
        have HSM2 := Lib.hid (show (Try.prog.info? 88).map (·.size) = some mk.cells.toArray.size by rw [List.size_toArray]; exact HSM.out)
        have HS7 := Lib.hid (show (#[Value.int .u64 0, .int .u64 0, .int .u64 0, .int .u64 0, .int .u64 0, .int .u64 0, .int .u64 0] : Array Value).size = mk.cells.toArray.size by have := MkD.cells_length HOK.out; simp [this])
        clear hrow hbel hg6 hmk
        go_wp2_with fail
        refine KR.out.mono ?_
        rintro e w5 ⟨rfl, hb5⟩
        go_wp2_with (with_reducible show wpList _ _ _ _ _ _; refine wpList_store_new rfl 88 (.tmp 7) (.tmp 16) rfl 88 _ mk.cells.toArray rfl rfl HSM2.out HS7.out mk.cells_one ?_)
        obtain ⟨g7, hg7⟩ : ∃ g7, g7 = w5.heap.size := ⟨_, rfl⟩
        obtain ⟨w6, hw6⟩ : ∃ w6, w6 = w5.alloc (.cells mk.cells.toArray 88) := ⟨_, rfl⟩
        rw [← hg7, ← hw6]
        have hr7 : w6.heap[g7]? = some (.cells mk.cells.toArray 88 (0, 0)) := by rw [hw6, hg7]; exact heap_alloc_new _ _
        have b56 : Below w5.heap.size w5 w6 := by rw [hw6]; exact (Below.refl _ _).alloc (Nat.le_refl _) _
        have bx5 := hb5
        have b06 : Below wo.heap.size wo w6 := (HBX.out.trans (hb5.mono HBX.out.size)).trans (b56.mono (Nat.le_trans HBX.out.size hb5.size))
        have HR7 := Lib.hid hr7
        have HR66 := Lib.hid ((b56.block _ (Nat.lt_of_lt_of_le (lt_of_row HR6.out) hb5.size)).trans ((hb5.block _ (lt_of_row HR6.out)).trans HR6.out))
        obtain ⟨lm, hlm⟩ : ∃ lm, lm = lastM a b i := ⟨_, rfl⟩
        have hr46 := (b06.block _ (lt_of_row HR4.out)).trans HR4.out
        rw [← hlm] at hr46
        have HR46 := Lib.hid hr46
        have HLM := Lib.hid hlm
        have HB6 := Lib.hid b06
        obtain ⟨p1, hp1⟩ : ∃ p1, p1 = decide (mk.seq % 2 = i) := ⟨_, rfl⟩
        obtain ⟨p2, hp2⟩ : ∃ p2, p2 = decide (layM mk = s) := ⟨_, rfl⟩
        obtain ⟨p3, hp3⟩ : ∃ p3, p3 = decide (lm.seq < mk.seq) := ⟨_, rfl⟩
        have HP1 := Lib.hid hp1
        have HP2 := Lib.hid hp2
        have HP3 := Lib.hid hp3
        clear hr7 b56 bx5 b06 hlm hr46 hp1 hp2 hp3 hw6 hg7 hb5
        have row : ∀ {wx : World} {k : Nat} {o : Obj}, Below w6.heap.size w6 wx → w6.heap[k]? = some o → wx.heap[k]? = some o := fun hb hr => (hb.block _ (Array.getElem?_eq_some_iff.1 hr).1).trans hr
        refine wp_region_slotsG (by kernel_rfl) (by kernel_rfl)
          (fun y => ⟨#[Value.pointer (some { block := g, off := 0 }), undef, Value.pointer (some { block := w.heap.size, off := 0 }),
          Value.bool false, Value.pointer (some { block := g4, off := 0 }), Value.int IntKind.i64 ↑i,
          Value.pointer (some { block := g6, off := 0 }), Value.pointer (some { block := g7, off := 0 }),
          Value.pointer (some { block := g, off := 0 }), Value.pointer (some { block := g, off := 0 }),
          Value.int IntKind.i64 ↑i, Value.bool true, Value.int IntKind.i64 ↑i,
          Value.pointer (some { block := g, off := 0 }), Value.pointer (some { block := g, off := i * 128 }),
          Value.agg (bvs s).toArray, Value.agg mk.cells.toArray, y 0, y 1, y 2, y 3, y 4, y 5, y 6, y 7, y 8, y 9, y 10, y 11, y 12, y 13, y 14, y 15, y 16, u34, u35, undef, undef, undef, undef], []⟩)
          (laG mk lm s i g7 g4 p1 p2 p3) (fun L w => Below w6.heap.size w6 w) (fun _ _ => True) (fun _ _ _ _ _ h => h) ?_ ?_ (fun j => match j with | 0 => u17 | 1 => u18 | 2 => u19 | 3 => u20 | 4 => u21 | 5 => u22 | 6 => u23 | 7 => u24 | 8 => u25 | 9 => u26 | 10 => u27 | 11 => u28 | 12 => u29 | 13 => u30 | 14 => u31 | 15 => u32 | 16 => u33 | _ => undef) rfl (Below.refl _ _).drew
        · intro i' o ho L y wx hd hi' hx hs
          match i', ho with
          | 0, ho =>
            obtain rfl := Option.some.inj ho
            exact .inl ⟨rfl, slot_load 88 (.tmp 7) rfl ⟨g7, 0, none⟩ rfl mk.cells _ (cells_row (row hs HR7.out)) Try.underlying88 rfl HSM.out ⟨_, rfl, trivial, rfl, hs⟩⟩
          | 1, ho =>
            obtain rfl := Option.some.inj ho
            have y0 : y 0 = .agg mk.cells.toArray := hx 0 (hd ⟨0, .data⟩ (by simp) rfl)
            refine .inl ⟨rfl, slot_call #[.agg mk.cells.toArray] rfl Try.func77 (by kernel_rfl) (by kernel_rfl) (by simp [Act.eval, y0]) ?_⟩
            refine (place_any mk HOK.out wx).mono ?_
            rintro e w' ⟨rfl, hb⟩
            exact ⟨_, rfl, _, rfl, trivial, rfl, hs.trans (hb.mono hs.size)⟩
          | 2, ho =>
            obtain rfl := Option.some.inj ho
            exact .inl ⟨rfl, slot_run rfl ⟨_, rfl, trivial, rfl, hs⟩⟩
          | 3, ho =>
            obtain rfl := Option.some.inj ho
            have y1 : y 1 = .int .i64 ((mk.seq % 2 : Nat) : Int) := hx 1 (hd ⟨1, .data⟩ (by simp) rfl)
            have y2 : y 2 = .int .i64 (i : Int) := hx 2 (hd ⟨2, .data⟩ (by simp) rfl)
            refine .inl ⟨rfl, slot_run (v := .bool p1) (w' := wx) ?_ ⟨_, rfl, trivial, rfl, hs⟩⟩
            refine runWith (fun z => match z with | .tmp 18 => y 1 | _ => y 2) (by kernel_rfl) ?_
            rw [y1, y2, HP1.out]
            go_simp
            rw [Bool.eq_iff_iff, beq_iff_eq, decide_eq_true_eq]
            omega
          | 4, ho =>
            obtain rfl := Option.some.inj ho
            have y3 : y 3 = .bool p1 := hx 3 (hd ⟨3, .data⟩ (by simp) rfl)
            exact .inl ⟨rfl, slot_run rfl ⟨_, rfl, trivial, y3, hs⟩⟩
          | 5, ho =>
            obtain rfl := Option.some.inj ho
            have yg : y 4 = .bool p1 := hx 4 (hd ⟨4, .guard⟩ (by simp) rfl)
            rcases hp : p1 with _ | _
            · exact .inr ⟨Eq.trans (b := gd (y 4) true) (by kernel_rfl) (by rw [yg, hp]; rfl), undef, rfl, (fun h => by first | (cases h; done) | (rw [hp] at h; cases h)), hs⟩
            · refine .inl ⟨Eq.trans (b := gd (y 4) true) (by kernel_rfl) (by rw [yg, hp]; rfl), ?_⟩
              exact slot_load 88 (.tmp 7) rfl ⟨g7, 0, none⟩ rfl mk.cells _ (cells_row (row hs HR7.out)) Try.underlying88 rfl HSM.out ⟨_, rfl, trivial, (fun _ => rfl), hs⟩
          | 6, ho =>
            obtain rfl := Option.some.inj ho
            have yg : y 4 = .bool p1 := hx 4 (hd ⟨4, .guard⟩ (by simp) rfl)
            rcases hp : p1 with _ | _
            · exact .inr ⟨Eq.trans (b := gd (y 4) true) (by kernel_rfl) (by rw [yg, hp]; rfl), undef, rfl, (fun h => by first | (cases h; done) | (rw [hp] at h; cases h)), hs⟩
            · refine .inl ⟨Eq.trans (b := gd (y 4) true) (by kernel_rfl) (by rw [yg, hp]; rfl), ?_⟩
              have y5 : y 5 = .agg mk.cells.toArray := hx 5 (hd ⟨5, .data⟩ (by simp) rfl) hp
              refine slot_call #[.agg mk.cells.toArray] rfl Try.func78 (by kernel_rfl) (by kernel_rfl) (by simp [Act.eval, y5]) ?_
              refine (lay_any mk HOK.out wx).mono ?_
              rintro e w' ⟨rfl, hb⟩
              exact ⟨_, rfl, _, rfl, trivial, (fun _ => rfl), hs.trans (hb.mono hs.size)⟩
          | 7, ho =>
            obtain rfl := Option.some.inj ho
            have yg : y 4 = .bool p1 := hx 4 (hd ⟨4, .guard⟩ (by simp) rfl)
            rcases hp : p1 with _ | _
            · exact .inr ⟨Eq.trans (b := gd (y 4) true) (by kernel_rfl) (by rw [yg, hp]; rfl), undef, rfl, (fun h => by first | (cases h; done) | (rw [hp] at h; cases h)), hs⟩
            · refine .inl ⟨Eq.trans (b := gd (y 4) true) (by kernel_rfl) (by rw [yg, hp]; rfl), ?_⟩
              exact slot_load 125 (.tmp 6) rfl ⟨g6, 0, none⟩ rfl (bvs s) _ (cells_row (row hs HR66.out)) Try.underlying125 rfl HSZ.out ⟨_, rfl, trivial, (fun _ => rfl), hs⟩
          | 8, ho =>
            obtain rfl := Option.some.inj ho
            have yg : y 4 = .bool p1 := hx 4 (hd ⟨4, .guard⟩ (by simp) rfl)
            rcases hp : p1 with _ | _
            · exact .inr ⟨Eq.trans (b := gd (y 4) true) (by kernel_rfl) (by rw [yg, hp]; rfl), undef, rfl, (fun h => by first | (cases h; done) | (rw [hp] at h; cases h)), hs⟩
            · refine .inl ⟨Eq.trans (b := gd (y 4) true) (by kernel_rfl) (by rw [yg, hp]; rfl), ?_⟩
              have y6 : y 6 = .agg (bvs (layM mk)).toArray := hx 6 (hd ⟨6, .data⟩ (by simp) rfl) hp
              have y7 : y 7 = .agg (bvs s).toArray := hx 7 (hd ⟨7, .data⟩ (by simp) rfl) hp
              refine slot_run (v := .bool p2) (w' := wx) ?_ ⟨_, rfl, trivial, (fun _ => rfl), hs⟩
              refine runWith (fun z => match z with | .tmp 23 => y 6 | _ => y 7) (by kernel_rfl) ?_
              rw [HP2.out]
              exact exec_eql rfl (layM mk) s (layM_length HOK.out.len) HSL.out y6 y7 wx
          | 9, ho =>
            obtain rfl := Option.some.inj ho
            have y4 : y 4 = .bool p1 := hx 4 (hd ⟨4, .data⟩ (by simp) rfl)
            have y8 := hx 8 (hd ⟨8, .data⟩ (by simp) rfl)
            refine .inl ⟨rfl, slot_run (v := .bool (p1 && p2)) (w' := wx) ?_ ⟨_, rfl, trivial, rfl, hs⟩⟩
            refine runWith (fun z => match z with | .tmp 21 => y 4 | .tmp 25 => y 8 | _ => .bool false) (by kernel_rfl) ?_
            rw [y4]
            rcases hp : p1 with _ | _
            · kernel_rfl
            · rw [show y 8 = .bool p2 from y8 hp]
              kernel_rfl
          | 10, ho =>
            obtain rfl := Option.some.inj ho
            have y9 : y 9 = .bool (p1 && p2) := hx 9 (hd ⟨9, .data⟩ (by simp) rfl)
            exact .inl ⟨rfl, slot_run rfl ⟨_, rfl, trivial, y9, hs⟩⟩
          | 11, ho =>
            obtain rfl := Option.some.inj ho
            have yg : y 10 = .bool (p1 && p2) := hx 10 (hd ⟨10, .guard⟩ (by simp) rfl)
            rcases hp : (p1 && p2) with _ | _
            · exact .inr ⟨Eq.trans (b := gd (y 10) true) (by kernel_rfl) (by rw [yg, hp]; rfl), undef, rfl, (fun h => by first | (cases h; done) | (rw [hp] at h; cases h)), hs⟩
            · refine .inl ⟨Eq.trans (b := gd (y 10) true) (by kernel_rfl) (by rw [yg, hp]; rfl), ?_⟩
              exact slot_run (v := .pointer (some ⟨g7, 0, none⟩)) (w' := wx) (by kernel_rfl) ⟨_, rfl, trivial, (fun _ => rfl), hs⟩
          | 12, ho =>
            obtain rfl := Option.some.inj ho
            have yg : y 10 = .bool (p1 && p2) := hx 10 (hd ⟨10, .guard⟩ (by simp) rfl)
            rcases hp : (p1 && p2) with _ | _
            · exact .inr ⟨Eq.trans (b := gd (y 10) true) (by kernel_rfl) (by rw [yg, hp]; rfl), undef, rfl, (fun h => by first | (cases h; done) | (rw [hp] at h; cases h)), hs⟩
            · refine .inl ⟨Eq.trans (b := gd (y 10) true) (by kernel_rfl) (by rw [yg, hp]; rfl), ?_⟩
              have y11 : y 11 = .pointer (some ⟨g7, 0, none⟩) := hx 11 (hd ⟨11, .data⟩ (by simp) rfl) hp
              have hc : wx.cell? ⟨g7, 0, none⟩ = some (.int .u64 (mk.seq : Int)) := (cells_row (row hs HR7.out)) 0 _ rfl
              refine slot_run (v := .int .u64 (mk.seq : Int)) (w' := wx) ?_ ⟨_, rfl, trivial, (fun _ => rfl), hs⟩
              refine runWith (fun _ => y 11) (by kernel_rfl) ?_
              rw [y11]
              go_simp
          | 13, ho =>
            obtain rfl := Option.some.inj ho
            have yg : y 10 = .bool (p1 && p2) := hx 10 (hd ⟨10, .guard⟩ (by simp) rfl)
            rcases hp : (p1 && p2) with _ | _
            · exact .inr ⟨Eq.trans (b := gd (y 10) true) (by kernel_rfl) (by rw [yg, hp]; rfl), undef, rfl, (fun h => by first | (cases h; done) | (rw [hp] at h; cases h)), hs⟩
            · refine .inl ⟨Eq.trans (b := gd (y 10) true) (by kernel_rfl) (by rw [yg, hp]; rfl), ?_⟩
              exact slot_run (v := .pointer (some ⟨g4, 0, none⟩)) (w' := wx) (by kernel_rfl) ⟨_, rfl, trivial, (fun _ => rfl), hs⟩
          | 14, ho =>
            obtain rfl := Option.some.inj ho
            have yg : y 10 = .bool (p1 && p2) := hx 10 (hd ⟨10, .guard⟩ (by simp) rfl)
            rcases hp : (p1 && p2) with _ | _
            · exact .inr ⟨Eq.trans (b := gd (y 10) true) (by kernel_rfl) (by rw [yg, hp]; rfl), undef, rfl, (fun h => by first | (cases h; done) | (rw [hp] at h; cases h)), hs⟩
            · refine .inl ⟨Eq.trans (b := gd (y 10) true) (by kernel_rfl) (by rw [yg, hp]; rfl), ?_⟩
              have y13 : y 13 = .pointer (some ⟨g4, 0, none⟩) := hx 13 (hd ⟨13, .data⟩ (by simp) rfl) hp
              have hc : wx.cell? ⟨g4, 0, none⟩ = some (.int .u64 (lm.seq : Int)) := (cells_row (row hs HR46.out)) 0 _ rfl
              refine slot_run (v := .int .u64 (lm.seq : Int)) (w' := wx) ?_ ⟨_, rfl, trivial, (fun _ => rfl), hs⟩
              refine runWith (fun _ => y 13) (by kernel_rfl) ?_
              rw [y13]
              go_simp
          | 15, ho =>
            obtain rfl := Option.some.inj ho
            have yg : y 10 = .bool (p1 && p2) := hx 10 (hd ⟨10, .guard⟩ (by simp) rfl)
            rcases hp : (p1 && p2) with _ | _
            · exact .inr ⟨Eq.trans (b := gd (y 10) true) (by kernel_rfl) (by rw [yg, hp]; rfl), undef, rfl, (fun h => by first | (cases h; done) | (rw [hp] at h; cases h)), hs⟩
            · refine .inl ⟨Eq.trans (b := gd (y 10) true) (by kernel_rfl) (by rw [yg, hp]; rfl), ?_⟩
              have y12 : y 12 = .int .u64 (mk.seq : Int) := hx 12 (hd ⟨12, .data⟩ (by simp) rfl) hp
              have y14 : y 14 = .int .u64 (lm.seq : Int) := hx 14 (hd ⟨14, .data⟩ (by simp) rfl) hp
              refine slot_run (v := .bool p3) (w' := wx) ?_ ⟨_, rfl, trivial, (fun _ => rfl), hs⟩
              refine runWith (fun z => match z with | .tmp 29 => y 12 | _ => y 14) (by kernel_rfl) ?_
              rw [y12, y14, HP3.out]
              go_simp
          | 16, ho =>
            obtain rfl := Option.some.inj ho
            have y10 : y 10 = .bool (p1 && p2) := hx 10 (hd ⟨10, .data⟩ (by simp) rfl)
            have y15 := hx 15 (hd ⟨15, .data⟩ (by simp) rfl)
            refine .inl ⟨rfl, slot_run (v := .bool (p1 && p2 && p3)) (w' := wx) ?_ ⟨_, rfl, trivial, rfl, hs⟩⟩
            refine runWith (fun z => match z with | .tmp 27 => y 10 | .tmp 32 => y 15 | _ => .bool false) (by kernel_rfl) ?_
            rw [y10]
            rcases hp : (p1 && p2) with _ | _
            · kernel_rfl
            · rw [show y 15 = .bool p3 from y15 hp]
              kernel_rfl
          | n + 17, ho => simp at ho
        · intro L y wx hall hx hs
          dsimp only
          have y5 : y 16 = .bool (p1 && p2 && p3) := hx 16 (hall 16 (by decide))
          rw [y5]
          have HRW7 := Lib.hid (row hs HR7.out)
          have HRW4 := Lib.hid (row hs HR46.out)
          have HBW := Lib.hid (HB.out.trans ((HB6.out.trans (hs.mono HB6.out.size)).mono HB.out.size))
          have HRW2 := Lib.hid (row hs ((HB6.out.block _ (lt_of_row HR2.out)).trans HR2.out))
          have hne : g4 ≠ w.heap.size ∧ w.heap.size ≤ g4 := by have := HG4.out; omega
          clear hs hall hx y5 row
          have hme : 2 - (intOf (Value.int .i64 ((i : Int) + 1))).toNat < 2 - (intOf (Value.int .i64 (i : Int))).toNat := by simp [intOf]; omega
          have hla : lastM a b (i + 1) = if (p1 && p2 && p3) = true then mk else lm := by
            have hc : (isM s i ∧ lm.seq < mk.seq) ↔ (p1 && p2 && p3) = true := by
              rw [HP1.out, HP2.out, HP3.out, HMK.out]
              simp [isM]
            unfold lastM
            rw [← HS.out, ← HMK.out, ← HLM.out]
            by_cases h : isM s i ∧ lm.seq < mk.seq
            · rw [if_pos h, if_pos (hc.1 h)]
            · rw [if_neg h, if_neg (fun e => h (hc.2 e))]
          have HME := Lib.hid hme
          have HLA := Lib.hid hla
          have HSO2 := Lib.hid (show lm.cells.toArray.size = mk.cells.toArray.size by
            rw [List.size_toArray, List.size_toArray, MkD.cells_length HOK.out, MkD.cells_length (HLM.out ▸ lastM_ok a b i)])
          clear hme hla
          rcases hq : (p1 && p2 && p3) with _ | _
          · have HQ := Lib.hid hq
            clear hq
            go_wp2_with fail
            refine ⟨⟨i + 1, rfl, by omega, ?_, HRW2.out, HBW.out⟩, HME.out⟩
            rw [HLA.out, HQ.out, if_neg (by decide)]
            exact HRW4.out
          · have HQ := Lib.hid hq
            clear hq
            go_wp2_with (first
              | (with_reducible show wpList _ _ _ _ _ _; refine wpList_load_all rfl 88 (.tmp 7) rfl ⟨g7, 0, none⟩ rfl mk.cells _ (cells_row HRW7.out) Try.underlying88 rfl HSM.out ?_)
              | (with_reducible show wpList _ _ _ _ _ _; refine wpList_store_whole rfl 88 (.tmp 4) (.tmp 34) rfl g4 88 lm.cells.toArray mk.cells.toArray rfl rfl HRW4.out HSM2.out HSO2.out mk.cells_one ?_))
            refine ⟨⟨i + 1, rfl, by omega, ?_, (setRow_other _ _ _ _ (Ne.symm hne.1)).trans HRW2.out, below_setRow HBW.out hne.2 _⟩, HME.out⟩
            rw [HLA.out, HQ.out, if_pos rfl]
            exact setRow_heap _ _ _ _ _ (0, 0) HRW4.out
      · exact ⟨(Below.refl _ _).drew, (fun h => by cases h), (fun _ => rfl), fun h => by cases h⟩
    · obtain rfl : i = 2 := by omega
      rw [show ((2 : Nat) : Int) = 2 from rfl]
      obtain ⟨lm, hlm⟩ : ∃ lm, lm = lastM a b 2 := ⟨_, rfl⟩
      rw [← hlm] at HR4
      have HLM := Lib.hid hlm
      have hok : lm.Ok := hlm ▸ lastM_ok a b 2
      have HSM := Lib.hid (Try.markSize hok)
      have HSM2 := Lib.hid (show (Try.prog.info? 88).map (·.size) = some lm.cells.toArray.size by rw [List.size_toArray]; exact HSM.out)
      have HSO2 := Lib.hid (show noM.cells.toArray.size = lm.cells.toArray.size by rw [List.size_toArray, List.size_toArray, MkD.cells_length hok, MkD.cells_length noM_ok])
      have hne : g4 ≠ w.heap.size ∧ w.heap.size ≤ g4 := by have := HG4.out; omega
      clear hlm
      go_wp2_with fail
      refine wp_region_slots (by kernel_rfl) (by kernel_rfl)
        (fun y => ⟨#[Value.pointer (some { block := g, off := 0 }), undef, Value.pointer (some { block := w.heap.size, off := 0 }),
          y 5, Value.pointer (some { block := g4, off := 0 }), u5, u6, u7,
          Value.pointer (some { block := g, off := 0 }), Value.pointer (some { block := g, off := 0 }),
          Value.int IntKind.i64 2, Value.bool false, u12, u13, u14, u15, u16, u17, u18, u19, u20, u21, u22, u23, u24,
          u25, u26, u27, u28, u29, u30, u31, u32, u33, u34, u35, y 0, y 1, y 2, y 3], []⟩)
        (laE lm g4) (fun L wx => LaEnd w g4 lm (L 4) wx) (fun _ _ => True) (fun _ _ _ _ _ h => h) ?_ ?_ (fun j => match j with | 5 => .bool false | _ => undef) rfl ?_
      · intro i' o ho L y wx hd hi' hx hs
        match i', ho with
        | 0, ho =>
          obtain rfl := Option.some.inj ho
          exact slot_load 88 (.tmp 4) rfl ⟨g4, 0, none⟩ rfl lm.cells _ (cells_row hs.row4) Try.underlying88 rfl HSM.out ⟨_, rfl, trivial, rfl, hs⟩
        | 1, ho =>
          obtain rfl := Option.some.inj ho
          exact slot_run (v := .pointer (some ⟨g4, 0, none⟩)) (w' := wx) (by kernel_rfl) ⟨_, rfl, trivial, rfl, hs⟩
        | 2, ho =>
          obtain rfl := Option.some.inj ho
          have y1 : y 1 = .pointer (some ⟨g4, 0, none⟩) := hx 1 (hd ⟨1, .data⟩ (by simp) rfl)
          have hc : wx.cell? ⟨g4, 0, none⟩ = some (.int .u64 (lm.seq : Int)) := (cells_row hs.row4) 0 _ rfl
          refine slot_run (v := .int .u64 (lm.seq : Int)) (w' := wx) ?_ ⟨_, rfl, trivial, rfl, hs⟩
          refine runWith (fun _ => y 1) (by kernel_rfl) ?_
          rw [y1]
          go_simp
        | 3, ho =>
          obtain rfl := Option.some.inj ho
          have y2 : y 2 = .int .u64 (lm.seq : Int) := hx 2 (hd ⟨2, .data⟩ (by simp) rfl)
          refine slot_run (v := .bool (decide (0 < lm.seq))) (w' := wx) ?_ ⟨_, rfl, trivial, rfl, hs⟩
          refine runWith (fun z => match z with | .tmp 38 => y 2 | _ => .int .u64 0) (by kernel_rfl) ?_
          rw [y2]
          go_simp
        | 4, ho =>
          obtain rfl := Option.some.inj ho
          have y0 : y 0 = .agg lm.cells.toArray := hx 0 (hd ⟨0, .data⟩ (by simp) rfl)
          have hr := hs.row2
          rw [hi'] at hr
          refine slot_store 88 (.tmp 2) (.tmp 36) rfl w.heap.size 88 noM.cells.toArray lm.cells.toArray rfl y0 hr HSM2.out HSO2.out lm.cells_one ⟨undef, rfl, trivial, trivial, ⟨below_setRow hs.bel (Nat.le_refl _) _, (setRow_other _ _ _ _ hne.1).trans hs.row4, setRow_heap _ _ _ _ _ (0, 0) hr⟩⟩
        | 5, ho =>
          obtain rfl := Option.some.inj ho
          have y3 : y 3 = .bool (decide (0 < lm.seq)) := hx 3 (hd ⟨3, .data⟩ (by simp) rfl)
          exact slot_run rfl ⟨_, rfl, trivial, y3, hs⟩
        | n + 6, ho => simp at ho
      · intro L y wx hall hx hs
        dsimp only
        have y5 : y 5 = .bool (decide (0 < lm.seq)) := hx 5 (hall 5 (by decide))
        rw [y5]
        have hr2 := hs.row2
        rw [hall 4 (by decide), if_pos rfl] at hr2
        have HR22 := Lib.hid hr2
        have HBE := Lib.hid hs.bel
        clear hx hs hall hr2 y5
        go_wp2_with fail
        refine bodyPost_ret (results2_cell_row rfl _ _ w.heap.size 88 _ (0, 0) _ (.bool (decide (0 < lm.seq))) rfl rfl HR22.out Try.underlying88 rfl HSM2.out) rfl ⟨by rw [HLM.out], HBE.out⟩
      · exact ⟨HB.out.drew, HR4.out, HR2.out⟩
end Go.Proofs.Ytdjpeebekpjiiaa.Dk
