/- Two sectors: the last mark on them. -/
import Derived.Test.YtgbmkolpdnenlaaMd
import Derived.Test.YtgbmkolpdnenlaaUk
import Derived.Test.YtgbmkolpdnenlaaMg
import Derived.Test.YtgbmkolpdnenlaaMf
namespace Go.Proofs.Ytgbmkolpdnenlaa.Dk
open Go Go.RowKit
set_option linter.unusedVariables false
set_option linter.unusedSimpArgs false

def noM : MkD := ⟨0, List.replicate 6 0⟩
theorem noM_ok : noM.Ok := ⟨by decide, rfl, fun n hn => by simp [noM] at hn; subst hn; decide⟩
/-- Is the i-th sector, whose bytes are s, that of a mark? -/
def isM (s : List UInt8) (i : Nat) : Prop := (readM s).seq % 2 = i ∧ layM (readM s) = s
instance (s : List UInt8) (i : Nat) : Decidable (isM s i) := inferInstanceAs (Decidable (_ ∧ _))
/-- The last mark on the first i sectors. -/
def lastM (a b : List UInt8) : Nat → MkD
  | 0 => noM
  | i + 1 => if isM (sel a b i) i ∧ (lastM a b i).seq < (readM (sel a b i)).seq then readM (sel a b i) else lastM a b i
theorem lastM_ok (a b : List UInt8) : ∀ i, (lastM a b i).Ok
  | 0 => noM_ok
  | i + 1 => by
    unfold lastM
    split
    · exact readM_ok _
    · exact lastM_ok a b i
section
variable {P : Program} {Q : Exit → Act → World → Prop}
theorem slot_load {o : Oper} {a : Act} {w : World} {K : Act → World → Prop} (ty : TypeId) (x : Operand) (ho : o.op = .load ty x)
    (p : Addr) (hx : a.eval x = .pointer (some p)) (cs : List Value) (d : TypeDesc) (hc : ∀ j v, cs[j]? = some v → w.cell? (p.add j) = some v)
    (hu : P.underlying ty = some d) (hd : d.isRow = true) (hi : (P.info? ty).map (·.size) = some cs.length) (h : K (a.put o.dst (.agg cs.toArray)) w) : o.wp P a w K Q := by
  unfold Oper.wp execOp
  simp only [ho, hx, Instr.loadAt, Instr.sureAddr, Sem.run_bind, Sem.run_pure, Result.andThen_ok, run_loadVar_all w p ty cs d hc hu hd hi]
  exact h
theorem slot_store {o : Oper} {a : Act} {w : World} {K : Act → World → Prop} (ty : TypeId) (x y : Operand) (ho : o.op = .store ty x y)
    (g : Nat) (t : TypeId) (old cells : Array Value) (hx : a.eval x = .pointer (some ⟨g, 0, none⟩)) (hy : a.eval y = .agg cells) (hg : w.heap[g]? = some (.cells old t (0, 0)))
    (hi : (P.info? ty).map (·.size) = some cells.size) (hs : old.size = cells.size) (h1 : cells.all (·.oneCell') = true)
    (h : K (a.put o.dst undef) (w.setRow g cells)) : o.wp P a w K Q := by
  unfold Oper.wp execOp
  simp only [ho, hx, hy, Instr.storeAt, Instr.sureAddr, Sem.run_bind, Sem.run_pure, Result.andThen_ok, run_storeVar_row w g t ty old cells hg hi hs h1]
  exact h
theorem runWith {P : Program} {o : Oper} {a : Act} {w : World} {r : Result Next} (ev : Operand → Value) (h1 : (execOp a.eval o).run P w = (execOp ev o).run P w) (h2 : (execOp ev o).run P w = r) : (execOp a.eval o).run P w = r := h1.trans h2
end
/-- What the operations of the fourth region leave in their slots. -/
def laF (s : List UInt8) (g i B : Nat) (j : Nat) (v : Value) (_ : World) : Prop := match j with
  | 0 | 5 => v = .int .i64 (i : Int)
  | 1 => v = .pointer (some ⟨g, 0, none⟩)
  | 2 => v = .pointer (some ⟨g, i * 128, none⟩)
  | 3 => v = .agg (bvs s).toArray
  | 4 => v = .pointer (some ⟨B, 0, none⟩)
  | _ => True
structure LaSt (w0 : World) (s : List UInt8) (l4 l6 : Bool) (w : World) : Prop where
  bel : Below w0.heap.size w0 w
  row : l4 = true → w.heap[w0.heap.size]? = some (.cells (if l6 then (bvs s).toArray else Try.zeroCells93) 93 (0, 0))
  none : l4 = false → w.heap.size = w0.heap.size
  imp : l6 = true → l4 = true
def gd (v : Value) (want : Bool) : Bool := (match v with | .bool b => some b | _ => none) == some want
/-- What the operations of the sixth region leave in their slots. -/
def laG (mk lm : MkD) (s : List UInt8) (i g7 g4 : Nat) (p1 p2 p3 : Bool) (j : Nat) (v : Value) (_ : World) : Prop := match j with
  | 0 => v = .agg mk.cells.toArray
  | 1 => v = .int .i64 ((mk.seq % 2 : Nat) : Int)
  | 2 => v = .int .i64 (i : Int)
  | 3 | 4 => v = .bool p1
  | 5 => p1 = true → v = .agg mk.cells.toArray
  | 6 => p1 = true → v = .agg (bvs (layM mk)).toArray
  | 7 => p1 = true → v = .agg (bvs s).toArray
  | 8 => p1 = true → v = .bool p2
  | 9 | 10 => v = .bool (p1 && p2)
  | 11 => (p1 && p2) = true → v = .pointer (some ⟨g7, 0, none⟩)
  | 12 => (p1 && p2) = true → v = .int .u64 (mk.seq : Int)
  | 13 => (p1 && p2) = true → v = .pointer (some ⟨g4, 0, none⟩)
  | 14 => (p1 && p2) = true → v = .int .u64 (lm.seq : Int)
  | 15 => (p1 && p2) = true → v = .bool p3
  | 16 => v = .bool (p1 && p2 && p3)
  | _ => True
theorem cells_row {w : World} {g : Nat} {l : List Value} {t : TypeId} (h : w.heap[g]? = some (.cells l.toArray t (0, 0))) : ∀ j v, l[j]? = some v → w.cell? ((⟨g, 0, none⟩ : Addr).add j) = some v := fun j v hv => by
  rw [Addr.add_mid, cell_of_row w g (0 + j) _ _ _ h, Nat.zero_add]
  simpa using hv
/-- What the operations of the ninth region leave in their slots. -/
def laE (lm : MkD) (g4 : Nat) (j : Nat) (v : Value) (_ : World) : Prop := match j with
  | 0 => v = .agg lm.cells.toArray
  | 1 => v = .pointer (some ⟨g4, 0, none⟩)
  | 2 => v = .int .u64 (lm.seq : Int)
  | 3 | 5 => v = .bool (decide (0 < lm.seq))
  | _ => True
structure LaEnd (w0 : World) (g4 : Nat) (lm : MkD) (l4 : Bool) (w : World) : Prop where
  bel : Below w0.heap.size w0 w
  row4 : w.heap[g4]? = some (.cells lm.cells.toArray 34 (0, 0))
  row2 : w.heap[w0.heap.size]? = some (.cells (if l4 then lm.cells.toArray else noM.cells.toArray) 34 (0, 0))
def LaRel (w : World) (a b : List UInt8) (g2 g4 : Nat) (u : Value) (wr : World) : Prop := ∃ i : Nat, u = .int .i64 (i : Int) ∧ i ≤ 2 ∧ wr.heap[g4]? = some (.cells (lastM a b i).cells.toArray 34 (0, 0)) ∧ wr.heap[g2]? = some (.cells noM.cells.toArray 34 (0, 0)) ∧ Below w.heap.size w wr
set_option maxRecDepth 100000 in
set_option maxHeartbeats 4000000 in
theorem last_any {w : World} {g : Nat} {a b : List UInt8} (h : PairAt w g a b) : Calls Try.prog 35 #[.pointer (some ⟨g, 0, none⟩)] w fun e w' => e = .returned (.tuple #[.agg (lastM a b 2).cells.toArray, .bool (decide (0 < (lastM a b 2).seq))]) ∧ Below w.heap.size w w' := by
  have H := Lib.hid h
  clear h
  obtain ⟨w2, hw2⟩ : ∃ w2, w2 = (w.alloc (.cells #[.int .u64 0, .int .u64 0, .int .u64 0, .int .u64 0, .int .u64 0, .int .u64 0, .int .u64 0] 34)).alloc (.cells #[.int .u64 0, .int .u64 0, .int .u64 0, .int .u64 0, .int .u64 0, .int .u64 0, .int .u64 0] 34) := ⟨_, rfl⟩
  have e1 : (w.alloc (.cells #[.int .u64 0, .int .u64 0, .int .u64 0, .int .u64 0, .int .u64 0, .int .u64 0, .int .u64 0] 34)).heap.size = w.heap.size + 1 := Array.size_push _
  obtain ⟨g4, hg4⟩ : ∃ g4, g4 = w.heap.size + 1 := ⟨_, rfl⟩
  have r4 : w2.heap[g4]? = some (.cells noM.cells.toArray 34 (0, 0)) := by rw [hw2, hg4, ← e1]; exact heap_alloc_new _ _
  have r2 : w2.heap[w.heap.size]? = some (.cells noM.cells.toArray 34 (0, 0)) := by rw [hw2, Below.heap_alloc _ _ _ (by rw [e1]; omega)]; exact heap_alloc_new _ _
  have f2 : Below w.heap.size w w2 := by rw [hw2]; exact ((Below.refl _ w).alloc (Nat.le_refl _) _).alloc (by rw [e1]; omega) _
  have L0 := Lib.hid (show LaRel w a b w.heap.size g4 (.int .i64 0) w2 from ⟨0, rfl, Nat.zero_le _, r4, r2, f2⟩)
  have HW2 := Lib.hid hw2
  have HG4 := Lib.hid hg4
  clear r4 r2 f2 e1 hw2 hg4
  go_enter Try.func35, Try.ntmps35
  go_wp2_with fail
  rw [← HW2.out, ← HG4.out]
  go_loopw [10] (fun u wr => LaRel w a b w.heap.size g4 u wr) (fun u _ => 2 - (intOf u).toNat)
  case atStart => exact L0.out
  case round =>
    obtain ⟨wo, rfl⟩ : ∃ wo : World, wo = wr := ⟨_, rfl⟩
    obtain ⟨i, rfl, hi, hr4, hr2, hB⟩ := hrel
    have HB := Lib.hid hB
    have HR4 := Lib.hid hr4
    have HR2 := Lib.hid hr2
    clear hB hr4 hr2 L0
    by_cases hil : i < 2
    · have hii : (i : Int) < 2 := by omega
      have HPo := Lib.hid (H.out.keep (HB.out.block g H.out.lt))
      have hsl := sel_length H.out.la H.out.lb i
      have HC := Lib.hid (HPo.out.cells hil)
      obtain ⟨s, hs⟩ : ∃ s, s = sel a b i := ⟨_, rfl⟩
      rw [← hs] at HC hsl
      have HSL := Lib.hid hsl
      have HS := Lib.hid hs
      have HSZ := Lib.hid (show (Try.prog.info? 93).map (·.size) = some (bvs s).length by rw [bvs_length, hsl]; kernel_rfl)
      have HSZ2 := Lib.hid (show (Try.prog.info? 93).map (·.size) = some (bvs s).toArray.size by rw [List.size_toArray, bvs_length, hsl]; kernel_rfl)
      have HSO := Lib.hid (show Try.zeroCells93.size = (bvs s).toArray.size by rw [Try.zeroM, List.size_toArray, bvs_length, hsl])
      clear hsl hs
      go_wp2_with fail
      refine wp_region_slots (by kernel_rfl) (by kernel_rfl)
        (fun y => ⟨#[Value.pointer (some { block := g, off := 0 }), undef, Value.pointer (some { block := w.heap.size, off := 0 }),
          Value.bool false, Value.pointer (some { block := g4, off := 0 }), y 5, y 4, u7,
          Value.pointer (some { block := g, off := 0 }), Value.pointer (some { block := g, off := 0 }),
          Value.int IntKind.i64 ↑i, Value.bool true, y 0, y 1, y 2, y 3, u16, u17, u18, u19, u20, u21, u22, u23, u24,
          u25, u26, u27, u28, u29, u30, u31, u32, u33, u34, u35, undef, undef, undef, undef], []⟩)
        (laF s g i wo.heap.size) (fun L w => LaSt wo s (L 4) (L 6) w) (fun _ _ => True) (fun _ _ _ _ _ h => h) ?_ ?_ (fun j => match j with | 0 => u12 | 1 => u13 | 2 => u14 | 3 => u15 | 4 => u6 | _ => u5) rfl ?_
      · intro i' o ho L y wx hd hi' hx hs
        match i', ho with
        | 0, ho =>
          obtain rfl := Option.some.inj ho
          exact slot_run rfl ⟨_, rfl, trivial, rfl, hs⟩
        | 1, ho =>
          obtain rfl := Option.some.inj ho
          exact slot_run rfl ⟨_, rfl, trivial, rfl, hs⟩
        | 2, ho =>
          obtain rfl := Option.some.inj ho
          have y1 : y 1 = .pointer (some ⟨g, 0, none⟩) := hx 1 (hd ⟨1, .data⟩ (by simp) rfl)
          refine slot_run (v := .pointer (some ⟨g, i * 128, none⟩)) (w' := wx) ?_ ⟨_, rfl, trivial, rfl, hs⟩
          refine runWith (fun z => match z with | .tmp 13 => y 1 | _ => .int .i64 (i : Int)) (by kernel_rfl) ?_
          rw [y1]
          rcases (show i = 0 ∨ i = 1 by omega) with rfl | rfl <;> kernel_rfl
        | 3, ho =>
          obtain rfl := Option.some.inj ho
          have y2 : y 2 = .pointer (some ⟨g, i * 128, none⟩) := hx 2 (hd ⟨2, .data⟩ (by simp) rfl)
          have hp := (HPo.out.keep (hs.bel.block g HPo.out.lt)).cells hil
          rw [← HS.out] at hp
          exact slot_load 93 (.tmp 14) rfl ⟨g, i * 128, none⟩ y2 (bvs s) _ hp Try.underlying93 rfl HSZ.out ⟨_, rfl, trivial, rfl, hs⟩
        | 4, ho =>
          obtain rfl := Option.some.inj ho
          have hn := hs.none hi'
          have h6 : L 6 = false := by
            rcases hb : L 6 with _ | _
            · rfl
            · have := hs.imp hb; rw [hi'] at this; cases this
          refine slot_run (v := .pointer (some ⟨wx.heap.size, 0, none⟩)) (w' := wx.alloc (.cells Try.zeroCells93 93)) (by kernel_rfl) ⟨_, rfl, trivial, by show _ = _; rw [hn], ⟨hs.bel.alloc (by omega) _, fun _ => ?_, (fun h => by cases h), fun _ => rfl⟩⟩
          show _ = some (Obj.cells (if L 6 then _ else _) _ _)
          rw [h6, ← hn]
          exact heap_alloc_new _ _
        | 5, ho =>
          obtain rfl := Option.some.inj ho
          have y0 : y 0 = .int .i64 (i : Int) := hx 0 (hd ⟨0, .data⟩ (by simp) rfl)
          exact slot_run rfl ⟨_, rfl, trivial, y0, hs⟩
        | 6, ho =>
          obtain rfl := Option.some.inj ho
          have h4 : L 4 = true := hd ⟨4, .data⟩ (by simp) rfl
          have y4 : y 4 = .pointer (some ⟨wo.heap.size, 0, none⟩) := hx 4 h4
          have y3 : y 3 = .agg (bvs s).toArray := hx 3 (hd ⟨3, .data⟩ (by simp) rfl)
          have hr := hs.row h4
          rw [hi'] at hr
          refine slot_store 93 (.tmp 6) (.tmp 15) rfl wo.heap.size 93 Try.zeroCells93 (bvs s).toArray y4 y3 hr HSZ2.out HSO.out (all_bvs s) ⟨undef, rfl, trivial, trivial, ⟨below_setRow hs.bel (Nat.le_refl _) _, fun _ => setRow_heap _ _ _ _ _ (0, 0) hr, fun h => ?_, fun _ => h4⟩⟩
          change L 4 = false at h
          rw [h4] at h
          cases h
        | n + 7, ho => simp at ho
      · intro L y wx hall hx hs
        dsimp only
        have y0 : y 0 = .int .i64 (i : Int) := hx 0 (hall 0 (by decide))
        have y1 : y 1 = .pointer (some ⟨g, 0, none⟩) := hx 1 (hall 1 (by decide))
        have y2 : y 2 = .pointer (some ⟨g, i * 128, none⟩) := hx 2 (hall 2 (by decide))
        have y3 : y 3 = .agg (bvs s).toArray := hx 3 (hall 3 (by decide))
        have y4 : y 4 = .pointer (some ⟨wo.heap.size, 0, none⟩) := hx 4 (hall 4 (by decide))
        have y5 : y 5 = .int .i64 (i : Int) := hx 5 (hall 5 (by decide))
        rw [y0, y1, y2, y3, y4, y5]
        have hrow := hs.row (hall 4 (by decide))
        rw [hall 6 (by decide), if_pos rfl] at hrow
        have hbel := hs.bel
        clear hs hall hx y0 y1 y2 y3 y4 y5
        obtain ⟨g6, hg6⟩ : ∃ g6, g6 = wo.heap.size := ⟨_, rfl⟩
        rw [← hg6] at hrow ⊢
        have KR := Lib.hid (kread_any (w := wx) (g := g6) (l := s) ⟨hrow, HSL.out⟩)
        have HR6 := Lib.hid hrow
        have HBX := Lib.hid hbel
        have HG6 := Lib.hid hg6
        obtain ⟨mk, hmk⟩ : ∃ mk, mk = readM s := ⟨_, rfl⟩
        have HMK := Lib.hid hmk
        have HOK := Lib.hid (show mk.Ok from hmk ▸ readM_ok s)
        rw [← hmk] at KR
        have HSM := Lib.hid (Try.markSize HOK.out)
        have HSM2 := Lib.hid (show (Try.prog.info? 34).map (·.size) = some mk.cells.toArray.size by rw [List.size_toArray]; exact HSM.out)
        have HS7 := Lib.hid (show (#[Value.int .u64 0, .int .u64 0, .int .u64 0, .int .u64 0, .int .u64 0, .int .u64 0, .int .u64 0] : Array Value).size = mk.cells.toArray.size by have := MkD.cells_length HOK.out; simp [this])
        clear hrow hbel hg6 hmk
        go_wp2_with fail
        refine KR.out.mono ?_
        rintro e w5 ⟨rfl, hb5⟩
        go_wp2_with (with_reducible show wpList _ _ _ _ _ _; refine wpList_store_new rfl 34 (.tmp 7) (.tmp 16) rfl 34 _ mk.cells.toArray rfl rfl HSM2.out HS7.out mk.cells_one ?_)
        obtain ⟨g7, hg7⟩ : ∃ g7, g7 = w5.heap.size := ⟨_, rfl⟩
        obtain ⟨w6, hw6⟩ : ∃ w6, w6 = w5.alloc (.cells mk.cells.toArray 34) := ⟨_, rfl⟩
        rw [← hg7, ← hw6]
        have hr7 : w6.heap[g7]? = some (.cells mk.cells.toArray 34 (0, 0)) := by rw [hw6, hg7]; exact heap_alloc_new _ _
        have b56 : Below w5.heap.size w5 w6 := by rw [hw6]; exact (Below.refl _ _).alloc (Nat.le_refl _) _
        have bx5 := hb5
        have b06 : Below wo.heap.size wo w6 := (HBX.out.trans (hb5.mono HBX.out.size)).trans (b56.mono (Nat.le_trans HBX.out.size hb5.size))
        have HR7 := Lib.hid hr7
        have HR66 := Lib.hid ((b56.block _ (Nat.lt_of_lt_of_le (lt_of_row HR6.out) hb5.size)).trans ((hb5.block _ (lt_of_row HR6.out)).trans HR6.out))
        obtain ⟨lm, hlm⟩ : ∃ lm, lm = lastM a b i := ⟨_, rfl⟩
        have hr46 := (b06.block _ (lt_of_row HR4.out)).trans HR4.out
        rw [← hlm] at hr46
        have HR46 := Lib.hid hr46
        have HLM := Lib.hid hlm
        have HB6 := Lib.hid b06
        obtain ⟨p1, hp1⟩ : ∃ p1, p1 = decide (mk.seq % 2 = i) := ⟨_, rfl⟩
        obtain ⟨p2, hp2⟩ : ∃ p2, p2 = decide (layM mk = s) := ⟨_, rfl⟩
        obtain ⟨p3, hp3⟩ : ∃ p3, p3 = decide (lm.seq < mk.seq) := ⟨_, rfl⟩
        have HP1 := Lib.hid hp1
        have HP2 := Lib.hid hp2
        have HP3 := Lib.hid hp3
        clear hr7 b56 bx5 b06 hlm hr46 hp1 hp2 hp3 hw6 hg7 hb5
        have row : ∀ {wx : World} {k : Nat} {o : Obj}, Below w6.heap.size w6 wx → w6.heap[k]? = some o → wx.heap[k]? = some o := fun hb hr => (hb.block _ (Array.getElem?_eq_some_iff.1 hr).1).trans hr
        refine wp_region_slotsG (by kernel_rfl) (by kernel_rfl)
          (fun y => ⟨#[Value.pointer (some { block := g, off := 0 }), undef, Value.pointer (some { block := w.heap.size, off := 0 }),
          Value.bool false, Value.pointer (some { block := g4, off := 0 }), Value.int IntKind.i64 ↑i,
          Value.pointer (some { block := g6, off := 0 }), Value.pointer (some { block := g7, off := 0 }),
          Value.pointer (some { block := g, off := 0 }), Value.pointer (some { block := g, off := 0 }),
          Value.int IntKind.i64 ↑i, Value.bool true, Value.int IntKind.i64 ↑i,
          Value.pointer (some { block := g, off := 0 }), Value.pointer (some { block := g, off := i * 128 }),
          Value.agg (bvs s).toArray, Value.agg mk.cells.toArray, y 0, y 1, y 2, y 3, y 4, y 5, y 6, y 7, y 8, y 9, y 10, y 11, y 12, y 13, y 14, y 15, y 16, u34, u35, undef, undef, undef, undef], []⟩)
          (laG mk lm s i g7 g4 p1 p2 p3) (fun L w => Below w6.heap.size w6 w) (fun _ _ => True) (fun _ _ _ _ _ h => h) ?_ ?_ (fun j => match j with | 0 => u17 | 1 => u18 | 2 => u19 | 3 => u20 | 4 => u21 | 5 => u22 | 6 => u23 | 7 => u24 | 8 => u25 | 9 => u26 | 10 => u27 | 11 => u28 | 12 => u29 | 13 => u30 | 14 => u31 | 15 => u32 | 16 => u33 | _ => undef) rfl (Below.refl _ _).drew
        · intro i' o ho L y wx hd hi' hx hs
          match i', ho with
          | 0, ho =>
            obtain rfl := Option.some.inj ho
            exact .inl ⟨rfl, slot_load 34 (.tmp 7) rfl ⟨g7, 0, none⟩ rfl mk.cells _ (cells_row (row hs HR7.out)) Try.underlying34 rfl HSM.out ⟨_, rfl, trivial, rfl, hs⟩⟩
          | 1, ho =>
            obtain rfl := Option.some.inj ho
            have y0 : y 0 = .agg mk.cells.toArray := hx 0 (hd ⟨0, .data⟩ (by simp) rfl)
            refine .inl ⟨rfl, slot_call #[.agg mk.cells.toArray] rfl Try.func36 (by kernel_rfl) (by kernel_rfl) (by simp [Act.eval, y0]) ?_⟩
            refine (place_any mk HOK.out wx).mono ?_
            rintro e w' ⟨rfl, hb⟩
            exact ⟨_, rfl, _, rfl, trivial, rfl, hs.trans (hb.mono hs.size)⟩
          | 2, ho =>
            obtain rfl := Option.some.inj ho
            exact .inl ⟨rfl, slot_run rfl ⟨_, rfl, trivial, rfl, hs⟩⟩
          | 3, ho =>
            obtain rfl := Option.some.inj ho
            have y1 : y 1 = .int .i64 ((mk.seq % 2 : Nat) : Int) := hx 1 (hd ⟨1, .data⟩ (by simp) rfl)
            have y2 : y 2 = .int .i64 (i : Int) := hx 2 (hd ⟨2, .data⟩ (by simp) rfl)
            refine .inl ⟨rfl, slot_run (v := .bool p1) (w' := wx) ?_ ⟨_, rfl, trivial, rfl, hs⟩⟩
            refine runWith (fun z => match z with | .tmp 18 => y 1 | _ => y 2) (by kernel_rfl) ?_
            rw [y1, y2, HP1.out]
            go_simp
            rw [Bool.eq_iff_iff, beq_iff_eq, decide_eq_true_eq]
            omega
          | 4, ho =>
            obtain rfl := Option.some.inj ho
            have y3 : y 3 = .bool p1 := hx 3 (hd ⟨3, .data⟩ (by simp) rfl)
            exact .inl ⟨rfl, slot_run rfl ⟨_, rfl, trivial, y3, hs⟩⟩
          | 5, ho =>
            obtain rfl := Option.some.inj ho
            have yg : y 4 = .bool p1 := hx 4 (hd ⟨4, .guard⟩ (by simp) rfl)
            rcases hp : p1 with _ | _
            · exact .inr ⟨Eq.trans (b := gd (y 4) true) (by kernel_rfl) (by rw [yg, hp]; rfl), undef, rfl, (fun h => by first | (cases h; done) | (rw [hp] at h; cases h)), hs⟩
            · refine .inl ⟨Eq.trans (b := gd (y 4) true) (by kernel_rfl) (by rw [yg, hp]; rfl), ?_⟩
              exact slot_load 34 (.tmp 7) rfl ⟨g7, 0, none⟩ rfl mk.cells _ (cells_row (row hs HR7.out)) Try.underlying34 rfl HSM.out ⟨_, rfl, trivial, (fun _ => rfl), hs⟩
          | 6, ho =>
            obtain rfl := Option.some.inj ho
            have yg : y 4 = .bool p1 := hx 4 (hd ⟨4, .guard⟩ (by simp) rfl)
            rcases hp : p1 with _ | _
            · exact .inr ⟨Eq.trans (b := gd (y 4) true) (by kernel_rfl) (by rw [yg, hp]; rfl), undef, rfl, (fun h => by first | (cases h; done) | (rw [hp] at h; cases h)), hs⟩
            · refine .inl ⟨Eq.trans (b := gd (y 4) true) (by kernel_rfl) (by rw [yg, hp]; rfl), ?_⟩
              have y5 : y 5 = .agg mk.cells.toArray := hx 5 (hd ⟨5, .data⟩ (by simp) rfl) hp
              refine slot_call #[.agg mk.cells.toArray] rfl Try.func64 (by kernel_rfl) (by kernel_rfl) (by simp [Act.eval, y5]) ?_
              refine (lay_any mk HOK.out wx).mono ?_
              rintro e w' ⟨rfl, hb⟩
              exact ⟨_, rfl, _, rfl, trivial, (fun _ => rfl), hs.trans (hb.mono hs.size)⟩
          | 7, ho =>
            obtain rfl := Option.some.inj ho
            have yg : y 4 = .bool p1 := hx 4 (hd ⟨4, .guard⟩ (by simp) rfl)
            rcases hp : p1 with _ | _
            · exact .inr ⟨Eq.trans (b := gd (y 4) true) (by kernel_rfl) (by rw [yg, hp]; rfl), undef, rfl, (fun h => by first | (cases h; done) | (rw [hp] at h; cases h)), hs⟩
            · refine .inl ⟨Eq.trans (b := gd (y 4) true) (by kernel_rfl) (by rw [yg, hp]; rfl), ?_⟩
              exact slot_load 93 (.tmp 6) rfl ⟨g6, 0, none⟩ rfl (bvs s) _ (cells_row (row hs HR66.out)) Try.underlying93 rfl HSZ.out ⟨_, rfl, trivial, (fun _ => rfl), hs⟩
          | 8, ho =>
            obtain rfl := Option.some.inj ho
            have yg : y 4 = .bool p1 := hx 4 (hd ⟨4, .guard⟩ (by simp) rfl)
            rcases hp : p1 with _ | _
            · exact .inr ⟨Eq.trans (b := gd (y 4) true) (by kernel_rfl) (by rw [yg, hp]; rfl), undef, rfl, (fun h => by first | (cases h; done) | (rw [hp] at h; cases h)), hs⟩
            · refine .inl ⟨Eq.trans (b := gd (y 4) true) (by kernel_rfl) (by rw [yg, hp]; rfl), ?_⟩
              have y6 : y 6 = .agg (bvs (layM mk)).toArray := hx 6 (hd ⟨6, .data⟩ (by simp) rfl) hp
              have y7 : y 7 = .agg (bvs s).toArray := hx 7 (hd ⟨7, .data⟩ (by simp) rfl) hp
              refine slot_run (v := .bool p2) (w' := wx) ?_ ⟨_, rfl, trivial, (fun _ => rfl), hs⟩
              refine runWith (fun z => match z with | .tmp 23 => y 6 | _ => y 7) (by kernel_rfl) ?_
              rw [HP2.out]
              exact exec_eql rfl (layM mk) s (layM_length HOK.out.len) HSL.out y6 y7 wx
          | 9, ho =>
            obtain rfl := Option.some.inj ho
            have y4 : y 4 = .bool p1 := hx 4 (hd ⟨4, .data⟩ (by simp) rfl)
            have y8 := hx 8 (hd ⟨8, .data⟩ (by simp) rfl)
            refine .inl ⟨rfl, slot_run (v := .bool (p1 && p2)) (w' := wx) ?_ ⟨_, rfl, trivial, rfl, hs⟩⟩
            refine runWith (fun z => match z with | .tmp 21 => y 4 | .tmp 25 => y 8 | _ => .bool false) (by kernel_rfl) ?_
            rw [y4]
            rcases hp : p1 with _ | _
            · kernel_rfl
            · rw [show y 8 = .bool p2 from y8 hp]
              kernel_rfl
          | 10, ho =>
            obtain rfl := Option.some.inj ho
            have y9 : y 9 = .bool (p1 && p2) := hx 9 (hd ⟨9, .data⟩ (by simp) rfl)
            exact .inl ⟨rfl, slot_run rfl ⟨_, rfl, trivial, y9, hs⟩⟩
          | 11, ho =>
            obtain rfl := Option.some.inj ho
            have yg : y 10 = .bool (p1 && p2) := hx 10 (hd ⟨10, .guard⟩ (by simp) rfl)
            rcases hp : (p1 && p2) with _ | _
            · exact .inr ⟨Eq.trans (b := gd (y 10) true) (by kernel_rfl) (by rw [yg, hp]; rfl), undef, rfl, (fun h => by first | (cases h; done) | (rw [hp] at h; cases h)), hs⟩
            · refine .inl ⟨Eq.trans (b := gd (y 10) true) (by kernel_rfl) (by rw [yg, hp]; rfl), ?_⟩
              exact slot_run (v := .pointer (some ⟨g7, 0, none⟩)) (w' := wx) (by kernel_rfl) ⟨_, rfl, trivial, (fun _ => rfl), hs⟩
          | 12, ho =>
            obtain rfl := Option.some.inj ho
            have yg : y 10 = .bool (p1 && p2) := hx 10 (hd ⟨10, .guard⟩ (by simp) rfl)
            rcases hp : (p1 && p2) with _ | _
            · exact .inr ⟨Eq.trans (b := gd (y 10) true) (by kernel_rfl) (by rw [yg, hp]; rfl), undef, rfl, (fun h => by first | (cases h; done) | (rw [hp] at h; cases h)), hs⟩
            · refine .inl ⟨Eq.trans (b := gd (y 10) true) (by kernel_rfl) (by rw [yg, hp]; rfl), ?_⟩
              have y11 : y 11 = .pointer (some ⟨g7, 0, none⟩) := hx 11 (hd ⟨11, .data⟩ (by simp) rfl) hp
              have hc : wx.cell? ⟨g7, 0, none⟩ = some (.int .u64 (mk.seq : Int)) := (cells_row (row hs HR7.out)) 0 _ rfl
              refine slot_run (v := .int .u64 (mk.seq : Int)) (w' := wx) ?_ ⟨_, rfl, trivial, (fun _ => rfl), hs⟩
              refine runWith (fun _ => y 11) (by kernel_rfl) ?_
              rw [y11]
              go_simp
          | 13, ho =>
            obtain rfl := Option.some.inj ho
            have yg : y 10 = .bool (p1 && p2) := hx 10 (hd ⟨10, .guard⟩ (by simp) rfl)
            rcases hp : (p1 && p2) with _ | _
            · exact .inr ⟨Eq.trans (b := gd (y 10) true) (by kernel_rfl) (by rw [yg, hp]; rfl), undef, rfl, (fun h => by first | (cases h; done) | (rw [hp] at h; cases h)), hs⟩
            · refine .inl ⟨Eq.trans (b := gd (y 10) true) (by kernel_rfl) (by rw [yg, hp]; rfl), ?_⟩
              exact slot_run (v := .pointer (some ⟨g4, 0, none⟩)) (w' := wx) (by kernel_rfl) ⟨_, rfl, trivial, (fun _ => rfl), hs⟩
          | 14, ho =>
            obtain rfl := Option.some.inj ho
            have yg : y 10 = .bool (p1 && p2) := hx 10 (hd ⟨10, .guard⟩ (by simp) rfl)
            rcases hp : (p1 && p2) with _ | _
            · exact .inr ⟨Eq.trans (b := gd (y 10) true) (by kernel_rfl) (by rw [yg, hp]; rfl), undef, rfl, (fun h => by first | (cases h; done) | (rw [hp] at h; cases h)), hs⟩
            · refine .inl ⟨Eq.trans (b := gd (y 10) true) (by kernel_rfl) (by rw [yg, hp]; rfl), ?_⟩
              have y13 : y 13 = .pointer (some ⟨g4, 0, none⟩) := hx 13 (hd ⟨13, .data⟩ (by simp) rfl) hp
              have hc : wx.cell? ⟨g4, 0, none⟩ = some (.int .u64 (lm.seq : Int)) := (cells_row (row hs HR46.out)) 0 _ rfl
              refine slot_run (v := .int .u64 (lm.seq : Int)) (w' := wx) ?_ ⟨_, rfl, trivial, (fun _ => rfl), hs⟩
              refine runWith (fun _ => y 13) (by kernel_rfl) ?_
              rw [y13]
              go_simp
          | 15, ho =>
            obtain rfl := Option.some.inj ho
            have yg : y 10 = .bool (p1 && p2) := hx 10 (hd ⟨10, .guard⟩ (by simp) rfl)
            rcases hp : (p1 && p2) with _ | _
            · exact .inr ⟨Eq.trans (b := gd (y 10) true) (by kernel_rfl) (by rw [yg, hp]; rfl), undef, rfl, (fun h => by first | (cases h; done) | (rw [hp] at h; cases h)), hs⟩
            · refine .inl ⟨Eq.trans (b := gd (y 10) true) (by kernel_rfl) (by rw [yg, hp]; rfl), ?_⟩
              have y12 : y 12 = .int .u64 (mk.seq : Int) := hx 12 (hd ⟨12, .data⟩ (by simp) rfl) hp
              have y14 : y 14 = .int .u64 (lm.seq : Int) := hx 14 (hd ⟨14, .data⟩ (by simp) rfl) hp
              refine slot_run (v := .bool p3) (w' := wx) ?_ ⟨_, rfl, trivial, (fun _ => rfl), hs⟩
              refine runWith (fun z => match z with | .tmp 29 => y 12 | _ => y 14) (by kernel_rfl) ?_
              rw [y12, y14, HP3.out]
              go_simp
          | 16, ho =>
            obtain rfl := Option.some.inj ho
            have y10 : y 10 = .bool (p1 && p2) := hx 10 (hd ⟨10, .data⟩ (by simp) rfl)
            have y15 := hx 15 (hd ⟨15, .data⟩ (by simp) rfl)
            refine .inl ⟨rfl, slot_run (v := .bool (p1 && p2 && p3)) (w' := wx) ?_ ⟨_, rfl, trivial, rfl, hs⟩⟩
            refine runWith (fun z => match z with | .tmp 27 => y 10 | .tmp 32 => y 15 | _ => .bool false) (by kernel_rfl) ?_
            rw [y10]
            rcases hp : (p1 && p2) with _ | _
            · kernel_rfl
            · rw [show y 15 = .bool p3 from y15 hp]
              kernel_rfl
          | n + 17, ho => simp at ho
        · intro L y wx hall hx hs
          dsimp only
          have y5 : y 16 = .bool (p1 && p2 && p3) := hx 16 (hall 16 (by decide))
          rw [y5]
          have HRW7 := Lib.hid (row hs HR7.out)
          have HRW4 := Lib.hid (row hs HR46.out)
          have HBW := Lib.hid (HB.out.trans ((HB6.out.trans (hs.mono HB6.out.size)).mono HB.out.size))
          have HRW2 := Lib.hid (row hs ((HB6.out.block _ (lt_of_row HR2.out)).trans HR2.out))
          have hne : g4 ≠ w.heap.size ∧ w.heap.size ≤ g4 := by have := HG4.out; omega
          clear hs hall hx y5 row
          have hme : 2 - (intOf (Value.int .i64 ((i : Int) + 1))).toNat < 2 - (intOf (Value.int .i64 (i : Int))).toNat := by simp [intOf]; omega
          have hla : lastM a b (i + 1) = if (p1 && p2 && p3) = true then mk else lm := by
            have hc : (isM s i ∧ lm.seq < mk.seq) ↔ (p1 && p2 && p3) = true := by
              rw [HP1.out, HP2.out, HP3.out, HMK.out]
              simp [isM]
            unfold lastM
            rw [← HS.out, ← HMK.out, ← HLM.out]
            by_cases h : isM s i ∧ lm.seq < mk.seq
            · rw [if_pos h, if_pos (hc.1 h)]
            · rw [if_neg h, if_neg (fun e => h (hc.2 e))]
          have HME := Lib.hid hme
          have HLA := Lib.hid hla
          have HSO2 := Lib.hid (show lm.cells.toArray.size = mk.cells.toArray.size by
            rw [List.size_toArray, List.size_toArray, MkD.cells_length HOK.out, MkD.cells_length (HLM.out ▸ lastM_ok a b i)])
          clear hme hla
          rcases hq : (p1 && p2 && p3) with _ | _
          · have HQ := Lib.hid hq
            clear hq
            go_wp2_with fail
            refine ⟨⟨i + 1, rfl, by omega, ?_, HRW2.out, HBW.out⟩, HME.out⟩
            rw [HLA.out, HQ.out, if_neg (by decide)]
            exact HRW4.out
          · have HQ := Lib.hid hq
            clear hq
            go_wp2_with (first
              | (with_reducible show wpList _ _ _ _ _ _; refine wpList_load_all rfl 34 (.tmp 7) rfl ⟨g7, 0, none⟩ rfl mk.cells _ (cells_row HRW7.out) Try.underlying34 rfl HSM.out ?_)
              | (with_reducible show wpList _ _ _ _ _ _; refine wpList_store_whole rfl 34 (.tmp 4) (.tmp 34) rfl g4 34 lm.cells.toArray mk.cells.toArray rfl rfl HRW4.out HSM2.out HSO2.out mk.cells_one ?_))
            refine ⟨⟨i + 1, rfl, by omega, ?_, (setRow_other _ _ _ _ (Ne.symm hne.1)).trans HRW2.out, below_setRow HBW.out hne.2 _⟩, HME.out⟩
            rw [HLA.out, HQ.out, if_pos rfl]
            exact setRow_heap _ _ _ _ _ (0, 0) HRW4.out
      · exact ⟨(Below.refl _ _).drew, (fun h => by cases h), (fun _ => rfl), fun h => by cases h⟩
    · obtain rfl : i = 2 := by omega
      rw [show ((2 : Nat) : Int) = 2 from rfl]
      obtain ⟨lm, hlm⟩ : ∃ lm, lm = lastM a b 2 := ⟨_, rfl⟩
      rw [← hlm] at HR4
      have HLM := Lib.hid hlm
      have hok : lm.Ok := hlm ▸ lastM_ok a b 2
      have HSM := Lib.hid (Try.markSize hok)
      have HSM2 := Lib.hid (show (Try.prog.info? 34).map (·.size) = some lm.cells.toArray.size by rw [List.size_toArray]; exact HSM.out)
      have HSO2 := Lib.hid (show noM.cells.toArray.size = lm.cells.toArray.size by rw [List.size_toArray, List.size_toArray, MkD.cells_length hok, MkD.cells_length noM_ok])
      have hne : g4 ≠ w.heap.size ∧ w.heap.size ≤ g4 := by have := HG4.out; omega
      clear hlm
      go_wp2_with fail
      refine wp_region_slots (by kernel_rfl) (by kernel_rfl)
        (fun y => ⟨#[Value.pointer (some { block := g, off := 0 }), undef, Value.pointer (some { block := w.heap.size, off := 0 }),
          y 5, Value.pointer (some { block := g4, off := 0 }), u5, u6, u7,
          Value.pointer (some { block := g, off := 0 }), Value.pointer (some { block := g, off := 0 }),
          Value.int IntKind.i64 2, Value.bool false, u12, u13, u14, u15, u16, u17, u18, u19, u20, u21, u22, u23, u24,
          u25, u26, u27, u28, u29, u30, u31, u32, u33, u34, u35, y 0, y 1, y 2, y 3], []⟩)
        (laE lm g4) (fun L wx => LaEnd w g4 lm (L 4) wx) (fun _ _ => True) (fun _ _ _ _ _ h => h) ?_ ?_ (fun j => match j with | 5 => .bool false | _ => undef) rfl ?_
      · intro i' o ho L y wx hd hi' hx hs
        match i', ho with
        | 0, ho =>
          obtain rfl := Option.some.inj ho
          exact slot_load 34 (.tmp 4) rfl ⟨g4, 0, none⟩ rfl lm.cells _ (cells_row hs.row4) Try.underlying34 rfl HSM.out ⟨_, rfl, trivial, rfl, hs⟩
        | 1, ho =>
          obtain rfl := Option.some.inj ho
          exact slot_run (v := .pointer (some ⟨g4, 0, none⟩)) (w' := wx) (by kernel_rfl) ⟨_, rfl, trivial, rfl, hs⟩
        | 2, ho =>
          obtain rfl := Option.some.inj ho
          have y1 : y 1 = .pointer (some ⟨g4, 0, none⟩) := hx 1 (hd ⟨1, .data⟩ (by simp) rfl)
          have hc : wx.cell? ⟨g4, 0, none⟩ = some (.int .u64 (lm.seq : Int)) := (cells_row hs.row4) 0 _ rfl
          refine slot_run (v := .int .u64 (lm.seq : Int)) (w' := wx) ?_ ⟨_, rfl, trivial, rfl, hs⟩
          refine runWith (fun _ => y 1) (by kernel_rfl) ?_
          rw [y1]
          go_simp
        | 3, ho =>
          obtain rfl := Option.some.inj ho
          have y2 : y 2 = .int .u64 (lm.seq : Int) := hx 2 (hd ⟨2, .data⟩ (by simp) rfl)
          refine slot_run (v := .bool (decide (0 < lm.seq))) (w' := wx) ?_ ⟨_, rfl, trivial, rfl, hs⟩
          refine runWith (fun z => match z with | .tmp 38 => y 2 | _ => .int .u64 0) (by kernel_rfl) ?_
          rw [y2]
          go_simp
        | 4, ho =>
          obtain rfl := Option.some.inj ho
          have y0 : y 0 = .agg lm.cells.toArray := hx 0 (hd ⟨0, .data⟩ (by simp) rfl)
          have hr := hs.row2
          rw [hi'] at hr
          refine slot_store 34 (.tmp 2) (.tmp 36) rfl w.heap.size 34 noM.cells.toArray lm.cells.toArray rfl y0 hr HSM2.out HSO2.out lm.cells_one ⟨undef, rfl, trivial, trivial, ⟨below_setRow hs.bel (Nat.le_refl _) _, (setRow_other _ _ _ _ hne.1).trans hs.row4, setRow_heap _ _ _ _ _ (0, 0) hr⟩⟩
        | 5, ho =>
          obtain rfl := Option.some.inj ho
          have y3 : y 3 = .bool (decide (0 < lm.seq)) := hx 3 (hd ⟨3, .data⟩ (by simp) rfl)
          exact slot_run rfl ⟨_, rfl, trivial, y3, hs⟩
        | n + 6, ho => simp at ho
      · intro L y wx hall hx hs
        dsimp only
        have y5 : y 5 = .bool (decide (0 < lm.seq)) := hx 5 (hall 5 (by decide))
        rw [y5]
        have hr2 := hs.row2
        rw [hall 4 (by decide), if_pos rfl] at hr2
        have HR22 := Lib.hid hr2
        have HBE := Lib.hid hs.bel
        clear hx hs hall hr2 y5
        go_wp2_with fail
        refine bodyPost_ret (results2_cell_row rfl _ _ w.heap.size 34 _ (0, 0) _ (.bool (decide (0 < lm.seq))) rfl rfl HR22.out Try.underlying34 rfl HSM2.out) rfl ⟨by rw [HLM.out], HBE.out⟩
      · exact ⟨HB.out.drew, HR4.out, HR2.out⟩
end Go.Proofs.Ytgbmkolpdnenlaa.Dk
