/- The law DiskSure: its walk. -/
import Derived.Test.YtllnaocnojhlkaaVi
import Derived.Test.YtllnaocnojhlkaaVf
import Derived.Deep.RegionWith
namespace Go.Proofs.Ytllnaocnojhlkaa.Dk
open Go Go.RowKit
set_option linter.unusedVariables false
set_option linter.unusedSimpArgs false

def lastS (o : Option (List UInt8)) : List UInt8 := o.getD []
/-- Where the first loop stands. -/
def S1Rel (w : World) (p : OpD) (g5 d g m : Nat) (N : Nat) (u : Value) (wr : World) : Prop :=
  ∃ (j n0 : Nat) (x : DS), u = .int .i64 (j : Int) ∧ j ≤ N ∧ n0 ≤ j ∧ Good x 4 ∧ DiskAt Try.prog wr d g m n0 x ∧ wr.heap[g5]? = some (.cells p.cells.toArray 59 (0, 0)) ∧ Below w.heap.size w wr
def strV (l : List UInt8) : Value := .string (str l)
/-- The second loop: what stands on the sectors is kept. -/
def S2Rel (w : World) (p : OpD) (g5 ga d g m n0 : Nat) (x : DS) (u : Value) (wr : World) : Prop :=
  ∃ (j : Nat) (ws : List (List UInt8)), u = .int .i64 (j : Int) ∧ j ≤ 4 ∧ ws.length = 4 ∧ (∀ i, i < j → ws.getD i [] = x.s.getD i []) ∧ wr.heap[ga]? = some (.cells (ws.map strV).toArray 65 (0, 0)) ∧ DiskAt Try.prog wr d g m n0 x ∧ wr.heap[g5]? = some (.cells p.cells.toArray 59 (0, 0)) ∧ Below w.heap.size w wr
/-- The third one: what was written last is kept, too. -/
def S3Rel (w : World) (p : OpD) (g5 ga gl d g m : Nat) (s1 : List (List UInt8)) (N : Nat) (u : Value) (wr : World) : Prop :=
  ∃ (j n0 : Nat) (x : DS) (ls : List (List UInt8)), u = .int .i64 (j : Int) ∧ j ≤ N ∧ n0 ≤ 100 + j ∧ Good x 4 ∧ x.s = s1 ∧ ls.length = 4 ∧ (∀ i : Nat, i < 4 → ls.getD i [] = lastS (x.S (i : Int))) ∧ wr.heap[gl]? = some (.cells (ls.map strV).toArray 65 (0, 0)) ∧
    wr.heap[ga]? = some (.cells (s1.map strV).toArray 65 (0, 0)) ∧ DiskAt Try.prog wr d g m n0 x ∧ wr.heap[g5]? = some (.cells p.cells.toArray 59 (0, 0)) ∧ Below w.heap.size w wr
/-- The last one. -/
def S4Rel (w : World) (p : OpD) (g5 ga gl d g m n0 : Nat) (s1 ls : List (List UInt8)) (x : DS) (u : Value) (wr : World) : Prop :=
  ∃ j : Nat, u = .int .i64 (j : Int) ∧ j ≤ 4 ∧ wr.heap[gl]? = some (.cells (ls.map strV).toArray 65 (0, 0)) ∧ wr.heap[ga]? = some (.cells (s1.map strV).toArray 65 (0, 0)) ∧ DiskAt Try.prog wr d g m n0 x ∧ wr.heap[g5]? = some (.cells p.cells.toArray 59 (0, 0)) ∧ Below w.heap.size w wr
theorem flush_none {x : DS} {N : Nat} (h : Good x N) : ∀ i, x.flush.S i = none := by
  intro i
  have e : x.flush = { x with s := Dk.laid x.s x.S (fun _ => false), S := fun _ => none, fl := wrap64 (x.fl + 1) } := by
    unfold DS.flush
    rw [if_neg (by rw [h.up]; decide), if_neg (by rw [h.fu]; decide), h.spend]
  rw [e]
theorem read_none {x : DS} {N : Nat} (h : Good x N) (hS : ∀ i, x.S i = none) {n : Nat} (hn : n < N) : x.read (n : Int) = (x.s.getD n [], 0) := by
  unfold DS.read DS.sure
  rw [if_neg (by rw [h.up]; decide), hS]
  simp only [h.has hn, Int.toNat_natCast, if_neg (show ¬ (true = false) by decide)]
theorem strs_cell {w : World} {g j : Nat} {ws : List (List UInt8)} {t : TypeId} (h : w.heap[g]? = some (.cells (ws.map strV).toArray t (0, 0))) (hj : j < ws.length) : w.cell? ⟨g, j, none⟩ = some (.string (str (ws.getD j []))) ∧ w.frozen? ⟨g, j, none⟩ = false := by
  refine ⟨?_, frozen_of_row w g j _ _ h⟩
  rw [cell_of_row w g j _ _ _ h]
  simp [strV, List.getD, hj]
theorem strs_set {w : World} {g j : Nat} {ws : List (List UInt8)} {t : TypeId} (h : w.heap[g]? = some (.cells (ws.map strV).toArray t (0, 0))) (v : List UInt8) : (w.setCell ⟨g, j, none⟩ (.string (str v))).heap[g]? = some (.cells ((ws.set j v).map strV).toArray t (0, 0)) := by
  have := Go.Joins.block_setCell (i := j) h (.string (str v))
  simpa [List.map_set, strV] using this
theorem str_inj {a b : List UInt8} (h : str a = str b) : a = b := by
  have := congrArg (fun s => s.data.toList) h
  simpa [str] using this
theorem str_ne {a b : List UInt8} (h : ¬ a = b) : ¬ str a = str b := fun e => h (str_inj e)
theorem clamp (z : Int) (n : Nat) : ∃ d : Nat, max 0 (min z (n : Int)) = (d : Int) ∧ d ≤ n := ⟨(max 0 (min z (n : Int))).toNat, by omega, by omega⟩
theorem str_size (l : List UInt8) : (str l).size = l.length := by simp [str, ByteArray.size]
theorem str_extract (t : List UInt8) (a n : Nat) : (str t).extract a (a + n) = str ((t.drop a).take n) := by
  apply ByteArray.ext
  simp [str, ByteArray.data_extract]
theorem str_tl (l : List UInt8) : (str l).toList = l := by
  rw [ByteArray.toList_eq]
  simp [str]
theorem torn_str {v l sv : List UInt8} {q : Nat} (hv : v = l.take q ++ sv.drop q) (hl : l.length = 128) (hs : sv.length = 128) (hq : q ≤ 128) : (str l).extract 0 q ++ (str sv).extract q 128 = str v := by
  have e1 := str_extract l 0 q
  rw [Nat.zero_add, List.drop_zero] at e1
  have e2 := str_extract sv q (128 - q)
  rw [show q + (128 - q) = 128 by omega, List.take_of_length_le (by rw [List.length_drop]; omega)] at e2
  rw [e1, e2, ← str_append, ← hv]
theorem tl_ne {a b : List UInt8} (h : ¬ a = b) : (¬ (str a).toList = (str b).toList) ∧ ((str a).toList == (str b).toList) = false := by
  rw [str_tl, str_tl]
  exact ⟨h, by simpa using h⟩
theorem tl_pos {l : List UInt8} (h : 0 < l.length) : (¬ (str l).toList = []) ∧ (str l).toList.isEmpty = false := by
  rw [str_tl]
  cases l with
  | nil => simp at h
  | cons a l => exact ⟨by simp, rfl⟩
theorem str_pos {l : List UInt8} (h : 0 < l.length) : ¬ str l = { data := #[] } := fun e => by
  have := str_inj (a := l) (b := []) e
  subst this
  simp at h
theorem set_agree {ws : List (List UInt8)} {f : Nat → List UInt8} {j : Nat} {v : List UInt8} (hl : ws.length = 4) (h : ∀ i, i < j → ws.getD i [] = f i) (hj : j < 4) (hv : v = f j) : ∀ i, i < j + 1 → (ws.set j v).getD i [] = f i := by
  intro i hi
  by_cases e : j = i
  · subst e
    rw [← hv]
    simp [List.getD, hl, hj]
  · rw [← h i (by omega)]
    simp only [List.getD]
    rw [List.getElem?_set_ne e]
theorem agree_all {ws ss : List (List UInt8)} (h1 : ws.length = 4) (h2 : ss.length = 4) (h : ∀ i, i < 4 → ws.getD i [] = ss.getD i []) : ws = ss := by
  apply List.ext_getElem
  · omega
  · intro i hi hj
    have := h i (by omega)
    simpa [List.getD, hi, hj] using this
theorem lastS_upd {x : DS} {N nk : Nat} (h : Good x N) (hk : nk < N) {b : List UInt8} (hb : b.length = 128) (i : Nat) : lastS ((x.write (nk : Int) b).S (i : Int)) = if i = nk then b else lastS (x.S (i : Int)) := by
  rw [h.writeEq hk hb]
  simp only [upd, lastS]
  by_cases e : i = nk
  · subst e; simp
  · rw [if_neg (by omega), if_neg e]
theorem write_s {x : DS} {N : Nat} (h : Good x N) (i : Int) {b : List UInt8} (hb : b.length = 128) : (x.write i b).s = x.s := by
  by_cases hi : 0 ≤ i ∧ i < (N : Int)
  · obtain ⟨k, rfl⟩ : ∃ k : Nat, i = (k : Int) := ⟨i.toNat, by omega⟩
    rw [h.writeEq (by omega) hb]
  · have : x.has i = false := by simp [DS.has, h.n]; omega
    unfold DS.write
    rw [if_neg (by rw [h.up]; decide), if_pos this]
theorem write_out {x : DS} {N : Nat} (h : Good x N) {i : Int} (hi : ¬ (0 ≤ i ∧ i < (N : Int))) (b : List UInt8) : x.write i b = x := by
  have : x.has i = false := by simp [DS.has, h.n]; omega
  unfold DS.write
  rw [if_neg (by rw [h.up]; decide), if_pos this]
set_option maxRecDepth 100000 in
set_option maxHeartbeats 8000000 in
theorem dsure_any (a1 : Option Addr) (l1 : Nat) (L1 : List OpD) (a2 : Option Addr) (l2 : Nat) (L2 : List OpD) (p : OpD) (w : World) (hO1 : Ops w (.slice a1 L1.length l1) L1) (hO2 : Ops w (.slice a2 L2.length l2) L2) (hp : p.Good w) (hl1 : L1.length ≤ 9223372036854775807) (hl2 : L2.length ≤ 9223372036854775807) :
    Calls Try.prog 7 #[.slice a1 L1.length l1, .slice a2 L2.length l2, .agg p.cells.toArray] w fun e w' => e = .returned (.bool true) ∧ Below w.heap.size w w' := by
  have r0 := heap_alloc_new w (.cells p.cells.toArray 59 (0, 0))
  have fa : Below w.heap.size w (w.alloc (.cells p.cells.toArray 59 (0, 0))) := (Below.refl _ _).alloc (Nat.le_refl _) _
  have GO := Lib.hid (works_any (w.alloc (.cells p.cells.toArray 59 (0, 0))))
  have hsz : (w.alloc (.cells p.cells.toArray 59 (0, 0))).heap.size = w.heap.size + 1 := Array.size_push _
  obtain ⟨g5, hg5⟩ : ∃ g5, g5 = w.heap.size := ⟨_, rfl⟩
  have HO1 := Lib.hid hO1
  have HO2 := Lib.hid hO2
  have HP := Lib.hid hp
  have FT1 := Lib.hid (fun W h => fits_any a1 l1 L1 W h hl1)
  have FT2 := Lib.hid (fun W h => fits_any a2 l2 L2 W h hl2)
  clear hO1 hO2 hp
  go_enter Try.func7, Try.ntmps7
  rw [← hg5]
  obtain ⟨wa, hwa⟩ : ∃ wa, wa = w.alloc (.cells p.cells.toArray 59 (0, 0)) := ⟨_, rfl⟩
  rw [← hg5, ← hwa] at r0
  rw [← hwa] at fa GO hsz
  go_wp2_with fail
  rw [← hwa, ← hg5]
  refine GO.out.mono ?_
  rintro e w1 ⟨rfl, hb1⟩
  have HR1 := Lib.hid ((hb1.block g5 (by omega)).trans r0)
  have HB1 := Lib.hid (show Below w.heap.size w w1 from fa.trans (hb1.mono (by omega)))
  have HG := Lib.hid hg5
  have hg1 : g5 < w1.heap.size := by have := hb1.size; omega
  clear GO hb1 hwa hsz r0 fa hg5
  cases f1 : fitsB L1 with
  | false =>
    rw [f1] at FT1
    clear f1
    go_wp2_with fail
    refine (FT1.out w1 (HO1.out.below HB1.out (Nat.le_refl _))).mono ?_
    rintro e w2 ⟨rfl, hb2⟩
    have HB2 := Lib.hid (HB1.out.trans (hb2.mono HB1.out.size))
    clear hb2 FT1
    go_wp2_with fail
    go_ret
    exact ⟨rfl, by rw [HG.out]; exact HB2.out⟩
  | true =>
    rw [f1] at FT1
    have hn1 : L1.length ≤ 30 := by simp [fitsB] at f1; exact f1.1
    clear f1
    go_wp2_with fail
    refine (FT1.out w1 (HO1.out.below HB1.out (Nat.le_refl _))).mono ?_
    rintro e w2 ⟨rfl, hb2⟩
    have HB2 := Lib.hid (HB1.out.trans (hb2.mono HB1.out.size))
    have HR2 := Lib.hid ((hb2.block g5 hg1).trans HR1.out)
    have hg2 : g5 < w2.heap.size := by have := hb2.size; omega
    clear hb2 FT1 HR1 hg1
    cases f2 : fitsB L2 with
    | false =>
      rw [f2] at FT2
      clear f2
      go_wp2_with fail
      refine (FT2.out w2 (HO2.out.below HB2.out (Nat.le_refl _))).mono ?_
      rintro e w3 ⟨rfl, hb3⟩
      have HB3 := Lib.hid (HB2.out.trans (hb3.mono HB2.out.size))
      clear hb3 FT2
      go_wp2_with fail
      go_ret
      exact ⟨rfl, by rw [HG.out]; exact HB3.out⟩
    | true =>
      rw [f2] at FT2
      have hn2 : L2.length ≤ 30 := by simp [fitsB] at f2; exact f2.1
      clear f2
      go_wp2_with fail
      refine (FT2.out w2 (HO2.out.below HB2.out (Nat.le_refl _))).mono ?_
      rintro e w3 ⟨rfl, hb3⟩
      have HB3 := Lib.hid (HB2.out.trans (hb3.mono HB2.out.size))
      have HR3 := Lib.hid ((hb3.block g5 hg2).trans HR2.out)
      have hg3 : g5 < w3.heap.size := by have := hb3.size; omega
      clear hb3 FT2 HR2 hg2
      have cc : ∀ j v, p.cells[j]? = some v → w3.cell? ⟨g5, j, none⟩ = some v := fun j v hv => by
        rw [cell_of_row w3 g5 j _ _ _ HR3.out]
        simpa using hv
      have u0 := cc 0 _ rfl
      have u1 := cc 1 _ rfl
      have u2 := cc 2 _ rfl
      have u3 := cc 3 _ rfl
      have u4 := cc 4 _ rfl
      have u5 := cc 5 _ rfl
      have u6 := cc 6 _ rfl
      obtain ⟨w4, hw4⟩ : ∃ w4, w4 = w3.alloc (.cells #[.int .i64 p.kind, .int .i64 p.n, .int .i64 p.at_, .int .u8 p.x, .bool p.raw, .slice p.ao p.data.length p.cap, .slice p.ko p.keep.length p.kcap] 59 (0, 0)) := ⟨_, rfl⟩
      have f4 : Below w3.heap.size w3 w4 := by rw [hw4]; exact (Below.refl _ _).alloc (Nat.le_refl _) _
      have hO4 : Ops w4 (.slice (some ⟨w3.heap.size, 0, none⟩) 1 1) [p] := by rw [hw4]; exact one_op (HP.out.below HB3.out (Nat.le_refl _))
      have FT3 := Lib.hid (fits_any _ 1 [p] w4 hO4 (by simp))
      have HB4 := Lib.hid (HB3.out.trans (f4.mono HB3.out.size))
      have HR4 := Lib.hid ((f4.block g5 hg3).trans HR3.out)
      have HW4 := Lib.hid hw4
      have hg4 : g5 < w4.heap.size := by have := f4.size; omega
      clear hw4 f4 hO4 hg3 cc
      go_wp2_with fail
      rw [← HW4.out]
      cases f3 : fitsB [p] with
      | false =>
        rw [f3] at FT3
        clear f3
        refine FT3.out.mono ?_
        rintro e w5 ⟨rfl, hb5⟩
        have HB5 := Lib.hid (HB4.out.trans (hb5.mono HB4.out.size))
        clear hb5 FT3
        go_wp2_with fail
        go_ret
        exact ⟨rfl, by rw [HG.out]; exact HB5.out⟩
      | true =>
        rw [f3] at FT3
        have hkl : p.keep.length ≤ 20 := by simp [fitsB, OpD.fits] at f3; omega
        clear f3
        refine FT3.out.mono ?_
        rintro e w5 ⟨rfl, hb5⟩
        have HB5 := Lib.hid (HB4.out.trans (hb5.mono HB4.out.size))
        have HR5 := Lib.hid ((hb5.block g5 hg4).trans HR4.out)
        have hg5l : g5 < w5.heap.size := by have := hb5.size; omega
        clear hb5 FT3 HR4 hg4 u0 u1 u2 u3 u4 u5 u6 HR3
        have HKN := HP.out.keep
        obtain ⟨_, _, ek, hkc, hkw⟩ := HKN
        injection ek with ek1 ek2 ek3
        subst ek1 ek3
        have HKEEP := Lib.hid (show ∀ jj, jj < p.keep.length → ∃ a9, p.ko = some a9 ∧ w.cell? (a9.add jj) = some (.int .i64 (p.keep.getD jj 0)) ∧ True from fun jj hjj => by obtain ⟨a9, h1, h2⟩ := hkc jj hjj; exact ⟨a9, h1, h2, trivial⟩)
        have HKW := Lib.hid hkw
        clear hkc hkw ek2
        have NW := Lib.hid (new_any 4 (by decide) (by decide) w5)
        go_wp2_with fail
        refine NW.out.mono ?_
        rintro e w6 ⟨d, g, m, rfl, hD6, hb6, hd, hg, hm⟩
        have LO := Lib.hid (show ∀ i, own3 d g m i → w5.heap.size ≤ i from fun i h => by rcases h with h | h | h <;> omega)
        have HG5 := Lib.hid (show g5 < w5.heap.size ∧ w.heap.size ≤ w5.heap.size from ⟨hg5l, HB5.out.size⟩)
        have J0 := Lib.hid (show S1Rel w p g5 d g m L1.length (.int .i64 0) w6 from ⟨0, 0, _, rfl, Nat.zero_le _, Nat.le_refl _, good_new 4, hD6, (hb6.block g5 hg5l).trans HR5.out, HB5.out.trans (hb6.mono HB5.out.size)⟩)
        have OWN := Lib.hid (show ∀ i, own3 d g m i → w.heap.size ≤ i ∧ i ≠ g5 from fun i h => by have := LO.out i h; have := HG5.out; omega)
        clear hD6 hb6 hd hg hm NW HR5 hg5l
        go_wp2_with fail
        go_loopw [47] (fun u wr => S1Rel w p g5 d g m L1.length u wr) (fun u _ => L1.length - (intOf u).toNat)
        case atStart => exact J0.out
        case round =>
          obtain ⟨wo, rfl⟩ : ∃ wo : World, wo = wr := ⟨_, rfl⟩
          obtain ⟨j, n0, x, rfl, hj, hn0, hx, hD, hrow, hB⟩ := hrel
          have HX := Lib.hid hx
          have HD := Lib.hid hD
          have HROW := Lib.hid hrow
          have HB := Lib.hid hB
          clear hx hD hrow hB J0
          by_cases hjl : j < L1.length
          · have hji : (j : Int) < (L1.length : Int) := by omega
            obtain ⟨a, rfl, hcell, hgood⟩ := (HO1.out.below HB.out (Nat.le_refl _)).at hjl
            obtain ⟨o, ho⟩ : ∃ o, o = L1.getD j default := ⟨_, rfl⟩
            rw [← ho] at hcell hgood
            obtain ⟨w7, hw7⟩ : ∃ w7, w7 = wo.alloc (.cells o.cells.toArray 59) := ⟨_, rfl⟩
            have hr7 := heap_alloc_new wo (.cells o.cells.toArray 59)
            rw [← hw7] at hr7
            obtain ⟨q, hq⟩ : ∃ q, q = wo.heap.size := ⟨_, rfl⟩
            rw [← hq] at hr7
            have q1 : w7.cell? ⟨q, 1, none⟩ = some (.int .i64 o.n) := by rw [cell_of_row w7 q 1 _ _ _ hr7]; rfl
            have q5 : w7.cell? ⟨q, 5, none⟩ = some (.slice o.ao o.data.length o.cap) := by rw [cell_of_row w7 q 5 _ _ _ hr7]; rfl
            have f7 : Below wo.heap.size wo w7 := by rw [hw7]; exact (Below.refl _ _).alloc (Nat.le_refl _) _
            have HW := Lib.hid hw7
            have HC := Lib.hid hcell
            have HZ := Lib.hid (Try.opSize o)
            have HZ2 := Lib.hid (show (Try.prog.info? 59).map (·.size) = some o.cells.toArray.size by rw [List.size_toArray]; exact Try.opSize o)
            have HO1' := Lib.hid o.cells_one
            have HQ := Lib.hid hq
            have D4 := Lib.hid (HD.out.below f7 (Nat.le_refl _))
            have R4 := Lib.hid ((f7.block g5 (lt_of_row HROW.out)).trans HROW.out)
            have B4 := Lib.hid (HB.out.trans (f7.mono HB.out.size))
            have G4 := Lib.hid (hgood.below f7 (Nat.le_refl _))
            have NQ := Lib.hid (show ¬ own3 d g m q from fun h => by have := h.elim (fun h => h ▸ HD.out.dlt) (fun h => h.elim (fun h => h ▸ HD.out.glt) (fun h => h ▸ HD.out.mlt)); omega)
            have SL := Lib.hid (show Sl w7.drew (.slice o.ao o.data.length o.cap) o.data from G4.out.data)
            have KP := Lib.hid (fun (W : World) (h : W.heap[q]? = w7.heap[q]?) => (show W.cell? ⟨q, 1, none⟩ = some (.int .i64 o.n) ∧ W.cell? ⟨q, 5, none⟩ = some (.slice o.ao o.data.length o.cap) from ⟨(World.cell?_of_block (a := ⟨q, 1, none⟩) h).trans q1, (World.cell?_of_block (a := ⟨q, 5, none⟩) h).trans q5⟩))
            have QL := Lib.hid (show q < w7.heap.size from World.block_lt_of_cell? w7 ⟨q, 1, none⟩ q1)
            clear hw7 hr7 hcell hgood ho hq f7
            go_wp2_with (first | (with_reducible show wpList _ _ _ _ _ _; refine wpList_load_all rfl 59 (.tmp 49) rfl (a.add (j * 7)) rfl o.cells _ HC.out Try.underlying59 rfl HZ.out ?_) | (with_reducible show wpList _ _ _ _ _ _; refine wpList_store_new rfl 59 (.tmp 10) (.tmp 50) rfl 59 #[.int .i64 0, .int .i64 0, .int .i64 0, .int .u8 0, .bool false, .slice none 0 0, .slice none 0 0] o.cells.toArray rfl rfl HZ2.out rfl HO1'.out ?_; rw [← HW.out]; rw [← HQ.out]))
            have WRA := Lib.hid (fun (W : World) (k : Nat) (hW : Below w7.heap.size w7 W) (hk : w7.heap.size ≤ k) (hr : W.heap[k]? = some (.cells (bvs (pad o.data)).toArray 5 (0, 0))) =>
              write_own (D4.out.below hW (Nat.le_refl _)) (by unfold maxLen; omega) o.n G4.out.n ⟨k, rfl, hr, pad_length _, fun h => by have := h.elim (fun h => h ▸ D4.out.dlt) (fun h => h.elim (fun h => h ▸ D4.out.glt) (fun h => h ▸ D4.out.mlt)); omega⟩)
            go_region_held3 (fun w' => w'.cell? ⟨q, 1, none⟩ = some (.int .i64 o.n) ∧ w'.cell? ⟨q, 5, none⟩ = some (.slice o.ao o.data.length o.cap))
              (first
                | exact KP.out _ rfl
                | exact KP.out _ K5.out
                | exact KP.out _ K6.out)
              (first
                | (go_at_call 33; (with_reducible refine (sector_any SL.out).mono ?_); rintro e w8 ⟨v, rfl, ⟨k, rfl, hk5, hr5, hl5⟩, hb8⟩; have K5 := Lib.hid (hb8.block q QL.out); have B45 := Lib.hid ((Below.refl w7.heap.size w7).drew.trans hb8); have HR5 := Lib.hid hr5; have K55 : w7.heap.size ≤ k := hk5)
                | (go_at_call 32; (with_reducible refine (WRA.out w8 k B45.out K55 HR5.out).mono ?_); rintro e w9 ⟨rfl, hD9, hF9⟩; have K6 := Lib.hid ((hF9.block q (Nat.lt_of_lt_of_le QL.out B45.out.size) NQ.out).trans K5.out); have HD9 := Lib.hid hD9; have HF9 := Lib.hid hF9; clear hD9 hF9 hr5 hb8))
            all_goals
              have RL := Lib.hid (show S1Rel w p g5 d g m L1.length (.int .i64 ((j + 1 : Nat) : Int)) w9 from
                ⟨j + 1, n0 + 1, _, rfl, by omega, by omega, HX.out.writeAny o.n (pad_length _), HD9.out, (HF9.out.block g5 (Nat.lt_of_lt_of_le (lt_of_row R4.out) B45.out.size) (fun e => (OWN.out g5 e).2 rfl)).trans ((B45.out.block g5 (lt_of_row R4.out)).trans R4.out), (B4.out.trans (B45.out.mono B4.out.size)).trans (HF9.out.below (fun i _ h => (OWN.out i h).1) (B4.out.trans (B45.out.mono B4.out.size)).size)⟩)
              clear HD9 HF9 WRA KP SL
              go_wp2_with fail
              exact ⟨RL.out, by simp [intOf]; omega⟩
          · obtain rfl : j = L1.length := by omega
            have FL := Lib.hid (flush_any HD.out HX.out.inside)
            rw [HX.out.flush.2.1] at FL
            go_wp2_with fail
            refine FL.out.mono ?_
            rintro e w7 ⟨rfl, hD7, hF7⟩
            have HD7 := Lib.hid hD7
            have HX7 := Lib.hid HX.out.flush.1
            have R7 := Lib.hid ((hF7.block g5 (lt_of_row HROW.out) (fun e => (OWN.out g5 e).2 rfl)).trans HROW.out)
            have B7 := Lib.hid (HB.out.trans (hF7.below (fun i _ h => (OWN.out i h).1) HB.out.size))
            clear hD7 hF7 FL HD HROW HB
            go_wp2_with fail
            obtain ⟨ga, hga⟩ : ∃ ga, ga = w7.heap.size := ⟨_, rfl⟩
            obtain ⟨w8, hw8⟩ : ∃ w8, w8 = w7.alloc (.cells #[.string { data := #[] }, .string { data := #[] }, .string { data := #[] }, .string { data := #[] }] 65) := ⟨_, rfl⟩
            have f8 : Below w7.heap.size w7 w8 := by rw [hw8]; exact (Below.refl _ _).alloc (Nat.le_refl _) _
            have hr8 := heap_alloc_new w7 (.cells #[.string { data := #[] }, .string { data := #[] }, .string { data := #[] }, .string { data := #[] }] 65)
            rw [← hw8, ← hga] at hr8
            have NS := Lib.hid (flush_none HX.out)
            obtain ⟨x1, hx1⟩ : ∃ x1, x1 = x.flush := ⟨_, rfl⟩
            rw [← hx1] at HD7 HX7 NS
            have K2 := Lib.hid (show S2Rel w p g5 ga d g m n0 x1 (.int .i64 0) w8 from ⟨0, [[], [], [], []], rfl, Nat.zero_le _, rfl, fun i hi => absurd hi (Nat.not_lt_zero i), hr8, HD7.out.below f8 (Nat.le_refl _), (f8.block g5 (lt_of_row R7.out)).trans R7.out, B7.out.trans (f8.mono B7.out.size)⟩)
            have HGA := Lib.hid (show ¬ own3 d g m ga ∧ ga ≠ g5 ∧ w.heap.size ≤ ga from ⟨fun e => by have h1 := HD7.out.dlt; have h2 := HD7.out.glt; have h3 := HD7.out.mlt; rcases e with e | e | e <;> omega, fun e => by have := lt_of_row R7.out; omega, by have := B7.out.size; omega⟩)
            have HX8 := Lib.hid hx1
            clear hr8 f8 hx1
            rw [← hga, ← hw8]
            clear hga hw8 HX
            go_loopw [62] (fun u wr => S2Rel w p g5 ga d g m n0 x1 u wr) (fun u _ => 4 - (intOf u).toNat)
            case atStart => exact K2.out
            case round =>
              obtain ⟨wp, rfl⟩ : ∃ wo : World, wo = wr := ⟨_, rfl⟩
              obtain ⟨i, ws, rfl, hi4, hwl, hws, hrow, hD, h5, hB⟩ := hrel
              by_cases hil : i < 4
              · have hii : (i : Int) < 4 := by omega
                have RD := Lib.hid (read_any hD (i : Int) (WalkArith.wf_i64 (by omega)))
                have hrn := read_none HX7.out NS.out hil
                rw [hrn] at RD
                have HROW := Lib.hid hrow
                have HD := Lib.hid hD
                have H5 := Lib.hid h5
                have HB := Lib.hid hB
                have HWS := Lib.hid hws
                have HWL := Lib.hid hwl
                obtain ⟨v, hv⟩ : ∃ v, v = x1.s.getD i [] := ⟨_, rfl⟩
                have hvl : v.length = 128 := by have := (HX7.out.read hil).2; rw [hrn] at this; rw [hv]; exact this
                rw [← hv] at RD
                have HV := Lib.hid hv
                clear hrow hD h5 hB hws hwl hrn hv K2
                go_wp2_with fail
                refine RD.out.mono ?_
                rintro e wq ⟨va, rfl, ha, hbq⟩
                unfold Ans at ha
                rw [if_pos rfl] at ha
                obtain ⟨k4, rfl, hk4, hr4, _⟩ := ha
                dsimp only at hr4
                have cv := (sl_row (n := 128) (c := 128) hr4 hvl).convert.1
                have hrq := (hbq.block ga (lt_of_row HROW.out)).trans HROW.out
                obtain ⟨s1, s2⟩ := strs_cell (j := i) hrq (by rw [HWL.out]; exact hil)
                have hst := strs_set (j := i) hrq v
                have hbq2 := hbq
                have fq : Frm (fun y => y = ga) wq (wq.setCell ⟨ga, i, none⟩ (.string (str v))) := (Frm.refl (fun y => y = ga) wq).setCell (p := ⟨ga, i, none⟩) (.inl rfl) _
                have RL := Lib.hid (show S2Rel w p g5 ga d g m n0 x1 (.int .i64 ((i + 1 : Nat) : Int)) (wq.setCell ⟨ga, i, none⟩ (.string (str v))) from
                  ⟨i + 1, ws.set i v, rfl, by omega, by rw [List.length_set]; exact HWL.out, set_agree HWL.out HWS.out hil HV.out, hst,
                    (HD.out.below hbq (Nat.le_refl _)).frame fq (fun e => HGA.out.1 (.inl e.symm)) (fun e => HGA.out.1 (.inr (.inl e.symm))) (fun e => HGA.out.1 (.inr (.inr e.symm))),
                    (fq.block g5 (by have := lt_of_row H5.out; have := hbq.size; omega) (fun e => HGA.out.2.1 e.symm)).trans ((hbq.block g5 (lt_of_row H5.out)).trans H5.out),
                    (HB.out.trans (hbq.mono HB.out.size)).setCell (p := ⟨ga, i, none⟩) HGA.out.2.2 _⟩)
                clear hr4 hk4 hrq hst hbq hbq2 fq RD
                go_wp2_with fail
                exact ⟨RL.out, by simp [intOf]; omega⟩
              · obtain rfl : i = 4 := by omega
                have ews := agree_all hwl HX7.out.n hws
                subst ews
                rw [show ((4 : Nat) : Int) = 4 from rfl]
                have HROW := Lib.hid hrow
                have HD := Lib.hid hD
                have H5 := Lib.hid h5
                have HB := Lib.hid hB
                clear hrow hD h5 hB hws K2 hwl
                go_wp2_with fail
                obtain ⟨gl, hgl⟩ : ∃ gl, gl = wp.heap.size := ⟨_, rfl⟩
                obtain ⟨wt, hwt⟩ : ∃ wt, wt = wp.alloc (.cells #[.string { data := #[] }, .string { data := #[] }, .string { data := #[] }, .string { data := #[] }] 65) := ⟨_, rfl⟩
                have ft : Below wp.heap.size wp wt := by rw [hwt]; exact (Below.refl _ _).alloc (Nat.le_refl _) _
                have hrt := heap_alloc_new wp (.cells #[.string { data := #[] }, .string { data := #[] }, .string { data := #[] }, .string { data := #[] }] 65)
                rw [← hwt, ← hgl] at hrt
                have K3 := Lib.hid (show S3Rel w p g5 ga gl d g m x1.s L2.length (.int .i64 0) wt from ⟨0, n0, x1, [[], [], [], []], rfl, Nat.zero_le _, by omega, HX7.out, rfl, rfl, fun i hi => by
                    rw [NS.out]
                    simp only [lastS, Option.getD]
                    match i, hi with
                    | 0, _ => rfl
                    | 1, _ => rfl
                    | 2, _ => rfl
                    | 3, _ => rfl, hrt, (ft.block ga (lt_of_row HROW.out)).trans HROW.out, HD.out.below ft (Nat.le_refl _), (ft.block g5 (lt_of_row H5.out)).trans H5.out, HB.out.trans (ft.mono HB.out.size)⟩)
                have HGL := Lib.hid (show ¬ own3 d g m gl ∧ gl ≠ g5 ∧ gl ≠ ga ∧ w.heap.size ≤ gl from ⟨fun e => by have h1 := HD.out.dlt; have h2 := HD.out.glt; have h3 := HD.out.mlt; rcases e with e | e | e <;> omega, fun e => by have := lt_of_row H5.out; omega, fun e => by have := lt_of_row HROW.out; omega, by have := HB.out.size; omega⟩)
                have HS1 := Lib.hid HX7.out.n
                have HL1 := Lib.hid HX7.out.len
                obtain ⟨s1, hs1⟩ : ∃ s1, s1 = x1.s := ⟨_, rfl⟩
                rw [← hs1] at K3 HS1 HL1
                clear hrt ft hs1 HX8
                rw [← hgl, ← hwt]
                clear hgl hwt HROW HD H5 HB HX7 NS
                go_wp2_with fail
                go_loopw [78] (fun u wr => S3Rel w p g5 ga gl d g m s1 L2.length u wr) (fun u _ => L2.length - (intOf u).toNat)
                case atStart => exact K3.out
                case round =>
                  obtain ⟨wo, rfl⟩ : ∃ wo : World, wo = wr := ⟨_, rfl⟩
                  obtain ⟨j, n0, x, ls, rfl, hj, hn0, hx, hxs, hll, hls, hrl, hra, hD, h5, hB⟩ := hrel
                  have HX := Lib.hid hx
                  have HXS := Lib.hid hxs
                  have HLL := Lib.hid hll
                  have HLS := Lib.hid hls
                  have HRL := Lib.hid hrl
                  have HRA := Lib.hid hra
                  have HD := Lib.hid hD
                  have H5 := Lib.hid h5
                  have HB := Lib.hid hB
                  clear hx hxs hll hls hrl hra hD h5 hB K3
                  by_cases hjl : j < L2.length
                  · have hji : (j : Int) < (L2.length : Int) := by omega
                    obtain ⟨a, rfl, hcell, hgood⟩ := (HO2.out.below HB.out (Nat.le_refl _)).at hjl
                    obtain ⟨o, ho⟩ : ∃ o, o = L2.getD j default := ⟨_, rfl⟩
                    rw [← ho] at hcell hgood
                    obtain ⟨w7, hw7⟩ : ∃ w7, w7 = wo.alloc (.cells o.cells.toArray 59) := ⟨_, rfl⟩
                    have hr7 := heap_alloc_new wo (.cells o.cells.toArray 59)
                    rw [← hw7] at hr7
                    obtain ⟨q, hq⟩ : ∃ q, q = wo.heap.size := ⟨_, rfl⟩
                    rw [← hq] at hr7
                    have q1 : w7.cell? ⟨q, 1, none⟩ = some (.int .i64 o.n) := by rw [cell_of_row w7 q 1 _ _ _ hr7]; rfl
                    have q5 : w7.cell? ⟨q, 5, none⟩ = some (.slice o.ao o.data.length o.cap) := by rw [cell_of_row w7 q 5 _ _ _ hr7]; rfl
                    have f7 : Below wo.heap.size wo w7 := by rw [hw7]; exact (Below.refl _ _).alloc (Nat.le_refl _) _
                    have HW := Lib.hid hw7
                    have HC := Lib.hid hcell
                    have HZ := Lib.hid (Try.opSize o)
                    have HZ2 := Lib.hid (show (Try.prog.info? 59).map (·.size) = some o.cells.toArray.size by rw [List.size_toArray]; exact Try.opSize o)
                    have HO1' := Lib.hid o.cells_one
                    have HQ := Lib.hid hq
                    have D4 := Lib.hid (HD.out.below f7 (Nat.le_refl _))
                    have R4 := Lib.hid ((f7.block g5 (lt_of_row H5.out)).trans H5.out)
                    have RL4 := Lib.hid ((f7.block gl (lt_of_row HRL.out)).trans HRL.out)
                    have RA4 := Lib.hid ((f7.block ga (lt_of_row HRA.out)).trans HRA.out)
                    have B4 := Lib.hid (HB.out.trans (f7.mono HB.out.size))
                    have G4 := Lib.hid (hgood.below f7 (Nat.le_refl _))
                    have NQ := Lib.hid (show ¬ own3 d g m q from fun h => by have := h.elim (fun h => h ▸ HD.out.dlt) (fun h => h.elim (fun h => h ▸ HD.out.glt) (fun h => h ▸ HD.out.mlt)); omega)
                    have SL := Lib.hid (show Sl w7.drew (.slice o.ao o.data.length o.cap) o.data from G4.out.data)
                    have KP := Lib.hid (fun (W : World) (h : W.heap[q]? = w7.heap[q]?) => (show W.cell? ⟨q, 1, none⟩ = some (.int .i64 o.n) ∧ W.cell? ⟨q, 5, none⟩ = some (.slice o.ao o.data.length o.cap) from ⟨(World.cell?_of_block (a := ⟨q, 1, none⟩) h).trans q1, (World.cell?_of_block (a := ⟨q, 5, none⟩) h).trans q5⟩))
                    have QL := Lib.hid (show q < w7.heap.size from World.block_lt_of_cell? w7 ⟨q, 1, none⟩ q1)
                    have HOO := Lib.hid ho
                    clear hw7 hr7 hcell hgood ho hq f7
                    go_wp2_with (first | (with_reducible show wpList _ _ _ _ _ _; refine wpList_load_all rfl 59 (.tmp 80) rfl (a.add (j * 7)) rfl o.cells _ HC.out Try.underlying59 rfl HZ.out ?_) | (with_reducible show wpList _ _ _ _ _ _; refine wpList_store_new rfl 59 (.tmp 17) (.tmp 81) rfl 59 #[.int .i64 0, .int .i64 0, .int .i64 0, .int .u8 0, .bool false, .slice none 0 0, .slice none 0 0] o.cells.toArray rfl rfl HZ2.out rfl HO1'.out ?_; rw [← HW.out]; rw [← HQ.out]))
                    have WRA := Lib.hid (fun (W : World) (k : Nat) (hW : Below w7.heap.size w7 W) (hk : w7.heap.size ≤ k) (hr : W.heap[k]? = some (.cells (bvs (pad o.data)).toArray 5 (0, 0))) =>
                      write_own (D4.out.below hW (Nat.le_refl _)) (by unfold maxLen; omega) o.n G4.out.n ⟨k, rfl, hr, pad_length _, fun h => by have := h.elim (fun h => h ▸ D4.out.dlt) (fun h => h.elim (fun h => h ▸ D4.out.glt) (fun h => h ▸ D4.out.mlt)); omega⟩)
                    by_cases hin : 0 ≤ o.n ∧ o.n < 4
                    · have hcode := HX.out.wcodeAny o.n
                      rw [if_pos (show 0 ≤ o.n ∧ o.n < ((4 : Nat) : Int) from hin)] at hcode
                      rw [hcode] at WRA
                      clear hcode
                      go_region_held3 (fun w' => w'.cell? ⟨q, 1, none⟩ = some (.int .i64 o.n) ∧ w'.cell? ⟨q, 5, none⟩ = some (.slice o.ao o.data.length o.cap))
                        (first
                          | exact KP.out _ rfl
                          | exact KP.out _ K5.out
                          | exact KP.out _ K6.out)
                        (first
                          | (go_at_call 33; (with_reducible refine (sector_any SL.out).mono ?_); rintro e w8 ⟨v, rfl, ⟨k, rfl, hk5, hr5, hl5⟩, hb8⟩; have K5 := Lib.hid (hb8.block q QL.out); have B45 := Lib.hid ((Below.refl w7.heap.size w7).drew.trans hb8); have HR5 := Lib.hid hr5; have K55 : w7.heap.size ≤ k := hk5)
                          | (go_at_call 32; (with_reducible refine (WRA.out w8 k B45.out K55 HR5.out).mono ?_); rintro e w9 ⟨rfl, hD9, hF9⟩; have K6 := Lib.hid ((hF9.block q (Nat.lt_of_lt_of_le QL.out B45.out.size) NQ.out).trans K5.out); have HD9 := Lib.hid hD9; have HF9 := Lib.hid hF9; clear hD9 hF9 hr5 hb8))
                      all_goals
                        have B9 := Lib.hid ((B4.out.trans (B45.out.mono B4.out.size)).trans (HF9.out.below (fun i _ h => (OWN.out i h).1) (B4.out.trans (B45.out.mono B4.out.size)).size))
                        have keep : ∀ y (z : Obj), w7.heap[y]? = some z → ¬ own3 d g m y → w9.heap[y]? = some z := fun y z hy hn => (HF9.out.block y (Nat.lt_of_lt_of_le (lt_of_row hy) B45.out.size) hn).trans ((B45.out.block y (lt_of_row hy)).trans hy)
                        have G9 := ((HO2.out.below B9.out (Nat.le_refl _)).at hjl)
                        obtain ⟨a9', ea9, _, hg9⟩ := G9
                        clear ea9
                        rw [← HOO.out] at hg9
                        obtain ⟨nk, hnk⟩ : ∃ nk : Nat, o.n = (nk : Int) := ⟨o.n.toNat, by omega⟩
                        have hnk4 : nk < 4 := by omega
                        have hnk4i : (nk : Int) < 4 := by omega
                        have hql9 : q < w9.heap.size := Nat.lt_of_lt_of_le (Nat.lt_of_lt_of_le QL.out B45.out.size) HF9.out.size
                        have SL2 := Lib.hid (show Sl w9.drew (.slice o.ao o.data.length o.cap) o.data from hg9.data)
                        have KP2 := Lib.hid (fun (W : World) (h : W.heap[q]? = w9.heap[q]?) => (show W.cell? ⟨q, 1, none⟩ = some (.int .i64 (nk : Int)) ∧ W.cell? ⟨q, 5, none⟩ = some (.slice o.ao o.data.length o.cap) from by
                          rw [← hnk]
                          exact KP.out W (h.trans K6.out)))
                        have HD10 := HD9.out
                        rw [hnk] at HD10
                        have HD9' := Lib.hid HD10
                        have L9 := Lib.hid (keep gl _ RL4.out HGL.out.1)
                        have A9 := Lib.hid (keep ga _ RA4.out HGA.out.1)
                        have R9 := Lib.hid (keep g5 _ R4.out (fun e => (OWN.out g5 e).2 rfl))
                        have QL9 := Lib.hid hql9
                        have HNK := Lib.hid hnk
                        have QNE := Lib.hid (show q ≠ gl from fun e => by have := lt_of_row HRL.out; have := HQ.out; omega)
                        clear HD10 keep hg9 hql9 hnk
                        go_wp2_with fail
                        have q1d : w9.drew.cell? ⟨q, 1, none⟩ = some (.int .i64 (nk : Int)) := (KP2.out w9.drew rfl).1
                        have q5d : w9.drew.cell? ⟨q, 5, none⟩ = some (.slice o.ao o.data.length o.cap) := (KP2.out w9.drew rfl).2
                        go_region_with (first
                          | (go_at_call 33; (with_reducible refine (sector_any SL2.out).mono ?_); rintro e wb ⟨v2, rfl, ⟨k2, rfl, hk2, hr2, _⟩, hbb⟩; have K7 := Lib.hid (hbb.block q QL9.out); have q1b := (KP2.out wb K7.out).1; have cv := (sl_row (n := 128) (c := 128) hr2 (pad_length _)).convert.1; have BB := Lib.hid ((Below.refl w9.heap.size w9).drew.trans hbb); obtain ⟨s1', s2'⟩ := strs_cell (j := nk) ((BB.out.block gl (lt_of_row L9.out)).trans L9.out) (by rw [HLL.out]; exact hnk4); clear hbb hr2))
                        all_goals
                          have fb : Frm (fun y => y = gl) wb (wb.setCell ⟨gl, nk, none⟩ (.string (str (pad o.data)))) := (Frm.refl (fun y => y = gl) wb).setCell (p := ⟨gl, nk, none⟩) (.inl rfl) _
                          have keep : ∀ y (z : Obj), w9.heap[y]? = some z → y ≠ gl → (wb.setCell ⟨gl, nk, none⟩ (.string (str (pad o.data)))).heap[y]? = some z := fun y z hy hn => (fb.block y (Nat.lt_of_lt_of_le (lt_of_row hy) BB.out.size) hn).trans ((BB.out.block y (lt_of_row hy)).trans hy)
                          have RL := Lib.hid (show S3Rel w p g5 ga gl d g m s1 L2.length (.int .i64 ((j + 1 : Nat) : Int)) (wb.setCell ⟨gl, nk, none⟩ (.string (str (pad o.data)))) from
                            ⟨j + 1, n0 + 1, _, ls.set nk (pad o.data), rfl, by omega, by omega, HX.out.writeAny (nk : Int) (pad_length _), by rw [write_s HX.out _ (pad_length _)]; exact HXS.out, by rw [List.length_set]; exact HLL.out, fun i hi => by
                                rw [lastS_upd HX.out hnk4 (pad_length _) i]
                                by_cases e : i = nk
                                · subst e
                                  rw [if_pos rfl]
                                  exact getD_set_self (by rw [HLL.out]; exact hi)
                                · rw [if_neg e, getD_set_ne (fun h => e h.symm)]
                                  exact HLS.out i hi,
                              strs_set ((BB.out.block gl (lt_of_row L9.out)).trans L9.out) _, keep ga _ A9.out (fun e => HGL.out.2.2.1 e.symm),
                              (HD9'.out.below BB.out (Nat.le_refl _)).frame fb (fun e => HGL.out.1 (.inl e.symm)) (fun e => HGL.out.1 (.inr (.inl e.symm))) (fun e => HGL.out.1 (.inr (.inr e.symm))),
                              keep g5 _ R9.out (fun e => HGL.out.2.1 e.symm), (B9.out.trans (BB.out.mono B9.out.size)).setCell (p := ⟨gl, nk, none⟩) HGL.out.2.2.2 _⟩)
                          clear fb keep HD9' KP2 SL2 cv
                          go_wp2_with fail
                          exact ⟨by first | exact RL.out | ((repeat apply Exists.intro); exact ⟨RL.out, rfl⟩), by simp [intOf]; omega⟩
                    · have hcode := HX.out.wcodeAny o.n
                      rw [if_neg (show ¬ (0 ≤ o.n ∧ o.n < ((4 : Nat) : Int)) from hin)] at hcode
                      rw [hcode] at WRA
                      clear hcode
                      go_region_held3 (fun w' => w'.cell? ⟨q, 1, none⟩ = some (.int .i64 o.n) ∧ w'.cell? ⟨q, 5, none⟩ = some (.slice o.ao o.data.length o.cap))
                        (first
                          | exact KP.out _ rfl
                          | exact KP.out _ K5.out
                          | exact KP.out _ K6.out)
                        (first
                          | (go_at_call 33; (with_reducible refine (sector_any SL.out).mono ?_); rintro e w8 ⟨v, rfl, ⟨k, rfl, hk5, hr5, hl5⟩, hb8⟩; have K5 := Lib.hid (hb8.block q QL.out); have B45 := Lib.hid ((Below.refl w7.heap.size w7).drew.trans hb8); have HR5 := Lib.hid hr5; have K55 : w7.heap.size ≤ k := hk5)
                          | (go_at_call 32; (with_reducible refine (WRA.out w8 k B45.out K55 HR5.out).mono ?_); rintro e w9 ⟨rfl, hD9, hF9⟩; have K6 := Lib.hid ((hF9.block q (Nat.lt_of_lt_of_le QL.out B45.out.size) NQ.out).trans K5.out); have HD9 := Lib.hid hD9; have HF9 := Lib.hid hF9; clear hD9 hF9 hr5 hb8))
                      all_goals
                        have hD9 := HD9.out
                        rw [write_out HX.out (show ¬ (0 ≤ o.n ∧ o.n < ((4 : Nat) : Int)) from hin)] at hD9
                        have keep : ∀ y (z : Obj), w7.heap[y]? = some z → ¬ own3 d g m y → w9.heap[y]? = some z := fun y z hy hn => (HF9.out.block y (Nat.lt_of_lt_of_le (lt_of_row hy) B45.out.size) hn).trans ((B45.out.block y (lt_of_row hy)).trans hy)
                        have RL := Lib.hid (show S3Rel w p g5 ga gl d g m s1 L2.length (.int .i64 ((j + 1 : Nat) : Int)) w9 from
                          ⟨j + 1, n0 + 1, x, ls, rfl, by omega, by omega, HX.out, HXS.out, HLL.out, HLS.out, keep gl _ RL4.out HGL.out.1, keep ga _ RA4.out HGA.out.1, hD9, keep g5 _ R4.out (fun e => (OWN.out g5 e).2 rfl), (B4.out.trans (B45.out.mono B4.out.size)).trans (HF9.out.below (fun i _ h => (OWN.out i h).1) (B4.out.trans (B45.out.mono B4.out.size)).size)⟩)
                        clear hD9 keep HD9 HF9 WRA KP SL
                        go_wp2_with fail
                        exact ⟨RL.out, by simp [intOf]; omega⟩
                  · obtain rfl : j = L2.length := by omega
                    have HX4 := HX.out
                    have CR := Lib.hid (crash_any HD.out HX4.inside p.ko p.kcap p.keep (by omega) (fun jj hjj => by
                      obtain ⟨a9, e1, e2, e3⟩ := HKEEP.out jj hjj
                      refine ⟨a9, e1, ?_, fun h => ?_⟩
                      · rw [HB.out.cell (World.block_lt_of_cell? w _ e2)]
                        exact e2
                      · have h1 := World.block_lt_of_cell? w _ e2
                        have h2 := (OWN.out _ h).1
                        omega) HKW.out p.n p.at_ HP.out.n HP.out.at_)
                    obtain ⟨c1, c2, c3⟩ := crash_left HX4 p.keep p.n p.at_
                    obtain ⟨y, hy⟩ : ∃ y, y = (x.crash p.keep p.n p.at_).up := ⟨_, rfl⟩
                    rw [← hy] at c1 c2 c3
                    have HC1 := Lib.hid c1
                    have HC2 := Lib.hid c2
                    have HC3 := Lib.hid c3
                    have HY := Lib.hid hy
                    have cc : ∀ jj v, p.cells[jj]? = some v → wo.cell? ⟨g5, jj, none⟩ = some v := fun jj v hv => by
                      rw [cell_of_row wo g5 jj _ _ _ H5.out]
                      simpa using hv
                    have u1 := cc 1 _ rfl
                    have u2 := cc 2 _ rfl
                    have u6 := cc 6 _ rfl
                    clear HX4 c1 c2 c3 hy cc
                    go_wp2_with fail
                    refine CR.out.mono ?_
                    rintro e w7 ⟨rfl, hD7, hF7⟩
                    have keep7 : ∀ yy (z : Obj), wo.heap[yy]? = some z → ¬ own3 d g m yy → w7.heap[yy]? = some z := fun yy z hyy hn => (hF7.block yy (lt_of_row hyy) hn).trans hyy
                    have L7 := Lib.hid (keep7 gl _ HRL.out HGL.out.1)
                    have A7 := Lib.hid (keep7 ga _ HRA.out HGA.out.1)
                    have R7 := Lib.hid (keep7 g5 _ H5.out (fun e => (OWN.out g5 e).2 rfl))
                    have B7 := Lib.hid (HB.out.trans (hF7.below (fun i _ h => (OWN.out i h).1) HB.out.size))
                    have UP := Lib.hid (up_any hD7)
                    rw [← HY.out] at UP
                    clear hD7 hF7 keep7 CR u1 u2 u6 HRL HRA H5 HB HD
                    go_wp2_with fail
                    refine UP.out.mono ?_
                    rintro e w8 ⟨rfl, hD8, hF8⟩
                    have keep8 : ∀ yy (z : Obj), w7.heap[yy]? = some z → ¬ own3 d g m yy → w8.heap[yy]? = some z := fun yy z hyy hn => (hF8.block yy (lt_of_row hyy) hn).trans hyy
                    have K4 := Lib.hid (show S4Rel w p g5 ga gl d g m n0 s1 ls y (.int .i64 0) w8 from ⟨0, rfl, Nat.zero_le _, keep8 gl _ L7.out HGL.out.1, keep8 ga _ A7.out HGA.out.1, hD8, keep8 g5 _ R7.out (fun e => (OWN.out g5 e).2 rfl), B7.out.trans (hF8.below (fun i _ h => (OWN.out i h).1) B7.out.size)⟩)
                    clear hD8 hF8 keep8 UP L7 A7 R7 B7
                    go_wp2_with fail
                    go_loopw [108] (fun u wr => S4Rel w p g5 ga gl d g m n0 s1 ls y u wr) (fun u _ => 4 - (intOf u).toNat)
                    case atStart => exact K4.out
                    case round =>
                      obtain ⟨wp, rfl⟩ : ∃ wo : World, wo = wr := ⟨_, rfl⟩
                      obtain ⟨i, rfl, hi4, hrl, hra, hD, h5, hB⟩ := hrel
                      have HRL := Lib.hid hrl
                      have HRA := Lib.hid hra
                      have HD := Lib.hid hD
                      have H5 := Lib.hid h5
                      have HB := Lib.hid hB
                      clear hrl hra hD h5 hB K4
                      by_cases hil : i < 4
                      · have hii : (i : Int) < 4 := by omega
                        obtain ⟨v, hv, hcase⟩ := HC3.out i hil
                        have RD := Lib.hid (read_any HD.out (i : Int) (WalkArith.wf_i64 (by omega)))
                        rw [hv] at RD
                        have hvl : v.length = 128 := by have := (HC1.out.read hil).2; rw [hv] at this; exact this
                        have HVL := Lib.hid hvl
                        have HCASE := Lib.hid hcase
                        clear hvl hcase hv
                        go_wp2_with fail
                        refine RD.out.mono ?_
                        rintro e wq ⟨va, rfl, ha, hbq⟩
                        unfold Ans at ha
                        rw [if_pos rfl] at ha
                        obtain ⟨k4, rfl, hk4, hr4, _⟩ := ha
                        dsimp only at hr4
                        have cv := (sl_row (n := 128) (c := 128) hr4 HVL.out).convert.1
                        have LQ := Lib.hid ((hbq.block gl (lt_of_row HRL.out)).trans HRL.out)
                        have AQ := Lib.hid ((hbq.block ga (lt_of_row HRA.out)).trans HRA.out)
                        have RQ := Lib.hid ((hbq.block g5 (lt_of_row H5.out)).trans H5.out)
                        obtain ⟨t1, _⟩ := strs_cell (j := i) AQ.out (by rw [HS1.out]; exact hil)
                        obtain ⟨t2, _⟩ := strs_cell (j := i) LQ.out (by rw [HLL.out]; exact hil)
                        have cc : ∀ jj v, p.cells[jj]? = some v → wq.cell? ⟨g5, jj, none⟩ = some v := fun jj v hv => by
                          rw [cell_of_row wq g5 jj _ _ _ RQ.out]
                          simpa using hv
                        have u1 := cc 1 _ rfl
                        have u2 := cc 2 _ rfl
                        have BQ := Lib.hid (HB.out.trans (hbq.mono HB.out.size))
                        have RL := Lib.hid (show S4Rel w p g5 ga gl d g m n0 s1 ls y (.int .i64 ((i + 1 : Nat) : Int)) wq from ⟨i + 1, rfl, by omega, LQ.out, AQ.out, HD.out.below hbq (Nat.le_refl _), RQ.out, BQ.out⟩)
                        clear hr4 hk4 cc hbq RD
                        obtain ⟨sv, hsv⟩ : ∃ sv, sv = s1.getD i [] := ⟨_, rfl⟩
                        rw [← hsv] at t1
                        have HSV := Lib.hid hsv
                        by_cases e1 : v = sv
                        · rw [← e1] at t1
                          clear hsv e1
                          go_wp2_with fail
                          all_goals exact ⟨RL.out, by simp [intOf]; omega⟩
                        · obtain ⟨l, hl, hl2⟩ : ∃ l, x.S (i : Int) = some l ∧ (v = l ∨ (p.n = (i : Int) ∧ v = l.take (min (max p.at_ 0) 128).toNat ++ sv.drop (min (max p.at_ 0) 128).toNat)) := by
                            rcases HCASE.out with h | h
                            · rw [HXS.out, ← hsv] at h; exact absurd h e1
                            · rw [HXS.out, ← hsv] at h; exact h
                          have hll2 : ls.getD i [] = l := by rw [HLS.out i hil, hl]; rfl
                          have hl128 := (HX.out.wl _ _ hl).1
                          rw [hll2] at t2
                          obtain ⟨ne1, ne1b⟩ := tl_ne e1
                          obtain ⟨ne2, ne2b⟩ := tl_pos (l := l) (by omega)
                          by_cases e2 : v = l
                          · rw [← e2] at t2 ne2 ne2b
                            clear hl hl2 hll2 hl128 hsv e1 e2
                            go_wp2_with fail
                            all_goals exact ⟨RL.out, by simp [intOf]; omega⟩
                          · obtain ⟨hn, hv⟩ := hl2.resolve_left e2
                            obtain ⟨ne3, ne3b⟩ := tl_ne e2
                            obtain ⟨qq, hqq, hq128⟩ := clamp p.at_ 128
                            have hqq' : max 0 (min p.at_ 128) = (qq : Int) := hqq
                            have hq2 : (min (max p.at_ 0) 128).toNat = qq := by omega
                            rw [hq2] at hv
                            rw [hn] at u1
                            have hs128 : sv.length = 128 := by
                              rw [hsv]
                              have h5 : i < s1.length := by rw [HS1.out]; exact hil
                              exact HL1.out _ (by simp [List.getD, h5])
                            have z1 : (str l).size = 128 := by rw [str_size, hl128]
                            have z2 : (str sv).size = 128 := by rw [str_size, hs128]
                            have HV := Lib.hid hv
                            have hqi : (qq : Int) ≤ 128 := by omega
                            have hl128' := hl128
                            have hs128' := hs128
                            clear hl hl2 hll2 hl128 hsv e1 e2 hn hqq hq2 hv hs128
                            have hx1 := torn_str HV.out hl128' hs128' hq128
                            clear hl128' hs128'
                            go_wp2_with fail
                            go_quiet (fail)
                            have RL2 := Lib.hid (show S4Rel w p g5 ga gl d g m n0 s1 ls y (.int .i64 ((i + 1 : Nat) : Int)) (wq.drewN nq) from by
                              obtain ⟨j', h1, h2, h3, h4, h5, h6, h7⟩ := RL.out
                              exact ⟨j', h1, h2, h3, h4, h5.drewN nq, h6, below_drewN h7 nq⟩)
                            go_wp2_with fail
                            all_goals exact ⟨RL2.out, by simp [intOf]; omega⟩
                      · obtain rfl : i = 4 := by omega
                        rw [show ((4 : Nat) : Int) = 4 from rfl]
                        have PN := Lib.hid (pending_any HD.out (by omega))
                        go_wp2_with fail
                        refine PN.out.mono ?_
                        rintro e w9 ⟨v, ss, rfl, hps, hrow, hnil, hb9⟩
                        have es : ss = [] := by
                          cases ss with
                          | nil => rfl
                          | cons z zs => have h1 := ((hps.2 z).1 (by simp)).2; rw [HC2.out] at h1; cases h1
                        obtain rfl := hnil.2 es
                        have B9 := Lib.hid (HB.out.trans (hb9.mono HB.out.size))
                        clear hps hrow hnil hb9 es
                        go_wp2_with fail
                        go_ret
                        exact ⟨by simp, by rw [HG.out]; exact B9.out⟩
end Go.Proofs.Ytllnaocnojhlkaa.Dk
