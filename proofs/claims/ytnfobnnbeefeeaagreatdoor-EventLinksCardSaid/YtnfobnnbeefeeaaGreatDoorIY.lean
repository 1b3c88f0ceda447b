/- The chain's sum behind an event. -/
import Derived.Test.YtnfobnnbeefeeaaGreatDoorGK
import Derived.Test.YtnfobnnbeefeeaaGreatDoorGS5
import Derived.Test.YtnfobnnbeefeeaaGreatDoorGS6
namespace Go.Proofs.YtnfobnnbeefeeaaGreatDoor.Wi
open Go Go.RowKit
set_option linter.unusedVariables false
set_option linter.unusedSimpArgs false
def z32 : List UInt8 := List.replicate 32 0
def sumL (p : List UInt8) (x : Ev) : List UInt8 := if x.vE = 0 then Sm.shaL Sm.S0 Sm.K0 (p ++ x.eb) else z32
theorem sumL_len (p : List UInt8) (x : Ev) : (sumL p x).length = 32 := by
  unfold sumL
  split
  · exact Sm.shaL_length _ _ _
  · rfl
theorem bvsS (l : List UInt8) : Sm.bvs l = bvs l := rfl
theorem all_bvsS (l : List UInt8) : (bvs l).toArray.all (·.oneCell') = true := by
  rw [Array.all_eq_true_iff_forall_mem]
  intro u hu
  have hu' : u ∈ bvs l := by simpa using hu
  exact Sm.bvs_one l u hu'
theorem size_bvs {l : List UInt8} (h : l.length = 32) : (bvs l).toArray.size = 32 := by
  rw [List.size_toArray]
  simpa [bvs] using h
theorem Tryz.sumSize {l : List UInt8} (h : l.length = 32) : (Tryz.prog.info? 23).map (·.size) = some (bvs l).toArray.size := by rw [size_bvs h]; kernel_rfl
theorem Tryz.sumSizeL {l : List UInt8} (h : l.length = 32) : (Tryz.prog.info? 23).map (·.size) = some (bvs l).length := by rw [show (bvs l).length = 32 by simpa [bvs] using h]; kernel_rfl
/-- The tables of sums. -/
def ST (w : World) : Prop := Sm.Tables w Sm.S0 Sm.K0
theorem ST.on {w w' : World} (h : ST w) (hb : Below w.heap.size w w') : ST w' := Sm.Tables.below h hb (Nat.le_refl _)
def zl32 : Array Value := #[.int .u8 0, .int .u8 0, .int .u8 0, .int .u8 0, .int .u8 0, .int .u8 0, .int .u8 0, .int .u8 0, .int .u8 0, .int .u8 0, .int .u8 0, .int .u8 0, .int .u8 0, .int .u8 0, .int .u8 0, .int .u8 0, .int .u8 0, .int .u8 0, .int .u8 0, .int .u8 0, .int .u8 0, .int .u8 0, .int .u8 0, .int .u8 0, .int .u8 0, .int .u8 0, .int .u8 0, .int .u8 0, .int .u8 0, .int .u8 0, .int .u8 0, .int .u8 0]
theorem zl32_eq : zl32 = (bvs z32).toArray := by rfl
set_option maxHeartbeats 8000000 in
set_option maxRecDepth 100000 in
theorem elink_any (p : List UInt8) (hp : p.length = 32) (x : Ev) (N : Nat) (w : World) (hx : x.At N w) (hN : N ≤ w.heap.size) (he : EB N w) (ht : ST w) :
    Calls Tryz.prog 14 #[.agg (bvs p).toArray, .agg x.cells.toArray] w fun e w' => e = .returned (.tuple #[.agg (bvs (sumL p x)).toArray, .int .i64 x.vE]) ∧ Below w.heap.size w w' := by
  obtain ⟨w1, hw1⟩ : ∃ w1, w1 = w.alloc (.cells (bvs p).toArray 23) := ⟨_, rfl⟩
  obtain ⟨g, hg⟩ : ∃ g, g = w.heap.size := ⟨_, rfl⟩
  have b1 : Below w.heap.size w w1 := by rw [hw1]; exact (Below.refl _ _).alloc (Nat.le_refl _) _
  have n1 : w1.heap[g]? = some (.cells (bvs p).toArray 23 (0, 0)) := by rw [hw1, hg]; exact heap_alloc_new _ _
  have hg2 : g + 1 = w1.heap.size := by rw [hw1, hg]; simp
  obtain ⟨w2, hw2⟩ : ∃ bx, bx = w1.alloc (.cells x.cells.toArray 28) := ⟨_, rfl⟩
  obtain ⟨g2, hg2⟩ : ∃ bx, bx = w1.heap.size := ⟨_, rfl⟩
  have bw2 : Below w1.heap.size w1 w2 := by rw [hw2]; exact (Below.refl _ _).alloc (Nat.le_refl _) _
  have nw2 : w2.heap[g2]? = some (.cells x.cells.toArray 28 (0, 0)) := by rw [hw2, hg2]; exact heap_alloc_new _ _
  have Kw2 := Lib.hid (rowE nw2)
  have Cw2 := Lib.hid (evC nw2)
  have Hw2 := Lib.hid hw2
  have Hg2 := Lib.hid hg2
  have Bw2 := Lib.hid bw2
  have Nw2 := Lib.hid nw2
  clear hw2 hg2 bw2 nw2
  obtain ⟨w3, hw3⟩ : ∃ w3, w3 = w2.alloc (.cells zl32 23) := ⟨_, rfl⟩
  obtain ⟨g3, hg3⟩ : ∃ g, g = w2.heap.size := ⟨_, rfl⟩
  have b3 : Below w2.heap.size w2 w3 := by rw [hw3]; exact (Below.refl _ _).alloc (Nat.le_refl _) _
  have n3 : w3.heap[g3]? = some (.cells zl32 23 (0, 0)) := by rw [hw3, hg3]; exact heap_alloc_new _ _
  have b12 := b1.trans (Bw2.out.mono b1.size)
  have b13 := b12.trans (b3.mono b12.size)
  have HG2 := Lib.hid (show g2 = w.heap.size + 1 from by rw [Hg2.out, ← hg2, hg])
  have HG3 := Lib.hid (show g3 = w.heap.size + 1 + 1 from by rw [hg3, Hw2.out]; simp [hw1])
  have HG := Lib.hid hg
  have B13 := Lib.hid b13
  have N3 := Lib.hid n3
  have N1 := Lib.hid (show w3.heap[g]? = some (.cells (bvs p).toArray 23 (0, 0)) from (b3.block g (Nat.lt_of_lt_of_le (lt_of_rowW n1) Bw2.out.size)).trans ((Bw2.out.block g (lt_of_rowW n1)).trans n1))
  have N2 := Lib.hid (show w3.heap[g2]? = some (.cells x.cells.toArray 28 (0, 0)) from (b3.block g2 (lt_of_rowW Nw2.out)).trans Nw2.out)
  have HW := Lib.hid (show w3 = ((w.alloc (.cells (bvs p).toArray 23)).alloc (.cells x.cells.toArray 28)).alloc (.cells zl32 23) from by rw [hw3, Hw2.out, hw1])
  have LT := Lib.hid (show g < w3.heap.size ∧ g3 < w3.heap.size ∧ w.heap.size ≤ g3 from ⟨lt_of_rowW N1.out, lt_of_rowW n3, by rw [hg3]; exact b12.size⟩)
  have HX := Lib.hid (hx.below (b13.mono hN))
  have CE := Lib.hid (eencode_any x N w3 (hx.below (b13.mono hN)) (Nat.le_trans hN b13.size) (he.on (b13.mono hN)))
  have HT := Lib.hid (ht.on b13)
  have HP := Lib.hid hp
  have K2 := Lib.hid (rowE (x := x) N2.out)
  have ZL := Lib.hid zl32_eq
  clear hw1 hg b1 n1 hg2 hw3 hg3 b3 n3 b12 b13 hx he ht hN hp
  unfold zl32 at HW
  obtain ⟨A, hA⟩ : ∃ A, A = x.vE := ⟨_, rfl⟩
  obtain ⟨S, hS⟩ : ∃ S, S = sumL p x := ⟨_, rfl⟩
  rw [← hA, ← hS]
  have HA := Lib.hid hA
  have HS := Lib.hid hS
  clear hA hS
  go_enter Tryz.func14, Tryz.ntmps14
  go_upto_region 1 with fail
  rw [← HW.out, ← HG3.out, ← HG2.out, ← HG.out]
  go_wp2_with (first | (with_reducible show wpList _ _ _ _ _ _; refine wpList_load_allW rfl 28 (.tmp 3) rfl ⟨g2,0,none⟩ rfl x.cells _ K2.out Tryz.underlying28 rfl (Tryz.evSize x) ?_))
  refine CE.out.mono ?_
  rintro r w5 ⟨hb5, hr⟩
  have n15 := (hb5.block g LT.out.1).trans N1.out
  have n35 := (hb5.block g3 LT.out.2.1).trans N3.out
  have N15 := Lib.hid n15
  have N35 := Lib.hid n35
  have B15 := Lib.hid (B13.out.trans (hb5.mono B13.out.size))
  have HT5 := Lib.hid (HT.out.on hb5)
  clear hb5 n15 n35
  by_cases hA0 : A = 0
  · rw [← HA.out, if_pos hA0] at hr
    obtain ⟨ao, c, rfl, own⟩ := hr
    subst hA0
    have hL := eb_len HA.out.symm
    have hsum : sumL p x = Sm.shaL Sm.S0 Sm.K0 (p ++ x.eb) := if_pos HA.out.symm
    have CL := Lib.hid (Sm.link_any (w := w5) (pv := p) (xs := x.eb) HP.out (Sm.Bs.ofOwn own) HT5.out (by omega))
    rw [bvsS, bvsS, ← hsum, ← HS.out] at CL
    have hl : S.length = 32 := by rw [HS.out]; exact sumL_len p x
    obtain ⟨m, hm⟩ : ∃ m, m = x.eb.length := ⟨_, rfl⟩
    rw [← hm] at CL ⊢
    have sp := Lib.hid (Tryz.sumSize HP.out)
    clear own hL hsum hm
    go_wp2_with (first
      | (refine wpList_load_row rfl 23 (.tmp 2) rfl g rfl 23 (bvs p).toArray (0, 0) _ N15.out Tryz.underlying23 rfl sp.out ?_))
    refine CL.out.mono ?_
    rintro r w6 ⟨rfl, hb6⟩
    have n36 := (hb6.block g3 (lt_of_rowW N35.out)).trans N35.out
    have N36 := Lib.hid n36
    have B6 := Lib.hid (B15.out.trans (hb6.mono B15.out.size))
    have sz := Lib.hid (Tryz.sumSize hl)
    have sl := Lib.hid (Tryz.sumSizeL hl)
    have so := Lib.hid (show zl32.size = (bvs S).toArray.size by rw [size_bvs hl]; rfl)
    have s1 := Lib.hid (all_bvsS S)
    clear n36 hb6 hl CL
    go_wp2_with (refine Sm.wpList_store_all rfl 23 (.tmp 4) (.tmp 19) rfl g3 23 zl32 _ rfl rfl N36.out sz.out so.out s1.out ?_)
    refine bodyPost_ret (results_row_tmp rfl _ _ g3 23 (bvs S) (0, 0) _ (.int .i64 0) rfl rfl (setRow_heap w6 _ _ _ _ (0, 0) N36.out) Tryz.underlying23 rfl sl.out) rfl ?_
    exact ⟨rfl, below_setRow B6.out LT.out.2.2 _⟩
  · rw [← HA.out, if_neg hA0] at hr
    subst hr
    have hA1 : (A != 0) = true := by simpa using hA0
    have hsum : sumL p x = z32 := if_neg (by rw [← HA.out]; exact hA0)
    obtain rfl : S = z32 := by rw [HS.out, hsum]
    have hl : z32.length = 32 := rfl
    have sz := Lib.hid (Tryz.sumSize hl)
    have sl := Lib.hid (Tryz.sumSizeL hl)
    have so := Lib.hid (show zl32.size = (bvs z32).toArray.size by rw [size_bvs hl]; rfl)
    have s1 := Lib.hid (all_bvsS z32)
    clear hsum hl
    go_wp2_with (refine Sm.wpList_store_all rfl 23 (.tmp 4) (.tmp 15) rfl g3 23 zl32 (bvs z32).toArray rfl (by with_unfolding_all rfl) N35.out sz.out so.out s1.out ?_)
    refine bodyPost_ret (results_row_tmp rfl _ _ g3 23 (bvs z32) (0, 0) _ (.int .i64 A) rfl rfl (setRow_heap w5 _ _ _ _ (0, 0) N35.out) Tryz.underlying23 rfl sl.out) rfl ?_
    exact ⟨rfl, below_setRow B15.out LT.out.2.2 _⟩
end Go.Proofs.YtnfobnnbeefeeaaGreatDoor.Wi
