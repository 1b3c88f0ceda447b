/- Two sectors: the greatest number on them. -/
import Derived.Test.YtgbmkolpdnenlaaMc
namespace Go.Proofs.Ytgbmkolpdnenlaa.Dk
open Go Go.RowKit
set_option linter.unusedVariables false
set_option linter.unusedSimpArgs false

/-- Two sectors in a block. -/
structure PairAt (w : World) (g : Nat) (a b : List UInt8) : Prop where
  row : w.heap[g]? = some (.cells (bvs a ++ bvs b).toArray 95 (0, 0))
  la : a.length = 128
  lb : b.length = 128
theorem Try.zeroM : Try.zeroCells93.size = 128 := by kernel_rfl
def sel (a b : List UInt8) (i : Nat) : List UInt8 := if i = 0 then a else b
theorem sel_length {a b : List UInt8} (la : a.length = 128) (lb : b.length = 128) (i : Nat) : (sel a b i).length = 128 := by
  unfold sel
  split <;> assumption
theorem PairAt.cells {w : World} {g : Nat} {a b : List UInt8} (h : PairAt w g a b) {i : Nat} (hi : i < 2) : ∀ j v, (bvs (sel a b i))[j]? = some v → w.cell? ((⟨g, i * 128, none⟩ : Addr).add j) = some v := by
  intro j v hv
  have hj := (List.getElem?_eq_some_iff.1 hv).1
  rw [bvs_length, sel_length h.la h.lb] at hj
  rw [Addr.add_mid, cell_of_row w g (i * 128 + j) _ _ _ h.row]
  have hal : (bvs a).length = 128 := by rw [bvs_length, h.la]
  have hi' : i = 0 ∨ i = 1 := by omega
  rcases hi' with rfl | rfl
  · simp only [sel, if_true] at hv
    simp only [Nat.zero_mul, Nat.zero_add, List.getElem?_toArray]
    rw [List.getElem?_append_left (by rw [hal]; exact hj)]
    exact hv
  · simp only [sel, if_neg (show ¬ (1 = 0) by decide)] at hv
    simp only [Nat.one_mul, List.getElem?_toArray]
    rw [List.getElem?_append_right (by rw [hal]; omega), hal, Nat.add_sub_cancel_left]
    exact hv
theorem PairAt.keep {w w' : World} {g : Nat} {a b : List UInt8} (h : PairAt w g a b) (e : w'.heap[g]? = w.heap[g]?) : PairAt w' g a b := ⟨e.trans h.row, h.la, h.lb⟩
theorem PairAt.lt {w : World} {g : Nat} {a b : List UInt8} (h : PairAt w g a b) : g < w.heap.size := lt_of_row h.row
/-- The greatest of the numbers that stand where marks' numbers do, on the first i sectors. -/
def greatN (a b : List UInt8) : Nat → Nat
  | 0 => 0
  | i + 1 => max (max (greatN a b i) (wordN (sel a b i) 0 8)) (wordN (sel a b i) 56 8)
theorem greatN_lt (a b : List UInt8) : ∀ i, greatN a b i < 18446744073709551616
  | 0 => by simp [greatN]
  | i + 1 => by
    have h1 := greatN_lt a b i
    have h2 := word8_lt (sel a b i) 0
    have h3 := word8_lt (sel a b i) 56
    unfold greatN
    omega
theorem max3 (n x y : Nat) : (if (if n < x then (x : Int) else (n : Int)) < (y : Int) then (y : Int) else if n < x then (x : Int) else (n : Int)) = ((max (max n x) y : Nat) : Int) := by
  by_cases h : n < x
  · simp only [if_pos h]
    split <;> omega
  · simp only [if_neg h]
    split <;> omega
def GrRel (w : World) (a b : List UInt8) (u v : Value) (wr : World) : Prop := ∃ i : Nat, u = .int .i64 (i : Int) ∧ i ≤ 2 ∧ v = .int .u64 ((greatN a b i : Nat) : Int) ∧ Below w.heap.size w wr
set_option maxRecDepth 100000 in
set_option maxHeartbeats 4000000 in
theorem greatest_any {w : World} {g : Nat} {a b : List UInt8} (h : PairAt w g a b) : Calls Try.prog 34 #[.pointer (some ⟨g, 0, none⟩)] w fun e w' => e = .returned (.int .u64 ((greatN a b 2 : Nat) : Int)) ∧ Below w.heap.size w w' := by
  have H := Lib.hid h
  clear h
  have L0 := Lib.hid (show GrRel w a b (.int .i64 0) (.int .u64 0) w from ⟨0, rfl, Nat.zero_le _, rfl, Below.refl _ _⟩)
  go_enter Try.func34, Try.ntmps34
  go_wp2_with fail
  go_loopw [8, 3] (fun u v wr => GrRel w a b u v wr) (fun u _ _ => 2 - (intOf u).toNat)
  case atStart => exact L0.out
  case round =>
    obtain ⟨wo, rfl⟩ : ∃ wo : World, wo = wr := ⟨_, rfl⟩
    obtain ⟨i, rfl, hi, rfl, hB⟩ := hrel
    have HB := Lib.hid hB
    clear hB L0
    by_cases hil : i < 2
    · have hii : (i : Int) < 2 := by omega
      have HPo := Lib.hid (H.out.keep (HB.out.block g H.out.lt))
      have hsl := sel_length H.out.la H.out.lb i
      have HC := Lib.hid (HPo.out.cells hil)
      obtain ⟨s, hs⟩ : ∃ s, s = sel a b i := ⟨_, rfl⟩
      rw [← hs] at HC hsl
      have HSL := Lib.hid hsl
      have HS := Lib.hid hs
      have HSZ := Lib.hid (show (Try.prog.info? 93).map (·.size) = some (bvs s).length by rw [bvs_length, hsl]; kernel_rfl)
      have HSZ2 := Lib.hid (show (Try.prog.info? 93).map (·.size) = some (bvs s).toArray.size by rw [List.size_toArray, bvs_length, hsl]; kernel_rfl)
      have HSO := Lib.hid (show Try.zeroCells93.size = (bvs s).toArray.size by rw [Try.zeroM, List.size_toArray, bvs_length, hsl])
      clear hsl hs
      go_wp2_with (first
        | (with_reducible show wpList _ _ _ _ _ _; refine wpList_load_all rfl 93 (.tmp 11) rfl ⟨g, i * 128, none⟩ rfl (bvs s) _ HC.out Try.underlying93 rfl HSZ.out ?_)
        | (with_reducible show wpList _ _ _ _ _ _; refine wpList_store_new rfl 93 (.tmp 5) (.tmp 12) rfl 93 Try.zeroCells93 (bvs s).toArray rfl rfl HSZ2.out HSO.out (all_bvs _) ?_))
      obtain ⟨w4, hw4⟩ : ∃ w4, w4 = wo.alloc (.cells (bvs s).toArray 93) := ⟨_, rfl⟩
      have S4 : SecAt w4 wo.heap.size s := ⟨by rw [hw4]; exact heap_alloc_new _ _, HSL.out⟩
      have f4 : Below wo.heap.size wo w4 := by rw [hw4]; exact (Below.refl _ _).alloc (Nat.le_refl _) _
      have WD0 := Lib.hid (word_any S4 0 (by decide))
      have WD1 := Lib.hid (word_any S4 56 (by decide))
      have HB4 := Lib.hid (HB.out.trans (f4.mono HB.out.size))
      rw [← hw4]
      clear S4 f4 hw4
      refine WD0.out.mono ?_
      rintro e w' ⟨rfl, rfl⟩
      go_wp2_with fail
      refine WD1.out.mono ?_
      rintro e w' ⟨rfl, rfl⟩
      have HM := Lib.hid (max3 (greatN a b i) (wordN s 0 8) (wordN s 56 8))
      have HG := Lib.hid (show max (max (greatN a b i) (wordN s 0 8)) (wordN s 56 8) = greatN a b (i + 1) by rw [greatN, ← HS.out])
      have RL := Lib.hid (show GrRel w a b (.int .i64 ((i + 1 : Nat) : Int)) (.int .u64 ((greatN a b (i + 1) : Nat) : Int)) w4 from ⟨i + 1, rfl, by omega, rfl, HB4.out⟩)
      go_wp2_with fail
      rw [HM.out, HG.out]
      exact ⟨RL.out, by simp [intOf]; omega⟩
    · obtain rfl : i = 2 := by omega
      rw [show ((2 : Nat) : Int) = 2 from rfl]
      go_wp2_with fail
      go_ret
      exact ⟨rfl, HB.out⟩
end Go.Proofs.Ytgbmkolpdnenlaa.Dk
