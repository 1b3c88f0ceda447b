/- What the laws' own sector and full leave. -/
import Derived.Test.YthcliaaoadfegaaDw
import Derived.Laws.CopyOwn
import Derived.OwnWalk
namespace Go.Proofs.Ythcliaaoadfegaa.Dk
open Go Go.RowKit
set_option linter.unusedVariables false
set_option linter.unusedSimpArgs false

theorem Try.infoU8 : (Try.prog.info? 5).map (fun i => (i.zero, i.size, i.bytes)) = some (some (.int .u8 0), 1, 1) := by kernel_rfl
/-- Bytes, noughts behind them. -/
def pad (xs : List UInt8) : List UInt8 := xs.take 128 ++ List.replicate (128 - xs.length) 0
theorem pad_length (xs : List UInt8) : (pad xs).length = 128 := by simp [pad]; omega
/-- Bytes in a block of their own. -/
def Own (w0 w : World) (v : Value) (l : List UInt8) : Prop := ∃ g, v = .slice (some ⟨g, 0, none⟩) 128 128 ∧ w0.heap.size ≤ g ∧ w.heap[g]? = some (.cells (bvs l).toArray 5 (0, 0)) ∧ l.length = 128
theorem made_u8 (n : Nat) : (madeCells #[.int .u8 0] n).toList = List.replicate n (.int .u8 0) := by
  apply List.ext_getElem
  · simp [madeCells]
  · intro i h1 h2
    simp [madeCells, Nat.mod_one]
set_option maxRecDepth 100000 in
theorem sector_any {ao : Option Addr} {c : Nat} {xs : List UInt8} {w : World} (hS : Sl w (.slice ao xs.length c) xs) : Calls Try.prog 22 #[.slice ao xs.length c] w fun e w' => ∃ v, e = .returned v ∧ Own w w' v (pad xs) ∧ Below w.heap.size w w' := by
  obtain ⟨i0, hi, hz0, hz1, hz2⟩ := info_parts Try.infoU8
  obtain ⟨ao', c', e, hno, hs⟩ := hS
  injection e with e1 e2 e3
  subst e1 e3
  go_enter Try.func22, Try.ntmps22
  go_wp2_with (at_make; refine wpList_make_full _ rfl _ _ 34 rfl 0 5 i0 _ 1 Try.underlying34 hi hz0 hz1 _ _ _ _ 128 rfl rfl rfl rfl (by rw [hz2]; omega) (by unfold maxLen; omega) (by omega) ?_)
  intro w1 hown hgrow
  have b1 : Below w.heap.size w w1 := (Frm.refl (fun _ => False) w).grown hgrow (by intro j e; cases e) |>.below (fun _ _ h => h.elim) (Nat.le_refl _)
  obtain ⟨hz, hb⟩ : w.heap.size < w1.heap.size ∧ w1.heap[w.heap.size]? = some (.cells (List.replicate 128 (Value.int .u8 0)).toArray 5 (0, 0)) := by
    rcases hown.2 with ⟨e, _⟩ | ⟨g, cap, cur, e, _, hb, hc1, hc2, hc3, hc4⟩
    · cases e
    · injection e with e3 e4 e5
      cases e3
      subst e5
      refine ⟨lt_of_row hb, ?_⟩
      rw [hb, ← made_u8 128]
      simp only [Nat.mul_one] at hc3 hc4
      have : cur.toList = (madeCells #[Value.int .u8 0] 128).toList := by
        rw [← hc4.trans rfl, List.take_of_length_le (by simp [hc3])]
      rw [← this]
  have HS := Lib.hid (show Sl w1 (.slice ao xs.length c) xs from (Sl.below ⟨ao, c, rfl, hno, hs⟩ b1))
  have HB := Lib.hid hb
  have B1 := Lib.hid b1
  clear hown hgrow hb b1 hno hs
  obtain ⟨ao', c', e, hno, hs⟩ := HS.out
  injection e with e1 e2 e3
  subst e1 e3
  have hn : (bvs (xs.take 128)).length = Nat.min xs.length 128 := by rw [bvs_length, List.length_take]; exact Nat.min_comm _ _
  have hsrc : 0 < (bvs (xs.take 128)).length → (some ⟨w.heap.size, 0, none⟩ : Option Addr) = some ⟨w.heap.size, 0, none⟩ ∧ ∃ ad, ao = some ad ∧ ∀ j v, (bvs (xs.take 128))[j]? = some v → w1.cell? (ad.add j) = some v := by
    intro h0
    refine ⟨rfl, ?_⟩
    cases ao with
    | none => rw [hno rfl] at h0; simp [bvs] at h0
    | some a =>
      refine ⟨a, rfl, fun j v hv => hs a rfl j v ?_⟩
      simp only [bvs, List.map_take, List.getElem?_take] at hv
      split at hv
      · simpa [bvs] using hv
      · cases hv
  have hfit : 0 + (bvs (xs.take 128)).length ≤ (List.replicate 128 (Value.int .u8 0)).length := by rw [bvs_length]; simp; omega
  have epad : splice (List.replicate 128 (Value.int .u8 0)) 0 (bvs (xs.take 128)) = bvs (pad xs) := by
    have e1 : bvs (List.replicate (128 - xs.length) 0) = List.replicate (128 - xs.length) (Value.int .u8 0) := by simp [bvs, bv]
    unfold splice pad
    rw [bvs_append, bvs_length, e1, List.take_zero, List.nil_append, List.drop_replicate, List.length_take]
    congr 2
    omega
  have HN := Lib.hid hn
  have HC := Lib.hid hsrc
  have HF := Lib.hid hfit
  have HP := Lib.hid epad
  clear hno hs HS e2 hn hsrc hfit epad
  go_wp2_with (refine wpList_copy_splice rfl (.tmp 5) (.tmp 6) 34 34 rfl 5 Try.underlying34 (by kernel_rfl) (some ⟨w.heap.size, 0, none⟩) ao 128 128 xs.length c rfl rfl w.heap.size 0 (List.replicate 128 (Value.int .u8 0)) 5 HB.out (bvs (xs.take 128)) HN.out HC.out HF.out (bvs_one _) w.heap.size w B1.out (Nat.le_refl _) ?_)
  intro w2 HG hb2
  have HB2 := Lib.hid hb2
  clear hb2 HB B1 HC HF HN
  go_wp2_with fail
  go_ret
  refine ⟨_, rfl, ⟨w.heap.size, rfl, Nat.le_refl _, ?_, pad_length xs⟩, HB2.out⟩
  rw [← HP.out]
  exact HG.out
theorem bvs_set (L : List UInt8) (k : Nat) (x : UInt8) : (bvs L).toArray.setIfInBounds k (bv x) = (bvs (L.set k x)).toArray := by simp [bvs, List.map_set]
/-- What the loop of full keeps. -/
def FullRel (w : World) (g : Nat) (x : UInt8) (u : Value) (wr : World) : Prop :=
  ∃ (k : Nat) (L : List UInt8), u = .int .i64 (k : Int) ∧ k ≤ 128 ∧ L.length = 128 ∧ (∀ j, j < k → L[j]? = some x) ∧ wr.heap[g]? = some (.cells (bvs L).toArray 5 (0, 0)) ∧ Below w.heap.size w wr
theorem all_same {L : List UInt8} {x : UInt8} {n : Nat} (h : L.length = n) (hx : ∀ j, j < n → L[j]? = some x) : L = List.replicate n x := by
  apply List.ext_getElem?
  intro i
  by_cases hi : i < n
  · rw [hx i hi]; simp [hi]
  · rw [List.getElem?_eq_none (by omega), List.getElem?_eq_none (by simp; omega)]
set_option maxRecDepth 100000 in
theorem full_any (x : UInt8) (w : World) : Calls Try.prog 16 #[bv x] w fun e w' => ∃ v, e = .returned v ∧ Own w w' v (List.replicate 128 x) ∧ Below w.heap.size w w' := by
  obtain ⟨i0, hi, hz0, hz1, hz2⟩ := info_parts Try.infoU8
  have hbv := Lib.hid (rfl : bv x = bv x)
  unfold bv at *
  go_enter Try.func16, Try.ntmps16
  go_wp2_with (at_make; refine wpList_make_full _ rfl _ _ 34 rfl 0 5 i0 _ 1 Try.underlying34 hi hz0 hz1 _ _ _ _ 128 rfl rfl rfl rfl (by rw [hz2]; omega) (by unfold maxLen; omega) (by omega) ?_)
  intro w1 hown hgrow
  have b1 : Below w.heap.size w w1 := (Frm.refl (fun _ => False) w).grown hgrow (by intro j e; cases e) |>.below (fun _ _ h => h.elim) (Nat.le_refl _)
  obtain ⟨hz, hb⟩ : w.heap.size < w1.heap.size ∧ w1.heap[w.heap.size]? = some (.cells (bvs (List.replicate 128 0)).toArray 5 (0, 0)) := by
    rcases hown.2 with ⟨e, _⟩ | ⟨g, cap, cur, e, _, hb, hc1, hc2, hc3, hc4⟩
    · cases e
    · injection e with e3 e4 e5
      cases e3
      subst e5
      refine ⟨lt_of_row hb, ?_⟩
      have e6 : bvs (List.replicate 128 0) = List.replicate 128 (Value.int .u8 0) := by simp [bvs, bv]
      rw [hb, e6, ← made_u8 128]
      simp only [Nat.mul_one] at hc3 hc4
      have : cur.toList = (madeCells #[Value.int .u8 0] 128).toList := by
        rw [← hc4.trans rfl, List.take_of_length_le (by simp [hc3])]
      rw [← this]
  have HB := Lib.hid hb
  have B1 := Lib.hid b1
  clear hown hgrow hb b1
  obtain ⟨g, hg⟩ : ∃ g, g = w.heap.size := ⟨_, rfl⟩
  rw [← hg] at HB hz ⊢
  have HG := Lib.hid hg
  clear hg
  go_wp2_with fail
  go_loopw [8] (fun u wr => FullRel w g x u wr) (fun u _ => 128 - (intOf u).toNat)
  case atStart => exact ⟨0, _, rfl, by omega, by simp, (fun j hj => by omega), HB.out, B1.out⟩
  case round =>
    obtain ⟨wo, rfl⟩ : ∃ wo : World, wo = wr := ⟨_, rfl⟩
    obtain ⟨k, L, rfl, hk, hL, hx, hrow, hbw⟩ := hrel
    by_cases hkl : k < 128
    · have hki : (k : Int) < 128 := by omega
      have hc : wo.cell? ⟨g, k, none⟩ = some (bv (L.getD k 0)) := by
        rw [cell_of_row wo g k _ _ _ hrow]
        simp [bvs, List.getD, hL, hkl]
      have hf : wo.frozen? ⟨g, k, none⟩ = false := frozen_of_row wo g k _ _ hrow
      have hr2 := Go.Joins.block_setCell (i := k) hrow (bv x)
      rw [bvs_set] at hr2
      have hb2 := hbw.setCell (p := ⟨g, k, none⟩) (by have := HG.out; simp; omega) (bv x)
      have HR := Lib.hid (show FullRel w g x (.int .i64 ((k + 1 : Nat) : Int)) (wo.setCell ⟨g, k, none⟩ (bv x)) from ⟨k + 1, _, rfl, by omega, by simp [hL], (fun j hj => by
        by_cases e : j = k
        · subst e; simp [hL, hkl]
        · rw [List.getElem?_set_ne (by omega)]; exact hx j (by omega)), hr2, hb2⟩)
      clear hr2 hb2 hrow hbw hx
      unfold bv at *
      go_wp2_with fail
      exact ⟨HR.out, by simp [intOf]; omega⟩
    · obtain rfl : k = 128 := by omega
      have e := all_same hL hx
      subst e
      have HR := Lib.hid hrow
      have HBW := Lib.hid hbw
      clear hrow hbw hx
      rw [show ((128 : Nat) : Int) = 128 from rfl]
      go_wp2_with fail
      go_ret
      exact ⟨_, rfl, ⟨g, rfl, by have := HG.out; omega, HR.out, by simp⟩, HBW.out⟩
end Go.Proofs.Ythcliaaoadfegaa.Dk
