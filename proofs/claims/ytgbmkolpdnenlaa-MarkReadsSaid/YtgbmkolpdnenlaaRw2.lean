/- MarkReads' walk. -/
import Derived.Test.YtgbmkolpdnenlaaGe
import Derived.Test.YtgbmkolpdnenlaaLi
import Derived.Test.YtgbmkolpdnenlaaMr
import Derived.Test.YtgbmkolpdnenlaaMl
import Derived.Test.YtgbmkolpdnenlaaDe
import Derived.Test.YtgbmkolpdnenlaaDq
import Derived.Deep.DeepCutAuto
namespace Go.Proofs.Ytgbmkolpdnenlaa.Dk
open Go Go.RowKit
set_option linter.unusedVariables false
set_option linter.unusedSimpArgs false
/-- A byte is one more, if there is one at that place. -/
def bendS (l : List UInt8) (e : Int) : List UInt8 := if 0 ≤ e ∧ e < 128 then l.set e.toNat (l.getD e.toNat 0 + 1) else l
theorem bendS_length {l : List UInt8} (h : l.length = 128) (e : Int) : (bendS l e).length = 128 := by
  unfold bendS
  split
  · rw [List.length_set]; exact h
  · exact h
theorem byte_inc (b : UInt8) : IntKind.u8.wrap ((b.toNat : Int) + 1) = ((b + 1).toNat : Int) := by
  rw [IntKind.wrap_u8, UInt8.toNat_add]
  have := b.toNat_lt
  simp
theorem made_row128 {w w1 : World} (hown : w1.ownsRow 0 5 1 (.slice (some ⟨w.heap.size, 0, none⟩) 128 128) 128 (madeCells #[.int .u8 0] (128 * 1)).toList) (hgrow : w.grownBy w1 none) :
    Below w.heap.size w w1 ∧ w1.heap[w.heap.size]? = some (.cells (List.replicate 128 (Value.int .u8 0)).toArray 5 (0, 0)) := by
  refine ⟨(Frm.refl (fun _ => False) w).grown hgrow (by intro j e; cases e) |>.below (fun _ _ h => h.elim) (Nat.le_refl _), ?_⟩
  rcases hown.2 with ⟨e, _⟩ | ⟨g, cap, cur, e, _, hb, hc1, hc2, hc3, hc4⟩
  · cases e
  · injection e with e3 e4 e5
    cases e3
    subst e5
    rw [hb, ← made_u8 128]
    simp only [Nat.mul_one] at hc3 hc4
    have : cur.toList = (madeCells #[Value.int .u8 0] 128).toList := by
      rw [← hc4.trans rfl, List.take_of_length_le (by simp [hc3])]
    rw [← this]
theorem pad_splice (xs : List UInt8) : splice (List.replicate 128 (Value.int .u8 0)) 0 (bvs (xs.take 128)) = bvs (pad xs) := by
  have e1 : bvs (List.replicate (128 - xs.length) 0) = List.replicate (128 - xs.length) (Value.int .u8 0) := by simp [bvs, bv]
  unfold splice pad
  rw [bvs_append, bvs_length, e1, List.take_zero, List.nil_append, List.drop_replicate, List.length_take]
  congr 2
  omega
theorem sl_src {w : World} {ao : Option Addr} {n c : Nat} {xs : List UInt8} (h : Sl w (.slice ao n c) xs) : n = xs.length ∧ (0 < (bvs (xs.take 128)).length → ∃ ad, ao = some ad ∧ ∀ j v, (bvs (xs.take 128))[j]? = some v → w.cell? (ad.add j) = some v) := by
  obtain ⟨ao', c', e, hno, hs⟩ := h
  injection e with e1 e2 e3
  subst e1 e3
  refine ⟨e2, fun h0 => ?_⟩
  cases ao with
  | none => rw [hno rfl] at h0; simp [bvs] at h0
  | some a =>
    refine ⟨a, rfl, fun j v hv => hs a rfl j v ?_⟩
    simp only [bvs, List.map_take, List.getElem?_take] at hv
    split at hv
    · simpa [bvs] using hv
    · cases hv
theorem Try.infoSl8 : (Try.prog.info? 44).map (fun i => (i.zero, i.size, i.bytes)) = some (some (.slice none 0 0), 1, 24) := by kernel_rfl
theorem index_b2 (cs : Array Value) (i : Nat) (u : Value) (hi : i < 2) (hs : cs.size = 2) (h : cs[i]? = some u) (k : IntKind) (w : World) : (Instr.index 46 (.agg cs) (.int k (i : Int))).run Try.prog w = .ok u w := by
  have hu : Try.prog.underlying 46 = some (.array 2 44) := by kernel_rfl
  obtain ⟨i0, hi0, hz0, hz1, hz2⟩ := info_parts Try.infoSl8
  have hi' : i < cs.size := by omega
  have hv : cs[i] = u := by rw [Array.getElem?_eq_getElem hi'] at h; exact Option.some.inj h
  simp [Instr.index, run_underlying hu, asIntOf, go_sem, hi, sizeOf, typeInfo, hi0, hz1, hv, hi']
def rdX (A B : List UInt8) (e0 e1 : Int) : Nat → DS
  | 0 => DS.new 2
  | 1 => (DS.new 2).write 0 (bendS (pad A) e0)
  | _ => ((DS.new 2).write 0 (bendS (pad A) e0)).write 1 (bendS (pad B) e1)
/-- What it is once both are durable. -/
theorem rd_flush (A B : List UInt8) (e0 e1 : Int) : ∃ y, y = (rdX A B e0 e1 2).flush ∧ Calm y ∧ y.s = [bendS (pad A) e0, bendS (pad B) e1] ∧ (∀ i l, wfi i → (rdX A B e0 e1 2).S i = some l → (rdX A B e0 e1 2).has i = true) := by
  have ha := bendS_length (pad_length A) e0
  have hb := bendS_length (pad_length B) e1
  rw [show rdX A B e0 e1 2 = ((DS.new 2).write 0 (bendS (pad A) e0)).write 1 (bendS (pad B) e1) from rfl]
  generalize bendS (pad A) e0 = SA at *
  generalize bendS (pad B) e1 = SB at *
  have h1 : (DS.new 2).write 0 SA = ⟨[zeros, zeros], upd (fun _ => none) 0 SA, -1, false, wrap64 (0 + 1), 0⟩ := by simp [DS.write, DS.new, DS.has, DS.spend, ha, List.replicate]
  have h2 : ((DS.new 2).write 0 SA).write 1 SB = ⟨[zeros, zeros], upd (upd (fun _ => none) 0 SA) 1 SB, -1, false, wrap64 (wrap64 (0 + 1) + 1), 0⟩ := by rw [h1]; simp [DS.write, DS.has, DS.spend, hb]
  have h3 : (((DS.new 2).write 0 SA).write 1 SB).flush = ⟨laid [zeros, zeros] (upd (upd (fun _ => none) 0 SA) 1 SB) (fun _ => false), fun _ => none, -1, false, wrap64 (wrap64 (0 + 1) + 1), wrap64 (0 + 1)⟩ := by rw [h2]; simp [DS.flush, DS.spend]
  refine ⟨_, rfl, ⟨?_, ?_⟩, ?_, ?_⟩
  · show (((DS.new 2).write 0 SA).write 1 SB).flush.down = false
    rw [h3]
  · intro i
    show (((DS.new 2).write 0 SA).write 1 SB).flush.S i = none
    rw [h3]
  · show (((DS.new 2).write 0 SA).write 1 SB).flush.s = [SA, SB]
    rw [h3]
    simp [laid, upd]
  · intro i l _ hl
    show (((DS.new 2).write 0 SA).write 1 SB).has i = true
    change (((DS.new 2).write 0 SA).write 1 SB).S i = some l at hl
    rw [h2] at hl ⊢
    simp only [upd] at hl
    unfold DS.has
    by_cases e1 : i = 1
    · subst e1; rfl
    · rw [if_neg e1] at hl
      by_cases e0 : i = 0
      · subst e0; rfl
      · rw [if_neg e0] at hl
        cases hl
/-- Where the loop stands. -/
def RdRel (w : World) (d g m kb : Nat) (e0 e1 : Int) (A B : List UInt8) (u : Value) (wr : World) : Prop :=
  ∃ k n : Nat, u = .int .i64 (k : Int) ∧ k ≤ 2 ∧ n ≤ k ∧ DiskAt Try.prog wr d g m n (rdX A B e0 e1 k) ∧ wr.heap[kb]? = some (.cells #[.int .i64 e0, .int .i64 e1] 45 (0, 0)) ∧ Below w.heap.size w wr
set_option maxRecDepth 100000 in
set_option maxHeartbeats 1200000 in
theorem reads_main {w : World} {a1 a2 : Option Addr} {c1 c2 : Nat} {A B : List UInt8} (e0 e1 : Int) (hA : Sl w (.slice a1 A.length c1) A) (hB : Sl w (.slice a2 B.length c2) B) (h1 : A.length ≤ 128) (h2 : B.length ≤ 128) :
    Calls Try.prog 4 #[.slice a1 A.length c1, .slice a2 B.length c2, .agg #[.int .i64 e0, .int .i64 e1]] w fun e w' => e = .returned (.bool true) ∧ Below w.heap.size w w' := by
  obtain ⟨w0, hw0⟩ : ∃ w0, w0 = w.alloc (.cells #[.int .i64 e0, .int .i64 e1] 45 (0, 0)) := ⟨_, rfl⟩
  obtain ⟨kb, hkb⟩ : ∃ k, k = w.heap.size := ⟨_, rfl⟩
  have b0 : Below w.heap.size w w0 := by rw [hw0]; exact (Below.refl _ _).alloc (Nat.le_refl _) _
  have r0 : w0.heap[kb]? = some (.cells #[.int .i64 e0, .int .i64 e1] 45 (0, 0)) := by rw [hw0, hkb]; exact heap_alloc_new _ _
  have MK := Lib.hid (marks_any w0)
  have HA := Lib.hid hA
  have HBb := Lib.hid hB
  have HW0 := Lib.hid hw0
  have HKB := Lib.hid hkb
  have HB0 := Lib.hid b0
  have HR0 := Lib.hid r0
  have q1 : ¬ (128 : Int) < (A.length : Int) := by omega
  have q2 : ¬ (128 : Int) < (B.length : Int) := by omega
  clear hA hB hw0 hkb b0 r0
  go_enter Try.func4, Try.ntmps4
  go_wp2_with fail
  rw [← HW0.out, ← HKB.out]
  refine MK.out.mono ?_
  rintro e w1 ⟨rfl, hb1⟩
  have HB1 := Lib.hid (HB0.out.trans (hb1.mono HB0.out.size))
  have HR1 := Lib.hid ((hb1.block kb (lt_of_row HR0.out)).trans HR0.out)
  have N := Lib.hid (new_any 2 (by decide) (by decide) w1)
  clear hb1 MK HB0 HR0
  go_wp2_with fail
  refine N.out.mono ?_
  rintro e w2 ⟨d, g, m, rfl, hD2, hb2, hd, hg, hm⟩
  have HO := Lib.hid (show ∀ i, own3 d g m i → w.heap.size ≤ i from fun i e => by have := HB1.out.size; rcases e with e | e | e <;> omega)
  have HNB := Lib.hid (show ¬ own3 d g m kb from fun e => by have := lt_of_row HR1.out; rcases e with e | e | e <;> omega)
  have J0 := Lib.hid (show RdRel w d g m kb e0 e1 A B (.int .i64 0) w2 from ⟨0, 0, rfl, by decide, by decide, hD2, (hb2.block kb (lt_of_row HR1.out)).trans HR1.out, HB1.out.trans (hb2.mono HB1.out.size)⟩)
  clear hD2 hb2 N hd hg hm HB1 HR1
  go_wp2_with fail
  go_loopw [35] (fun u wr => RdRel w d g m kb e0 e1 A B u wr) (fun u _ => 2 - (intOf u).toNat)
  case atStart => exact J0.out
  case round =>
    obtain ⟨wo, rfl⟩ : ∃ wo : World, wo = wr := ⟨_, rfl⟩
    obtain ⟨k, n, rfl, hk, hn, hE, hrb, hBr⟩ := hrel
    clear J0
    have HE := Lib.hid hE
    have HRB := Lib.hid hrb
    have HBR := Lib.hid hBr
    have HSA := Lib.hid (HA.out.below' hBr (Nat.le_refl _))
    have HSB := Lib.hid (HBb.out.below' hBr (Nat.le_refl _))
    clear hE hrb hBr
    obtain ⟨i0, hi, hz0, hz1, hz2⟩ := info_parts Try.infoU8
    have HI := Lib.hid hi
    have HZ0 := Lib.hid hz0
    have HZ1 := Lib.hid hz1
    have HZ2 := Lib.hid hz2
    clear hi hz0 hz1 hz2
    rcases (show k = 0 ∨ k = 1 ∨ k = 2 by omega) with rfl | rfl | rfl
    · rw [show ((0 : Nat) : Int) = 0 from rfl]
      have hix := fun (W : World) => index_b2 #[.slice a1 A.length c1, .slice a2 B.length c2] 0 (.slice a1 A.length c1) (by decide) rfl rfl .i64 W
      rw [show ((0 : Nat) : Int) = 0 from rfl] at hix
      go_wp2_with (at_make; refine wpList_make_full _ rfl _ _ 44 rfl 0 5 i0 _ 1 Try.underlying44 HI.out HZ0.out HZ1.out _ _ _ _ 128 rfl rfl rfl rfl (by rw [HZ2.out]; omega) (by unfold maxLen; omega) (by omega) ?_)
      intro w3 hown hgrow
      obtain ⟨b3, r3⟩ := made_row128 hown hgrow
      obtain ⟨kg, hkg⟩ : ∃ k, k = wo.heap.size := ⟨_, rfl⟩
      rw [← hkg] at r3 ⊢
      obtain ⟨Z, hZ⟩ : ∃ Z, Z = List.replicate 128 (Value.int .u8 0) := ⟨_, rfl⟩
      rw [← hZ] at r3
      have HZZ := Lib.hid hZ
      obtain ⟨hxl, hsrc⟩ := sl_src ((HSA.out).below' b3 (Nat.le_refl _))
      have hn3 : (bvs (A.take 128)).length = Nat.min A.length 128 := by rw [bvs_length, List.length_take]; exact Nat.min_comm _ _
      have hfit : 0 + (bvs (A.take 128)).length ≤ Z.length := by rw [bvs_length, hZ]; simp; omega
      have HN3 := Lib.hid hn3
      have HSRC := Lib.hid hsrc
      have HFIT := Lib.hid hfit
      have HR3 := Lib.hid r3
      have HB3 := Lib.hid b3
      have HKG := Lib.hid hkg
      clear hown hgrow b3 r3 hkg hZ hxl hsrc hn3 hfit
      go_wp2_with ((with_reducible show wpList _ _ _ _ _ _); refine wpList_copy_splice rfl (.tmp 40) (.tmp 41) 44 44 rfl 5 Try.underlying44 (by kernel_rfl) (some ⟨kg, 0, none⟩) a1 128 128 A.length c1 (by with_unfolding_all rfl) (by with_unfolding_all rfl) kg 0 Z 5 HR3.out (bvs (A.take 128)) HN3.out (fun h0 => ⟨rfl, HSRC.out h0⟩) HFIT.out (bvs_one _) kg w3 (Below.refl _ _) (Nat.le_refl _) ?_)
      intro w4 HG hb4
      have hr4 := HG.out
      rw [HZZ.out, pad_splice] at hr4
      have HR4 := Lib.hid hr4
      have HB4 := Lib.hid (show Below kg wo w4 from (HB3.out.mono (by have := HKG.out; omega)).trans hb4)
      have hrb4 := (HB4.out.block kb (by have := lt_of_row HRB.out; have := HKG.out; omega)).trans HRB.out
      have cb : w4.cell? ⟨kb, 0, none⟩ = some (.int .i64 e0) := by rw [cell_of_row w4 kb 0 _ _ _ hrb4]; rfl
      have hpl := pad_length A
      obtain ⟨P, hP⟩ : ∃ P, P = pad A := ⟨_, rfl⟩
      rw [← hP] at hr4 hpl
      have HPP := Lib.hid hP
      have HPL := Lib.hid hpl
      have WR := Lib.hid (fun (w5 : World) (b5 : Below kg wo w5) (r5 : w5.heap[kg]? = some (.cells (bvs (bendS P e0)).toArray 5 (0, 0))) => (show Calls Try.prog 18 #[.pointer (some ⟨d, 0, none⟩), .int .i64 0, .slice (some ⟨kg, 0, none⟩) 128 128] w5 (fun e w' => (∃ z, e = .returned (.int .i64 z)) ∧ RdRel w d g m kb e0 e1 A B (.int .i64 ((0 + 1 : Nat) : Int)) w') by
        have hkk : kg = wo.heap.size := HKG.out
        have h := write_own (HE.out.below b5 (by omega)) (by unfold maxLen; omega) 0 (WalkArith.wf_i64 (by decide)) (v := .slice (some ⟨kg, 0, none⟩) 128 128) (l := bendS P e0) ⟨kg, rfl, r5, bendS_length HPL.out e0, fun e => by have h1 := HE.out.dlt; have h2 := HE.out.glt; have h3 := HE.out.mlt; rcases e with e | e | e <;> omega⟩
        refine h.mono ?_
        rintro e w6 ⟨rfl, hE6, hF6⟩
        rw [HPP.out] at hE6
        have hb5 : Below w.heap.size w w5 := HBR.out.trans (b5.mono (by have := HBR.out.size; omega))
        refine ⟨⟨_, rfl⟩, 0 + 1, n + 1, rfl, by decide, by omega, hE6, ?_, hb5.trans (hF6.below (fun i _ e => HO.out i e) hb5.size)⟩
        have hr := (b5.block kb (by have := lt_of_row HRB.out; omega)).trans HRB.out
        exact (hF6.block kb (lt_of_row hr) HNB.out).trans hr))
      have HCB := Lib.hid hrb4
      clear HG hb4 hrb4 hpl hP HR3 HB3 HN3 HSRC HFIT HR4
      by_cases hin : 0 ≤ e0 ∧ e0 < 128
      · obtain ⟨i1, i2⟩ := hin
        obtain ⟨q, hq⟩ : ∃ q : Nat, e0 = (q : Int) := ⟨e0.toNat, by omega⟩
        have hq128 : q < 128 := by omega
        have hbe : bendS P e0 = P.set q (P.getD q 0 + 1) := by
          unfold bendS
          rw [if_pos ⟨i1, i2⟩, hq, Int.toNat_natCast]
        obtain ⟨b, hb⟩ : ∃ b, b = P.getD q 0 := ⟨_, rfl⟩
        have cq : w4.cell? ⟨kg, q, none⟩ = some (.int .u8 (b.toNat : Int)) := by
          rw [cell_of_row w4 kg q _ _ _ hr4, hb]
          have : q < P.length := by rw [HPL.out]; exact hq128
          simp [bvs, bv, List.getD, this]
        have fq : w4.frozen? ⟨kg, q, none⟩ = false := frozen_of_row w4 kg q _ _ hr4
        have hinc := byte_inc b
        have r5 := Go.Joins.block_setCell (i := q) hr4 (.int .u8 ((b + 1).toNat : Int))
        have e5 : (bvs P).toArray.setIfInBounds q (.int .u8 ((b + 1).toNat : Int)) = (bvs (bendS P e0)).toArray := by rw [hbe, ← hb, ← bvs_set]; rfl
        rw [e5] at r5
        have b5 : Below kg wo (w4.setCell ⟨kg, q, none⟩ (.int .u8 ((b + 1).toNat : Int))) := HB4.out.setCell (Nat.le_refl _) _
        have WR5 := Lib.hid (WR.out _ b5 r5)
        have q128 : (q : Int) < 128 := by omega
        rw [hq] at cb
        clear r5 b5 e5 hbe hb hr4 WR i1 i2 hq
        go_wp2_with fail
        refine WR5.out.mono ?_
        rintro e w6 ⟨⟨z, rfl⟩, hm⟩
        have RL := Lib.hid hm
        clear hm WR5
        go_wp2_with fail
        exact ⟨RL.out, by simp [intOf]⟩
      · have hbe : bendS P e0 = P := by unfold bendS; rw [if_neg hin]
        have WR4 := Lib.hid (WR.out w4 HB4.out (by rw [hbe]; exact hr4))
        clear hbe hr4 WR
        by_cases i1 : 0 ≤ e0
        · have i2 : ¬ e0 < 128 := fun h => hin ⟨i1, h⟩
          clear hin
          go_wp2_with fail
          refine WR4.out.mono ?_
          rintro e w6 ⟨⟨z, rfl⟩, hm⟩
          have RL := Lib.hid hm
          clear hm WR4
          go_wp2_with fail
          exact ⟨RL.out, by simp [intOf]⟩
        · clear hin
          go_wp2_with fail
          refine WR4.out.mono ?_
          rintro e w6 ⟨⟨z, rfl⟩, hm⟩
          have RL := Lib.hid hm
          clear hm WR4
          go_wp2_with fail
          exact ⟨RL.out, by simp [intOf]⟩
    · rw [show ((1 : Nat) : Int) = 1 from rfl]
      have hix := fun (W : World) => index_b2 #[.slice a1 A.length c1, .slice a2 B.length c2] 1 (.slice a2 B.length c2) (by decide) rfl rfl .i64 W
      rw [show ((1 : Nat) : Int) = 1 from rfl] at hix
      go_wp2_with (at_make; refine wpList_make_full _ rfl _ _ 44 rfl 0 5 i0 _ 1 Try.underlying44 HI.out HZ0.out HZ1.out _ _ _ _ 128 rfl rfl rfl rfl (by rw [HZ2.out]; omega) (by unfold maxLen; omega) (by omega) ?_)
      intro w3 hown hgrow
      obtain ⟨b3, r3⟩ := made_row128 hown hgrow
      obtain ⟨kg, hkg⟩ : ∃ k, k = wo.heap.size := ⟨_, rfl⟩
      rw [← hkg] at r3 ⊢
      obtain ⟨Z, hZ⟩ : ∃ Z, Z = List.replicate 128 (Value.int .u8 0) := ⟨_, rfl⟩
      rw [← hZ] at r3
      have HZZ := Lib.hid hZ
      obtain ⟨hxl, hsrc⟩ := sl_src ((HSB.out).below' b3 (Nat.le_refl _))
      have hn3 : (bvs (B.take 128)).length = Nat.min B.length 128 := by rw [bvs_length, List.length_take]; exact Nat.min_comm _ _
      have hfit : 0 + (bvs (B.take 128)).length ≤ Z.length := by rw [bvs_length, hZ]; simp; omega
      have HN3 := Lib.hid hn3
      have HSRC := Lib.hid hsrc
      have HFIT := Lib.hid hfit
      have HR3 := Lib.hid r3
      have HB3 := Lib.hid b3
      have HKG := Lib.hid hkg
      clear hown hgrow b3 r3 hkg hZ hxl hsrc hn3 hfit
      go_wp2_with ((with_reducible show wpList _ _ _ _ _ _); refine wpList_copy_splice rfl (.tmp 40) (.tmp 41) 44 44 rfl 5 Try.underlying44 (by kernel_rfl) (some ⟨kg, 0, none⟩) a2 128 128 B.length c2 (by with_unfolding_all rfl) (by with_unfolding_all rfl) kg 0 Z 5 HR3.out (bvs (B.take 128)) HN3.out (fun h0 => ⟨rfl, HSRC.out h0⟩) HFIT.out (bvs_one _) kg w3 (Below.refl _ _) (Nat.le_refl _) ?_)
      intro w4 HG hb4
      have hr4 := HG.out
      rw [HZZ.out, pad_splice] at hr4
      have HR4 := Lib.hid hr4
      have HB4 := Lib.hid (show Below kg wo w4 from (HB3.out.mono (by have := HKG.out; omega)).trans hb4)
      have hrb4 := (HB4.out.block kb (by have := lt_of_row HRB.out; have := HKG.out; omega)).trans HRB.out
      have cb : w4.cell? ⟨kb, 1, none⟩ = some (.int .i64 e1) := by rw [cell_of_row w4 kb 1 _ _ _ hrb4]; rfl
      have hpl := pad_length B
      obtain ⟨P, hP⟩ : ∃ P, P = pad B := ⟨_, rfl⟩
      rw [← hP] at hr4 hpl
      have HPP := Lib.hid hP
      have HPL := Lib.hid hpl
      have WR := Lib.hid (fun (w5 : World) (b5 : Below kg wo w5) (r5 : w5.heap[kg]? = some (.cells (bvs (bendS P e1)).toArray 5 (0, 0))) => (show Calls Try.prog 18 #[.pointer (some ⟨d, 0, none⟩), .int .i64 1, .slice (some ⟨kg, 0, none⟩) 128 128] w5 (fun e w' => (∃ z, e = .returned (.int .i64 z)) ∧ RdRel w d g m kb e0 e1 A B (.int .i64 ((1 + 1 : Nat) : Int)) w') by
        have hkk : kg = wo.heap.size := HKG.out
        have h := write_own (HE.out.below b5 (by omega)) (by unfold maxLen; omega) 1 (WalkArith.wf_i64 (by decide)) (v := .slice (some ⟨kg, 0, none⟩) 128 128) (l := bendS P e1) ⟨kg, rfl, r5, bendS_length HPL.out e1, fun e => by have h1 := HE.out.dlt; have h2 := HE.out.glt; have h3 := HE.out.mlt; rcases e with e | e | e <;> omega⟩
        refine h.mono ?_
        rintro e w6 ⟨rfl, hE6, hF6⟩
        rw [HPP.out] at hE6
        have hb5 : Below w.heap.size w w5 := HBR.out.trans (b5.mono (by have := HBR.out.size; omega))
        refine ⟨⟨_, rfl⟩, 1 + 1, n + 1, rfl, by decide, by omega, hE6, ?_, hb5.trans (hF6.below (fun i _ e => HO.out i e) hb5.size)⟩
        have hr := (b5.block kb (by have := lt_of_row HRB.out; omega)).trans HRB.out
        exact (hF6.block kb (lt_of_row hr) HNB.out).trans hr))
      have HCB := Lib.hid hrb4
      clear HG hb4 hrb4 hpl hP HR3 HB3 HN3 HSRC HFIT HR4
      by_cases hin : 0 ≤ e1 ∧ e1 < 128
      · obtain ⟨i1, i2⟩ := hin
        obtain ⟨q, hq⟩ : ∃ q : Nat, e1 = (q : Int) := ⟨e1.toNat, by omega⟩
        have hq128 : q < 128 := by omega
        have hbe : bendS P e1 = P.set q (P.getD q 0 + 1) := by
          unfold bendS
          rw [if_pos ⟨i1, i2⟩, hq, Int.toNat_natCast]
        obtain ⟨b, hb⟩ : ∃ b, b = P.getD q 0 := ⟨_, rfl⟩
        have cq : w4.cell? ⟨kg, q, none⟩ = some (.int .u8 (b.toNat : Int)) := by
          rw [cell_of_row w4 kg q _ _ _ hr4, hb]
          have : q < P.length := by rw [HPL.out]; exact hq128
          simp [bvs, bv, List.getD, this]
        have fq : w4.frozen? ⟨kg, q, none⟩ = false := frozen_of_row w4 kg q _ _ hr4
        have hinc := byte_inc b
        have r5 := Go.Joins.block_setCell (i := q) hr4 (.int .u8 ((b + 1).toNat : Int))
        have e5 : (bvs P).toArray.setIfInBounds q (.int .u8 ((b + 1).toNat : Int)) = (bvs (bendS P e1)).toArray := by rw [hbe, ← hb, ← bvs_set]; rfl
        rw [e5] at r5
        have b5 : Below kg wo (w4.setCell ⟨kg, q, none⟩ (.int .u8 ((b + 1).toNat : Int))) := HB4.out.setCell (Nat.le_refl _) _
        have WR5 := Lib.hid (WR.out _ b5 r5)
        have q128 : (q : Int) < 128 := by omega
        rw [hq] at cb
        clear r5 b5 e5 hbe hb hr4 WR i1 i2 hq
        go_wp2_with fail
        refine WR5.out.mono ?_
        rintro e w6 ⟨⟨z, rfl⟩, hm⟩
        have RL := Lib.hid hm
        clear hm WR5
        go_wp2_with fail
        exact ⟨RL.out, by simp [intOf]⟩
      · have hbe : bendS P e1 = P := by unfold bendS; rw [if_neg hin]
        have WR4 := Lib.hid (WR.out w4 HB4.out (by rw [hbe]; exact hr4))
        clear hbe hr4 WR
        by_cases i1 : 0 ≤ e1
        · have i2 : ¬ e1 < 128 := fun h => hin ⟨i1, h⟩
          clear hin
          go_wp2_with fail
          refine WR4.out.mono ?_
          rintro e w6 ⟨⟨z, rfl⟩, hm⟩
          have RL := Lib.hid hm
          clear hm WR4
          go_wp2_with fail
          exact ⟨RL.out, by simp [intOf]⟩
        · clear hin
          go_wp2_with fail
          refine WR4.out.mono ?_
          rintro e w6 ⟨⟨z, rfl⟩, hm⟩
          have RL := Lib.hid hm
          clear hm WR4
          go_wp2_with fail
          exact ⟨RL.out, by simp [intOf]⟩
    · obtain ⟨y, hy, hcalm, hys, hin⟩ := rd_flush A B e0 e1
      have fl := flush_any HE.out (fun i l hi hl => hin i l hi hl)
      rw [← hy] at fl
      have hla := bendS_length (pad_length A) e0
      have hlb := bendS_length (pad_length B) e1
      obtain ⟨SA, hSA⟩ : ∃ l, l = bendS (pad A) e0 := ⟨_, rfl⟩
      obtain ⟨SB, hSB⟩ : ∃ l, l = bendS (pad B) e1 := ⟨_, rfl⟩
      rw [← hSA] at hys hla
      rw [← hSB] at hys hlb
      obtain ⟨FC, hFC⟩ : ∃ c, c = (rdX A B e0 e1 2).fcode := ⟨_, rfl⟩
      rw [← hFC] at fl
      have FL := Lib.hid fl
      have HC := Lib.hid hcalm
      have HY := Lib.hid hys
      have HLA := Lib.hid hla
      have HLB := Lib.hid hlb
      clear fl hcalm hys hla hlb hy hin hSA hSB hFC HSA HSB HRB
      go_wp2_with fail
      refine FL.out.mono ?_
      rintro e w7 ⟨rfl, hE7, hF7⟩
      have hb7 : Below w.heap.size w w7 := HBR.out.trans (hF7.below (fun i _ e => HO.out i e) HBR.out.size)
      have HE7 := Lib.hid hE7
      have HB7 := Lib.hid hb7
      have g0 := lsure_any hE7 0 (by unfold DS.has; rw [HY.out]; rfl)
      rw [HY.out] at g0
      have S0 := Lib.hid (show Calls Try.prog 14 #[.pointer (some ⟨d, 0, none⟩), .int .i64 0] w7 fun e w' => e = .returned (.string (str SA)) ∧ Below w7.heap.size w7 w' from g0)
      clear hE7 hF7 hb7 g0 FL
      go_wp2_with fail
      refine S0.out.mono ?_
      rintro e w8 ⟨rfl, hb8⟩
      have hE8 := HE7.out.below hb8 (Nat.le_refl _)
      have HE8 := Lib.hid hE8
      have HB8 := Lib.hid (HB7.out.trans (hb8.mono HB7.out.size))
      have g1 := lsure_any hE8 1 (by unfold DS.has; rw [HY.out]; rfl)
      rw [HY.out] at g1
      have S1 := Lib.hid (show Calls Try.prog 14 #[.pointer (some ⟨d, 0, none⟩), .int .i64 1] w8 fun e w' => e = .returned (.string (str SB)) ∧ Below w8.heap.size w8 w' from g1)
      clear hb8 hE8 g1 HE7 HB7 S0
      go_wp2_with fail
      refine S1.out.mono ?_
      rintro e w9 ⟨rfl, hb9⟩
      have HE9 := Lib.hid (HE8.out.below hb9 (Nat.le_refl _))
      have HB9 := Lib.hid (HB8.out.trans (hb9.mono HB8.out.size))
      have G6 := Lib.hid (get6_any HLA.out HLB.out w9)
      clear hb9 HE8 HB8 S1
      go_wp2_with fail
      refine G6.out.mono ?_
      rintro e w10 ⟨v, rfl, ⟨sq, ao, c, ws, rfl, hU, h6, hsq, hpad⟩, hb10⟩
      obtain ⟨kr, hkr⟩ : ∃ k, k = w10.heap.size := ⟨_, rfl⟩
      obtain ⟨w11, hw11⟩ : ∃ w11, w11 = w10.alloc (.cells #[.int .u64 (sq : Int), .slice ao ws.length c] 31) := ⟨_, rfl⟩
      have b11 : Below w10.heap.size w10 w11 := by rw [hw11]; exact (Below.refl _ _).alloc (Nat.le_refl _) _
      have r11 : w11.heap[kr]? = some (.cells #[.int .u64 (sq : Int), .slice ao ws.length c] 31 (0, 0)) := by rw [hw11, hkr]; exact heap_alloc_new _ _
      have HE11 := Lib.hid ((HE9.out.below hb10 (Nat.le_refl _)).below b11 (Nat.le_refl _))
      have HB10 := Lib.hid (HB9.out.trans (hb10.mono HB9.out.size))
      have HB11 := Lib.hid (HB10.out.trans (b11.mono HB10.out.size))
      have HR11 := Lib.hid r11
      have HU11 := Lib.hid (hU.below b11 (Nat.le_refl _))
      have HW11 := Lib.hid hw11
      have HKR := Lib.hid hkr
      have HSQ := Lib.hid hsq
      have HPAD := Lib.hid hpad
      have GT := Lib.hid (get_ok HE11.out 0 (by rw [HY.out]; exact Nat.le_refl 2) HC.out.up)
      have HLM := Lib.hid (show y.lastMark 0 = lastM SA SB 2 by have h := HC.out.last (first := 0) (by rw [HY.out]; exact Nat.le_refl 2); rw [HY.out] at h; exact h)
      clear hb10 b11 r11 hw11 hkr hsq hpad hU G6 HE9 HB9
      go_wp2_with fail
      rw [← HW11.out, ← HKR.out]
      rcases Nat.eq_zero_or_pos sq with hz | hz
      · subst hz
        have gt : Calls Try.prog 16 #[.pointer (some ⟨d, 0, none⟩), .int .i64 0] w11 fun e w' => e = .returned (.tuple #[.agg noM.cells.toArray, .int .i64 4]) ∧ Below w11.heap.size w11 w' := by
          have h := GT.out
          rw [HLM.out, ← HSQ.out, if_neg (by decide), if_neg (by decide)] at h
          exact h
        refine gt.mono ?_
        rintro e w12 ⟨rfl, hb12⟩
        obtain ⟨km, hkm⟩ : ∃ k, k = w12.heap.size := ⟨_, rfl⟩
        obtain ⟨w13, hw13⟩ : ∃ w13, w13 = w12.alloc (.cells noM.cells.toArray 34) := ⟨_, rfl⟩
        have b13 : Below w12.heap.size w12 w13 := by rw [hw13]; exact (Below.refl _ _).alloc (Nat.le_refl _) _
        have r13 : w13.heap[km]? = some (.cells noM.cells.toArray 34 (0, 0)) := by rw [hw13, hkm]; exact heap_alloc_new _ _
        have b1113 := hb12.trans (b13.mono hb12.size)
        have q13 := (b1113.block kr (lt_of_row HR11.out)).trans HR11.out
        have hc := fun j => cell_of_row w13 km j _ _ _ r13
        have l0 : w13.cell? ⟨km, 0, none⟩ = some (.int .u64 0) := hc 0
        have l1 : w13.cell? ⟨km, 1, none⟩ = some (.int .u64 0) := hc 1
        have l2 : w13.cell? ⟨km, 2, none⟩ = some (.int .u64 0) := hc 2
        have l3 : w13.cell? ⟨km, 3, none⟩ = some (.int .u64 0) := hc 3
        have l4 : w13.cell? ⟨km, 4, none⟩ = some (.int .u64 0) := hc 4
        have l5 : w13.cell? ⟨km, 5, none⟩ = some (.int .u64 0) := hc 5
        have l6 : w13.cell? ⟨km, 6, none⟩ = some (.int .u64 0) := hc 6
        have p0 : w13.cell? ⟨kr, 0, none⟩ = some (.int .u64 0) := (cells_row q13) 0 _ rfl
        have EQ : (Op.equalIn 9999 32 (.agg #[.int .u64 0, .int .u64 0, .int .u64 0, .int .u64 0, .int .u64 0, .int .u64 0]) (.agg #[.int .u64 0, .int .u64 0, .int .u64 0, .int .u64 0, .int .u64 0, .int .u64 0])).run Try.prog w13 = .ok true w13 := by kernel_rfl
        have HB13 := Lib.hid (HB11.out.trans (b1113.mono HB11.out.size))
        have HW13 := Lib.hid hw13
        have HKM := Lib.hid hkm
        clear hc hb12 b13 r13 b1113 q13 hw13 hkm gt GT HE11 HU11 HR11
        have HSN := Lib.hid (show (Try.prog.info? 34).map (·.size) = some noM.cells.toArray.size by rw [List.size_toArray]; exact Try.markSize noM_ok)
        go_upto_region 21 with (with_reducible show wpList _ _ _ _ _ _; refine wpList_store_new rfl 34 (.tmp 14) (.tmp 73) rfl 34 _ noM.cells.toArray rfl rfl HSN.out rfl noM.cells_one ?_; rw [← HW13.out, ← HKM.out])
        go_wp2_with fail
        go_ret
        exact ⟨rfl, HB13.out⟩
      · have hok : (padM sq ws).Ok := HPAD.out hz ▸ lastM_ok SA SB 2
        obtain ⟨M, hM⟩ : ∃ M, M = padM sq ws := ⟨_, rfl⟩
        rw [← hM] at hok
        have gt : Calls Try.prog 16 #[.pointer (some ⟨d, 0, none⟩), .int .i64 0] w11 fun e w' => e = .returned (.tuple #[.agg M.cells.toArray, .int .i64 0]) ∧ Below w11.heap.size w11 w' := by
          have h := GT.out
          rw [HLM.out, ← HSQ.out, if_pos hz, if_pos hz, HPAD.out hz, ← hM] at h
          exact h
        refine gt.mono ?_
        rintro e w12 ⟨rfl, hb12⟩
        obtain ⟨km, hkm⟩ : ∃ k, k = w12.heap.size := ⟨_, rfl⟩
        obtain ⟨w13, hw13⟩ : ∃ w13, w13 = w12.alloc (.cells M.cells.toArray 34) := ⟨_, rfl⟩
        have b13 : Below w12.heap.size w12 w13 := by rw [hw13]; exact (Below.refl _ _).alloc (Nat.le_refl _) _
        have r13 : w13.heap[km]? = some (.cells M.cells.toArray 34 (0, 0)) := by rw [hw13, hkm]; exact heap_alloc_new _ _
        have b1113 := hb12.trans (b13.mono hb12.size)
        have q13 := (b1113.block kr (lt_of_row HR11.out)).trans HR11.out
        have LK0 := like_any sq (HU11.out.below b1113 (Nat.le_refl _)) hM hok h6
        obtain ⟨s', b1, b2, b3, b4, b5, b6, hm7⟩ := six_of hok
        rw [hm7] at r13
        obtain ⟨l0, l1, l2, l3, l4, l5, l6⟩ := seven r13
        have LK := Lib.hid (show Calls Try.prog 13 #[.agg #[.int .u64 (s' : Int), .int .u64 (b1 : Int), .int .u64 (b2 : Int), .int .u64 (b3 : Int), .int .u64 (b4 : Int), .int .u64 (b5 : Int), .int .u64 (b6 : Int)], .agg #[.int .u64 (sq : Int), .slice ao ws.length c]] w13 fun e w' => e = .returned (.bool true) ∧ Below w13.heap.size w13 w' by
          rw [hm7] at LK0
          exact LK0)
        have p0 : w13.cell? ⟨kr, 0, none⟩ = some (.int .u64 (sq : Int)) := (cells_row q13) 0 _ rfl
        have p1 : w13.cell? ⟨kr, 1, none⟩ = some (.slice ao ws.length c) := by have := (cells_row q13) 1 _ rfl; rwa [Addr.add_mid, Nat.zero_add] at this
        have hz' : ¬ (sq : Int) = 0 := by omega
        have HB13 := Lib.hid (HB11.out.trans (b1113.mono HB11.out.size))
        have HW13 := Lib.hid hw13
        have HKM := Lib.hid hkm
        have HSM := Lib.hid (show (Try.prog.info? 34).map (·.size) = some M.cells.toArray.size by rw [List.size_toArray]; exact Try.markSize hok)
        have HM7 := Lib.hid (show (#[Value.int .u64 0, .int .u64 0, .int .u64 0, .int .u64 0, .int .u64 0, .int .u64 0, .int .u64 0] : Array Value).size = M.cells.toArray.size by have := MkD.cells_length hok; simp [this])
        clear hb12 b13 r13 b1113 q13 hw13 hkm gt GT HE11 HU11 HR11 LK0 hm7 hM hok HPAD HLM HSQ
        go_upto_region 21 with (with_reducible show wpList _ _ _ _ _ _; refine wpList_store_new rfl 34 (.tmp 14) (.tmp 73) rfl 34 _ M.cells.toArray rfl rfl HSM.out HM7.out M.cells_one ?_; rw [← HW13.out, ← HKM.out])
        go_wp2_with fail
        refine LK.out.mono ?_
        rintro e w14 ⟨rfl, hb14⟩
        have HB14 := Lib.hid (HB13.out.trans (hb14.mono HB13.out.size))
        clear hb14 LK HB13
        go_wp2_with fail
        go_ret
        exact ⟨rfl, HB14.out⟩
end Go.Proofs.Ytgbmkolpdnenlaa.Dk
