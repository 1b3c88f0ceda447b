/- has, fitsDay, Fits, Text. -/
import Derived.Test.YthfjahagmfgfeaaGreatDoorKCi
import Derived.Test.YthfjahagmfgfeaaGreatDoorKCb
import Derived.Test.YthfjahagmfgfeaaGreatDoorKCc
import Derived.Deep.RegionHeld3
namespace Go.Proofs.YthfjahagmfgfeaaGreatDoor.Cr
open Go Go.RowKit
set_option linter.unusedVariables false
set_option linter.unusedSimpArgs false
theorem has_any (L : List Nat) (hL : ∀ n ∈ L, n < 64) (st : Bool) (n : Nat) (hn : n < 64) (w : World) : Calls Tryz.prog 70 #[.agg #[.int .u64 (mask L : Int), .bool st], .int .i64 (n : Int)] w fun e w' => e = .returned (.bool (decide (n ∈ L))) ∧ Below w.heap.size w w' := by
  have hm := mask_lt hL
  have hbit := mask_bit L n
  obtain ⟨M, hM⟩ : ∃ M, M = mask L := ⟨_, rfl⟩
  rw [← hM] at hm hbit ⊢
  obtain ⟨r, hr⟩ : ∃ r, r = decide (n ∈ L) := ⟨_, rfl⟩
  rw [← hr] at hbit ⊢
  have HB := Lib.hid hbit
  clear hM hr hbit
  go_enter Tryz.func70, Tryz.ntmps70
  have e1 : (M : Int) / 2 ^ n = ((M / 2 ^ n : Nat) : Int) := by simp
  have e2 : bits BinOp.and IntKind.u64 ((M / 2 ^ n : Nat) : Int) 1 = ((M / 2 ^ n % 2 : Nat) : Int) := by
    have h := u64_and_nat (M / 2 ^ n) 1 (Nat.lt_of_le_of_lt (Nat.div_le_self _ _) hm) (by decide)
    rw [Nat.and_one_is_mod] at h
    exact h
  have e3 : (((M / 2 ^ n % 2 : Nat) : Int) == 1) = r := by
    rw [← HB.out, Nat.testBit_eq_decide_div_mod_eq, Bool.eq_iff_iff, beq_iff_eq, decide_eq_true_eq]
    omega
  have E1 := Lib.hid e1
  have E2 := Lib.hid e2
  have E3 := Lib.hid e3
  clear e1 e2 e3
  go_wp2
  go_ret
  refine ⟨?_, (Below.refl _ _).alloc (Nat.le_refl _) _⟩
  rw [E1.out, E2.out, E3.out]
  rfl
/-- Does a date's day fit? -/
def fitsDayN (D : List (List Nat × Bool)) (x : DateD) : Bool :=
  (if (D.getD 2 ([], false)).2 || (D.getD 4 ([], false)).2 then decide (x.d ∈ (D.getD 2 ([], false)).1) && decide (x.w ∈ (D.getD 4 ([], false)).1) else decide (x.d ∈ (D.getD 2 ([], false)).1) || decide (x.w ∈ (D.getD 4 ([], false)).1)) && decide (x.m ∈ (D.getD 3 ([], false)).1)
def fitsN (D : List (List Nat × Bool)) (x : DateD) : Bool := fitsDayN D x && decide (x.h ∈ (D.getD 1 ([], false)).1) && decide (x.mi ∈ (D.getD 0 ([], false)).1)
/-- A date whose parts are small. -/
structure DateD.Small (x : DateD) : Prop where
  m : x.m < 64
  d : x.d < 64
  h : x.h < 64
  mi : x.mi < 64
  w : x.w < 64
theorem SpecAt.five {w : World} {g : Nat} {l : List UInt8} {D : List (List Nat × Bool)} (h : SpecAt w g l D) : ∃ a b c d e, D = [a, b, c, d, e] := by
  match D, h.len with
  | [a, b, c, d, e], _ => exact ⟨a, b, c, d, e, rfl⟩
set_option maxHeartbeats 4000000 in
theorem fitsDay_any (g : Nat) (l : List UInt8) (D : List (List Nat × Bool)) (x : DateD) (hx : x.Small) (w : World) (hS : SpecAt w g l D) :
    Calls Tryz.prog 69 #[.pointer (some ⟨g, 0, none⟩), .agg x.list.toArray] w fun e w' => e = .returned (.bool (fitsDayN D x)) ∧ Below w.heap.size w w' := by
  obtain ⟨⟨L0, s0⟩, ⟨L1, s1⟩, ⟨L2, s2⟩, ⟨L3, s3⟩, ⟨L4, s4⟩, rfl⟩ := hS.five
  have hlt := hS.lt
  have m2 := has_any L2 (hlt (L2, s2) (by simp)) s2 x.d hx.d
  have m3 := has_any L3 (hlt (L3, s3) (by simp)) s3 x.m hx.m
  have m4 := has_any L4 (hlt (L4, s4) (by simp)) s4 x.w hx.w
  have hrow := hS.row
  obtain ⟨w1, hw1⟩ : ∃ w1, w1 = w.alloc (.cells x.list.toArray 102) := ⟨_, rfl⟩
  obtain ⟨k, hk⟩ : ∃ k, k = w.heap.size := ⟨_, rfl⟩
  have hb1 : Below w.heap.size w w1 := by rw [hw1]; exact (Below.refl _ _).alloc (Nat.le_refl _) _
  have nk : w1.heap[k]? = some (.cells x.list.toArray 102 (0, 0)) := by rw [hw1, hk]; exact heap_alloc_new _ _
  have hr1 := (hb1.block g (lt_of_rowW hrow)).trans hrow
  have hD : fitsDayN [(L0, s0), (L1, s1), (L2, s2), (L3, s3), (L4, s4)] x = ((if s2 || s4 then decide (x.d ∈ L2) && decide (x.w ∈ L4) else decide (x.d ∈ L2) || decide (x.w ∈ L4)) && decide (x.m ∈ L3)) := rfl
  rw [hD]
  obtain ⟨b2, hb2⟩ : ∃ b, b = decide (x.d ∈ L2) := ⟨_, rfl⟩
  obtain ⟨b3, hb3⟩ : ∃ b, b = decide (x.m ∈ L3) := ⟨_, rfl⟩
  obtain ⟨b4, hb4⟩ : ∃ b, b = decide (x.w ∈ L4) := ⟨_, rfl⟩
  rw [← hb2, ← hb3, ← hb4]
  simp only [← hb2] at m2
  simp only [← hb3] at m3
  simp only [← hb4] at m4
  obtain ⟨M2, hM2⟩ : ∃ M, M = mask L2 := ⟨_, rfl⟩
  obtain ⟨M3, hM3⟩ : ∃ M, M = mask L3 := ⟨_, rfl⟩
  obtain ⟨M4, hM4⟩ : ∃ M, M = mask L4 := ⟨_, rfl⟩
  have KP := Lib.hid (show ∀ W : World, Below w1.heap.size w1 W → W.cell? ⟨g, 5, none⟩ = some (.int .u64 (M2 : Int)) ∧ W.cell? ⟨g, 6, none⟩ = some (.bool s2) ∧ W.cell? ⟨g, 7, none⟩ = some (.int .u64 (M3 : Int)) ∧ W.cell? ⟨g, 8, none⟩ = some (.bool s3) ∧ W.cell? ⟨g, 9, none⟩ = some (.int .u64 (M4 : Int)) ∧ W.cell? ⟨g, 10, none⟩ = some (.bool s4)
      ∧ W.cell? ⟨k, 1, none⟩ = some (.int .i64 (x.m : Int)) ∧ W.cell? ⟨k, 2, none⟩ = some (.int .i64 (x.d : Int)) ∧ W.cell? ⟨k, 5, none⟩ = some (.int .i64 (x.w : Int)) from fun W hW => by
    have r1 := (hW.block g (lt_of_rowW hr1)).trans hr1
    have r2 := (hW.block k (lt_of_rowW nk)).trans nk
    have q := fun j => cell_of_rowW W g j _ _ _ r1
    have p := fun j => cell_of_rowW W k j _ _ _ r2
    rw [q, q, q, q, q, q, p, p, p, hM2, hM3, hM4]
    exact ⟨rfl, rfl, rfl, rfl, rfl, rfl, rfl, rfl, rfl⟩)
  rw [← hM2] at m2
  rw [← hM3] at m3
  rw [← hM4] at m4
  have C2 := Lib.hid m2
  have C3 := Lib.hid m3
  have C4 := Lib.hid m4
  have HB1 := Lib.hid hb1
  have HW1 := Lib.hid hw1
  have HK := Lib.hid hk
  obtain ⟨xl, hxl⟩ : ∃ xl, xl = x.list.toArray := ⟨_, rfl⟩
  rw [← hxl] at HW1 ⊢
  clear hlt m2 m3 m4 hrow hS hw1 hk hb1 nk hr1 hD hb2 hb3 hb4 hM2 hM3 hM4 hxl
  generalize (x.m : Int) = xm at *
  generalize (x.d : Int) = xd at *
  generalize (x.w : Int) = xw at *
  go_enter Tryz.func69, Tryz.ntmps69
  go_upto_region 1 with fail
  rw [← HW1.out, ← HK.out]
  go_cut [5, 6] (fun s5 s6 wx => s5 = .bool b2 ∧ s6 = .bool b4 ∧ Below w1.heap.size w1 wx)
  case first =>
    have B0 := Lib.hid (below_drewN (Below.refl w1.heap.size w1) 1)
    go_region_held3 (fun w' => w'.cell? ⟨g, 5, none⟩ = some (.int .u64 (M2 : Int)) ∧ w'.cell? ⟨g, 6, none⟩ = some (.bool s2) ∧ w'.cell? ⟨g, 7, none⟩ = some (.int .u64 (M3 : Int)) ∧ w'.cell? ⟨g, 8, none⟩ = some (.bool s3) ∧ w'.cell? ⟨g, 9, none⟩ = some (.int .u64 (M4 : Int)) ∧ w'.cell? ⟨g, 10, none⟩ = some (.bool s4)
      ∧ w'.cell? ⟨k, 1, none⟩ = some (.int .i64 xm) ∧ w'.cell? ⟨k, 2, none⟩ = some (.int .i64 xd) ∧ w'.cell? ⟨k, 5, none⟩ = some (.int .i64 xw))
      (first
        | exact KP.out _ B0.out
        | exact KP.out _ B1.out
        | exact KP.out _ B2.out)
      (first
        | (go_at_call 70; first | ((with_reducible refine (C2.out _).mono ?_); rintro e w' ⟨rfl, hb⟩; first | (have B2 := Lib.hid (B1.out.trans (hb.mono B1.out.size)); clear hb) | (have B1 := Lib.hid (B0.out.trans (hb.mono B0.out.size)); clear hb)) | ((with_reducible refine (C4.out _).mono ?_); rintro e w' ⟨rfl, hb⟩; first | (have B2 := Lib.hid (B1.out.trans (hb.mono B1.out.size)); clear hb) | (have B1 := Lib.hid (B0.out.trans (hb.mono B0.out.size)); clear hb))))
    all_goals
      go_wp2_with fail
      go_meet
    all_goals exact ⟨rfl, rfl, B2.out⟩
  case rest =>
    obtain ⟨rfl, rfl, hB⟩ := hcut
    have HB := Lib.hid hB
    obtain ⟨e5, e6, e7, e8, e9, e10, f1, f2, f5⟩ := KP.out wc hB
    clear hB
    cases s2 <;> cases s4 <;> cases b2 <;> cases b4
    all_goals
      go_wp2_with fail
      first
        | (go_quiet (fail)
           go_wp2_with fail
           go_ret
           exact ⟨rfl, below_drewN (HB1.out.trans (HB.out.mono HB1.out.size)) _⟩)
        | (have B0 := Lib.hid (below_drewN HB.out 1)
           go_region_held3 (fun w' => w'.cell? ⟨g, 7, none⟩ = some (.int .u64 (M3 : Int)) ∧ w'.cell? ⟨g, 8, none⟩ = some (.bool s3) ∧ w'.cell? ⟨k, 1, none⟩ = some (.int .i64 xm))
             (first
               | exact ⟨(KP.out _ B0.out).2.2.1, (KP.out _ B0.out).2.2.2.1, (KP.out _ B0.out).2.2.2.2.2.2.1⟩
               | exact ⟨(KP.out _ B1.out).2.2.1, (KP.out _ B1.out).2.2.2.1, (KP.out _ B1.out).2.2.2.2.2.2.1⟩)
             (first
               | (go_at_call 70; (with_reducible refine (C3.out _).mono ?_); rintro e w' ⟨rfl, hb⟩; have B1 := Lib.hid (B0.out.trans (hb.mono B0.out.size)); clear hb))
           all_goals
             go_wp2_with fail
             go_ret
             exact ⟨rfl, HB1.out.trans (B1.out.mono HB1.out.size)⟩)
end Go.Proofs.YthfjahagmfgfeaaGreatDoor.Cr
