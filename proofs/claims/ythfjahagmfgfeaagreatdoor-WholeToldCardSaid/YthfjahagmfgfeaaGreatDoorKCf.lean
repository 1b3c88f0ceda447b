/- parseStep, parseBody, parsePart. -/
import Derived.Test.YthfjahagmfgfeaaGreatDoorKCe
import Derived.Laws.BitsAllLaws
namespace Go.Proofs.YthfjahagmfgfeaaGreatDoor.Cr
open Go Go.RowKit
set_option linter.unusedVariables false
set_option linter.unusedSimpArgs false
/-- What parseStep answers. -/
def psE (l : List UInt8) : Int := match pn l with | none => 8 | some n => if n = 0 then 1 else 0
def psV (l : List UInt8) : Nat := (pn l).getD 0
theorem pstep_any (l : List UInt8) (hl : l.length ≤ 9223372036854775807) (w : World) : Calls Tryz.prog 114 #[.string (str l)] w fun e w' => e = .returned (.tuple #[.int .i64 (psV l : Int), .int .i64 (psE l)]) ∧ w' = w := by
  have hc := pnum_any l hl w
  unfold psE psV
  cases hp : pn l with
  | none =>
    rw [hp] at hc
    simp only [pnA] at hc
    go_enter Tryz.func114, Tryz.ntmps114
    go_wp2_with (go_at_call 132; refine hc.mono ?_; rintro e w' ⟨rfl, rfl⟩)
    go_ret2
    exact ⟨rfl, rfl⟩
  | some n =>
    rw [hp] at hc
    simp only [pnA] at hc
    have hn := pn_le hp
    simp only [Option.getD_some]
    by_cases h0 : n = 0
    · subst h0
      go_enter Tryz.func114, Tryz.ntmps114
      go_wp2_with (go_at_call 132; refine hc.mono ?_; rintro e w' ⟨rfl, rfl⟩)
      go_ret2
      exact ⟨rfl, rfl⟩
    · rw [if_neg h0]
      have h1 : ¬ (n : Int) = 0 := by omega
      go_enter Tryz.func114, Tryz.ntmps114
      go_wp2_with (go_at_call 132; refine hc.mono ?_; rintro e w' ⟨rfl, rfl⟩)
      go_ret2
      exact ⟨rfl, rfl⟩
/-- From where to where a part goes. -/
def pb (l : List UInt8) (lo hi : Nat) (st : Bool) : Option (Nat × Nat) :=
  if l = [42] then some (lo, hi) else
  match pn (cutL 45 l).1 with
  | none => none
  | some f => if (cutL 45 l).2.2 = true then (match pn (cutL 45 l).2.1 with | none => none | some t => some (f, t)) else if st = true then some (f, hi) else some (f, f)
def pbPost (o : Option (Nat × Nat)) (e : Ending) : Prop := match o with
  | some p => e = .returned (.tuple #[.agg #[.int .i64 (p.1 : Int), .int .i64 (p.2 : Int)], .bool true])
  | none => ∃ a b : Nat, a ≤ 99 ∧ b ≤ 99 ∧ e = .returned (.tuple #[.agg #[.int .i64 (a : Int), .int .i64 (b : Int)], .bool false])
theorem pbody_any (l : List UInt8) (hl : l.length < 4294967281) (lo hi : Nat) (hlo : lo ≤ 99) (hhi : hi ≤ 99) (st : Bool) (w : World) (hT : CT w) :
    Calls Tryz.prog 115 #[.string (str l), .agg #[.int .i64 (lo : Int), .int .i64 (hi : Int)], .bool st] w fun e w' => pbPost (pb l lo hi st) e ∧ Below w.heap.size w w' := by
  unfold pb
  by_cases hs : l = [42]
  · subst hs
    rw [if_pos rfl]
    have hS : str [42] = ⟨#[42]⟩ := rfl
    rw [hS]
    clear hS
    go_enter Tryz.func115, Tryz.ntmps115
    go_wp2_with fail
    refine bodyPost_ret (results_row_tmp rfl _ _ (w.heap.size + 1) 99 [.int .i64 (lo : Int), .int .i64 (hi : Int)] (0, 0) _ _ rfl rfl (by
      have h := heap_alloc_new (w.alloc (.cells #[.int .i64 (lo : Int), .int .i64 (hi : Int)] 99)) (.cells #[.int .i64 (lo : Int), .int .i64 (hi : Int)] 99)
      simpa using h) Tryz.underlying99 rfl (by kernel_rfl)) rfl ?_
    exact ⟨rfl, ((Below.refl _ _).alloc (Nat.le_refl _) _).alloc (by simp) _⟩
  · rw [if_neg hs]
    have hcl := cutL_len 45 l
    obtain ⟨w1, hw1⟩ : ∃ w1, w1 = w.alloc (.cells #[.int .i64 (lo : Int), .int .i64 (hi : Int)] 99) := ⟨_, rfl⟩
    obtain ⟨k4, hk4⟩ : ∃ k, k = w.heap.size := ⟨_, rfl⟩
    obtain ⟨w2, hw2⟩ : ∃ w2, w2 = w1.alloc (.cells #[.int .i64 0, .int .i64 0] 99) := ⟨_, rfl⟩
    obtain ⟨k6, hk6⟩ : ∃ k, k = w.heap.size + 1 := ⟨_, rfl⟩
    have hk6' : k6 = w1.heap.size := by rw [hk6, hw1]; simp
    have hb1 : Below w.heap.size w w1 := by rw [hw1]; exact (Below.refl _ _).alloc (Nat.le_refl _) _
    have hb2 : Below w1.heap.size w1 w2 := by rw [hw2]; exact (Below.refl _ _).alloc (Nat.le_refl _) _
    have n4 : w1.heap[k4]? = some (.cells #[.int .i64 (lo : Int), .int .i64 (hi : Int)] 99 (0, 0)) := by rw [hw1, hk4]; exact heap_alloc_new _ _
    have n6 : w2.heap[k6]? = some (.cells #[.int .i64 0, .int .i64 0] 99 (0, 0)) := by rw [hw2, hk6']; exact heap_alloc_new _ _
    have hbb : Below w.heap.size w w2 := hb1.trans (hb2.mono hb1.size)
    have hk46 : w.heap.size ≤ k6 := by have := hb1.size; omega
    have cc := cut_any 45 l hl w2 (hT.below hbb (Nat.le_refl _))
    obtain ⟨R, hcc⟩ : ∃ R, R = cutL 45 l := ⟨_, rfl⟩
    rw [← hcc] at cc hcl ⊢
    obtain ⟨ra, rb, rf⟩ := R
    dsimp only at cc hcl ⊢
    obtain ⟨SA, hSA⟩ : ∃ SA, SA = str ra := ⟨_, rfl⟩
    obtain ⟨SB, hSB⟩ : ∃ SB, SB = str rb := ⟨_, rfl⟩
    have pa := fun W => pnum_any ra (by omega) W
    have pb' := fun W => pnum_any rb (by omega) W
    rw [← hSA, ← hSB] at cc
    rw [← hSA] at pa
    rw [← hSB] at pb'
    have N4 := Lib.hid ((hb2.block k4 (lt_of_rowW n4)).trans n4)
    have N6' := Lib.hid n6
    have HB2 := Lib.hid hbb
    have HW1 := Lib.hid hw1
    have HW2 := Lib.hid hw2
    have HK4 := Lib.hid hk4
    have HK6' := Lib.hid hk6
    have HK6 := Lib.hid hk46
    obtain ⟨S, hSS⟩ : ∃ S, S = str l := ⟨_, rfl⟩
    rw [← hSS] at cc
    have CC := Lib.hid cc
    have PA := Lib.hid pa
    have PB := Lib.hid pb'
    have SZ2 := Lib.hid (show ∀ a b : Int, (Tryz.prog.info? 99).map (·.size) = some (#[.int .i64 a, .int .i64 b] : Array Value).size from fun a b => by kernel_rfl)
    have hS : (S.toList == [42]) = false := by
      rw [hSS, ByteArray.toList_eq, beq_eq_false_iff_ne, str_data]
      exact hs
    rw [← hSS] at ⊢
    clear hw1 hk4 hw2 hk6 hk6' hb1 hb2 n4 n6 hbb hk46 cc hcc hSA hSB pa pb' hSS hs hT hcl
    go_enter Tryz.func115, Tryz.ntmps115
    go_upto_region 1 with fail
    rw [← HW1.out, ← HW2.out, ← HK6'.out, ← HK4.out]
    go_wp2_with fail
    refine CC.out.mono ?_
    rintro e w' ⟨rfl, i3, h⟩
    obtain ⟨w3, hw3⟩ : ∃ w3, w3 = w2.drewN i3 := ⟨_, rfl⟩
    rw [← hw3] at h
    have h2 := h.symm
    subst h2
    have N6 := Lib.hid (show w3.heap[k6]? = some (.cells #[.int .i64 0, .int .i64 0] 99 (0, 0)) from by rw [hw3]; exact N6'.out)
    have n4 : w3.heap[k4]? = some (.cells #[.int .i64 (lo : Int), .int .i64 (hi : Int)] 99 (0, 0)) := by rw [hw3]; exact N4.out
    have c1 : w3.cell? ⟨k4, 1, none⟩ = some (.int .i64 (hi : Int)) := by rw [cell_of_rowW w3 k4 1 _ _ _ n4]; rfl
    have HB3 := Lib.hid (show Below w.heap.size w w3 from by rw [hw3]; have h := HB2.out; exact ⟨h.os, h.tape, h.output, h.size, h.block⟩)
    clear hw3 n4
    cases hpa : pn ra with
    | none =>
      have PA' := PA.out w3
      rw [hpa] at PA'
      simp only [pnA] at PA'
      cases rf
      · go_wp2_with (first
          | (go_at_call 132; refine PA'.mono ?_; rintro e w' ⟨rfl, rfl⟩)
          | (with_reducible show wpList _ _ _ _ _ _; refine wpList_store_whole rfl 99 (.tmp 6) (.tmp 31) rfl k6 99 _ #[.int .i64 0, .int .i64 0] rfl rfl N6.out (SZ2.out _ _) rfl (by kernel_rfl) ?_))
        refine bodyPost_ret (results_row_tmp rfl _ _ k6 99 [.int .i64 0, .int .i64 0] (0, 0) _ _ rfl rfl (setRow_heap _ k6 _ _ _ _ N6.out) Tryz.underlying99 rfl (SZ2.out _ _)) rfl ?_
        exact ⟨⟨0, 0, by decide, by decide, rfl⟩, below_setRow HB3.out HK6.out _⟩
      · go_wp2_with (first
          | (go_at_call 132; refine PA'.mono ?_; rintro e w' ⟨rfl, rfl⟩)
          | (with_reducible show wpList _ _ _ _ _ _; refine wpList_store_whole rfl 99 (.tmp 6) (.tmp 31) rfl k6 99 _ #[.int .i64 0, .int .i64 0] rfl rfl N6.out (SZ2.out _ _) rfl (by kernel_rfl) ?_))
        refine bodyPost_ret (results_row_tmp rfl _ _ k6 99 [.int .i64 0, .int .i64 0] (0, 0) _ _ rfl rfl (setRow_heap _ k6 _ _ _ _ N6.out) Tryz.underlying99 rfl (SZ2.out _ _)) rfl ?_
        exact ⟨⟨0, 0, by decide, by decide, rfl⟩, below_setRow HB3.out HK6.out _⟩
    | some f =>
      have hf := pn_le hpa
      have PA' := PA.out w3
      rw [hpa] at PA'
      simp only [pnA] at PA'
      cases rf
      · cases st
        · go_wp2_with (first
            | (go_at_call 132; refine PA'.mono ?_; rintro e w' ⟨rfl, rfl⟩)
            | (with_reducible show wpList _ _ _ _ _ _; refine wpList_store_whole rfl 99 (.tmp 6) (.tmp 49) rfl k6 99 _ #[.int .i64 (f : Int), .int .i64 (f : Int)] rfl rfl N6.out (SZ2.out _ _) rfl (by kernel_rfl) ?_))
          refine bodyPost_ret (results_row_tmp rfl _ _ k6 99 [.int .i64 (f : Int), .int .i64 (f : Int)] (0, 0) _ _ rfl rfl (setRow_heap _ k6 _ _ _ _ N6.out) Tryz.underlying99 rfl (SZ2.out _ _)) rfl ?_
          exact ⟨rfl, below_setRow HB3.out HK6.out _⟩
        · go_wp2_with (first
            | (go_at_call 132; refine PA'.mono ?_; rintro e w' ⟨rfl, rfl⟩)
            | (with_reducible show wpList _ _ _ _ _ _; refine wpList_store_whole rfl 99 (.tmp 6) (.tmp 46) rfl k6 99 _ #[.int .i64 (f : Int), .int .i64 (hi : Int)] rfl rfl N6.out (SZ2.out _ _) rfl (by kernel_rfl) ?_))
          refine bodyPost_ret (results_row_tmp rfl _ _ k6 99 [.int .i64 (f : Int), .int .i64 (hi : Int)] (0, 0) _ _ rfl rfl (setRow_heap _ k6 _ _ _ _ N6.out) Tryz.underlying99 rfl (SZ2.out _ _)) rfl ?_
          exact ⟨rfl, below_setRow HB3.out HK6.out _⟩
      · cases hpb : pn rb with
        | none =>
          have PB' := PB.out w3
          rw [hpb] at PB'
          simp only [pnA] at PB'
          have HPA := Lib.hid PA'
          have HPB := Lib.hid PB'
          clear PA' PB'
          go_wp2_with fail
          refine HPA.out.mono ?_
          rintro e w' ⟨rfl, h⟩
          have h2 := h.symm
          subst h2
          go_wp2_with fail
          refine HPB.out.mono ?_
          rintro e w' ⟨rfl, h⟩
          have h2 := h.symm
          subst h2
          go_wp2_with (with_reducible show wpList _ _ _ _ _ _; refine wpList_store_whole rfl 99 (.tmp 6) (.tmp 40) rfl k6 99 _ #[.int .i64 (f : Int), .int .i64 0] rfl rfl N6.out (SZ2.out _ _) rfl (by kernel_rfl) ?_)
          refine bodyPost_ret (results_row_tmp rfl _ _ k6 99 [.int .i64 (f : Int), .int .i64 0] (0, 0) _ _ rfl rfl (setRow_heap _ k6 _ _ _ _ N6.out) Tryz.underlying99 rfl (SZ2.out _ _)) rfl ?_
          exact ⟨⟨f, 0, hf, by decide, rfl⟩, below_setRow HB3.out HK6.out _⟩
        | some t =>
          have ht := pn_le hpb
          have PB' := PB.out w3
          rw [hpb] at PB'
          simp only [pnA] at PB'
          have HPA := Lib.hid PA'
          have HPB := Lib.hid PB'
          clear PA' PB'
          go_wp2_with fail
          refine HPA.out.mono ?_
          rintro e w' ⟨rfl, h⟩
          have h2 := h.symm
          subst h2
          go_wp2_with fail
          refine HPB.out.mono ?_
          rintro e w' ⟨rfl, h⟩
          have h2 := h.symm
          subst h2
          go_wp2_with (with_reducible show wpList _ _ _ _ _ _; refine wpList_store_whole rfl 99 (.tmp 6) (.tmp 40) rfl k6 99 _ #[.int .i64 (f : Int), .int .i64 (t : Int)] rfl rfl N6.out (SZ2.out _ _) rfl (by kernel_rfl) ?_)
          refine bodyPost_ret (results_row_tmp rfl _ _ k6 99 [.int .i64 (f : Int), .int .i64 (t : Int)] (0, 0) _ _ rfl rfl (setRow_heap _ k6 _ _ _ _ N6.out) Tryz.underlying99 rfl (SZ2.out _ _)) rfl ?_
          exact ⟨rfl, below_setRow HB3.out HK6.out _⟩
end Go.Proofs.YthfjahagmfgfeaaGreatDoor.Cr
