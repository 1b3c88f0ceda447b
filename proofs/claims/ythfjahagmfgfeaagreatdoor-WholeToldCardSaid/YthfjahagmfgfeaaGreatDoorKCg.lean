/- parsePart. -/
import Derived.Test.YthfjahagmfgfeaaGreatDoorKCf
namespace Go.Proofs.YthfjahagmfgfeaaGreatDoor.Cr
open Go Go.RowKit
set_option linter.unusedVariables false
set_option linter.unusedSimpArgs false
/-- From n on, by steps of s, up to t. -/
def ap (t s n : Nat) : List Nat := if h : n ≤ t ∧ 0 < s then n :: ap t s (n + s) else []
termination_by t + 1 - n
theorem ap_stop {t s n : Nat} (h : ¬ n ≤ t) : ap t s n = [] := by rw [ap, dif_neg (fun e => h e.1)]
theorem ap_go {t s n : Nat} (h : n ≤ t) (hs : 0 < s) : ap t s n = n :: ap t s (n + s) := by rw [ap, dif_pos ⟨h, hs⟩]
/-- The bits of numbers. -/
def mask : List Nat → Nat
  | [] => 0
  | n :: L => 2 ^ n ||| mask L
theorem mask_lt : ∀ {L : List Nat}, (∀ n ∈ L, n < 64) → mask L < 18446744073709551616
  | [], _ => by decide
  | n :: L, h => by
    have h1 := mask_lt (L := L) (fun m hm => h m (by simp [hm]))
    have h2 : 2 ^ n < 2 ^ 64 := Nat.pow_lt_pow_right (by decide) (h n (by simp))
    exact Nat.or_lt_two_pow (n := 64) h2 h1
theorem mask_bit : ∀ (L : List Nat) (k : Nat), (mask L).testBit k = decide (k ∈ L)
  | [], k => by simp [mask]
  | n :: L, k => by
    rw [mask, Nat.testBit_or, mask_bit L k, Nat.testBit_two_pow]
    simp only [List.mem_cons, Bool.decide_or]
    congr 1
    simp [eq_comm]
theorem ap_le {t s : Nat} : ∀ (n : Nat), ∀ m ∈ ap t s n, m ≤ t := by
  intro n
  induction h : t + 1 - n using Nat.strongRecOn generalizing n with
  | _ d ih =>
    intro m hm
    by_cases hc : n ≤ t ∧ 0 < s
    · rw [ap_go hc.1 hc.2] at hm
      rcases List.mem_cons.1 hm with rfl | hm
      · exact hc.1
      · exact ih (t + 1 - (n + s)) (by omega) (n + s) rfl m hm
    · rw [ap, dif_neg hc] at hm
      cases hm
/-- What parsePart answers: the error, the numbers. -/
def ppR (l : List UInt8) (lo hi : Nat) : Int × List Nat :=
  if (cutL 47 l).2.2 = true ∧ psE (cutL 47 l).2.1 ≠ 0 then (psE (cutL 47 l).2.1, [])
  else match pb (cutL 47 l).1 lo hi (cutL 47 l).2.2 with
    | none => (8, [])
    | some p => if p.1 < lo ∨ hi < p.2 ∨ p.2 < p.1 then (1, []) else (0, ap p.2 (if (cutL 47 l).2.2 = true then psV (cutL 47 l).2.1 else 1) p.1)
theorem pb_le {l : List UInt8} {lo hi : Nat} {st : Bool} {p : Nat × Nat} (h : pb l lo hi st = some p) (hlo : lo ≤ 99) (hhi : hi ≤ 99) : p.1 ≤ 99 ∧ p.2 ≤ 99 := by
  unfold pb at h
  split at h
  · injection h with h; subst h; exact ⟨hlo, hhi⟩
  · split at h
    · cases h
    · rename_i f hf
      have := pn_le hf
      split at h
      · split at h
        · cases h
        · rename_i t ht
          have := pn_le ht
          injection h with h; subst h; exact ⟨by assumption, by assumption⟩
      · split at h
        · injection h with h; subst h; exact ⟨by assumption, hhi⟩
        · injection h with h; subst h; exact ⟨by assumption, by assumption⟩
def paRel (G t s : Nat) (m n : Value) : Prop := ∃ M k : Nat, m = .int .u64 (M : Int) ∧ n = .int .i64 (k : Int) ∧ M < 18446744073709551616 ∧ k ≤ t + 99 ∧ M ||| mask (ap t s k) = G
theorem below_drewN {B : Nat} {a w : World} (h : Below B a w) (n : Nat) : Below B a (w.drewN n) := ⟨h.os, h.tape, h.output, h.size, h.block⟩
theorem wrap_pow {k : Nat} (hk : k < 64) : IntKind.u64.wrap ((2 : Int) ^ k) = ((2 ^ k : Nat) : Int) := by
  have h2 : 2 ^ k < 2 ^ 64 := Nat.pow_lt_pow_right (by decide) hk
  have e : ((2 : Int) ^ k) = ((2 ^ k : Nat) : Int) := by simp
  rw [e, IntKind.wrap_u64]
  generalize 2 ^ k = q at *
  omega
theorem or_pow {M k : Nat} (hM : M < 18446744073709551616) (hk : k < 64) : bits BinOp.or IntKind.u64 (M : Int) (IntKind.u64.wrap ((2 : Int) ^ k)) = ((M ||| 2 ^ k : Nat) : Int) ∧ M ||| 2 ^ k < 18446744073709551616 := by
  have h2 : 2 ^ k < 2 ^ 64 := Nat.pow_lt_pow_right (by decide) hk
  rw [wrap_pow hk, u64_or_nat _ _ hM (by omega)]
  exact ⟨rfl, Nat.or_lt_two_pow (n := 64) hM h2⟩
set_option maxHeartbeats 4000000 in
theorem ppart_any (l : List UInt8) (hl : l.length < 4294967281) (lo hi : Nat) (hlo : lo ≤ 63) (hhi : hi ≤ 63) (w : World) (hT : CT w) :
    Calls Tryz.prog 94 #[.string (str l), .agg #[.int .i64 (lo : Int), .int .i64 (hi : Int)]] w fun e w' => e = .returned (.tuple #[.int .u64 (mask (ppR l lo hi).2 : Int), .int .i64 (ppR l lo hi).1]) ∧ Below w.heap.size w w' := by
  obtain ⟨A, hA⟩ : ∃ A, A = ppR l lo hi := ⟨_, rfl⟩
  rw [← hA]
  unfold ppR at hA
  have hcl := cutL_len 47 l
  obtain ⟨w1, hw1⟩ : ∃ w1, w1 = w.alloc (.cells #[.int .i64 (lo : Int), .int .i64 (hi : Int)] 99) := ⟨_, rfl⟩
  obtain ⟨k3, hk3⟩ : ∃ k, k = w.heap.size := ⟨_, rfl⟩
  have hb1 : Below w.heap.size w w1 := by rw [hw1]; exact (Below.refl _ _).alloc (Nat.le_refl _) _
  have n3 : w1.heap[k3]? = some (.cells #[.int .i64 (lo : Int), .int .i64 (hi : Int)] 99 (0, 0)) := by rw [hw1, hk3]; exact heap_alloc_new _ _
  have hT1 := hT.below hb1 (Nat.le_refl _)
  have cc := cut_any 47 l hl w1 hT1
  obtain ⟨R, hcc⟩ : ∃ R, R = cutL 47 l := ⟨_, rfl⟩
  rw [← hcc] at cc hcl hA
  obtain ⟨ra, rb, rf⟩ := R
  dsimp only at cc hcl hA
  obtain ⟨S, hSS⟩ : ∃ S, S = str l := ⟨_, rfl⟩
  obtain ⟨SA, hSA⟩ : ∃ SA, SA = str ra := ⟨_, rfl⟩
  obtain ⟨SB, hSB⟩ : ∃ SB, SB = str rb := ⟨_, rfl⟩
  have ps := fun W => pstep_any rb (by omega) W
  have pbc := fun st W h => pbody_any ra (by omega) lo hi (by omega) (by omega) st W h
  rw [← hSA, ← hSB, ← hSS] at cc
  rw [← hSA] at pbc
  rw [← hSB] at ps
  rw [← hSS]
  have N3 := Lib.hid n3
  have HB1 := Lib.hid hb1
  have HT1 := Lib.hid hT1
  have HW1 := Lib.hid hw1
  have HK3 := Lib.hid hk3
  have CC := Lib.hid cc
  have PS := Lib.hid ps
  have PB := Lib.hid pbc
  have HA := Lib.hid hA
  clear hw1 hk3 hb1 n3 hT1 hT cc hcc hSA hSB hSS ps pbc hcl hA
  go_enter Tryz.func94, Tryz.ntmps94
  go_upto_region 1 with fail
  rw [← HW1.out, ← HK3.out]
  go_wp2_with fail
  refine CC.out.mono ?_
  rintro e w' ⟨rfl, i3, h⟩
  obtain ⟨w3, hw3⟩ : ∃ w3, w3 = w1.drewN i3 := ⟨_, rfl⟩
  rw [← hw3] at h
  have h2 := h.symm
  subst h2
  have n33 : w3.heap[k3]? = some (.cells #[.int .i64 (lo : Int), .int .i64 (hi : Int)] 99 (0, 0)) := by rw [hw3]; exact N3.out
  have HB3 := Lib.hid (show Below w.heap.size w w3 from by rw [hw3]; exact below_drewN HB1.out i3)
  have HT3 := Lib.hid (show CT w3 from by rw [hw3]; exact HT1.out.below (below_drewN (Below.refl w1.heap.size w1) i3) (Nat.le_refl _))
  have N33 := Lib.hid n33
  have c0 : w3.cell? ⟨k3, 0, none⟩ = some (.int .i64 (lo : Int)) := by rw [cell_of_rowW w3 k3 0 _ _ _ n33]; rfl
  have c1 : w3.cell? ⟨k3, 1, none⟩ = some (.int .i64 (hi : Int)) := by rw [cell_of_rowW w3 k3 1 _ _ _ n33]; rfl
  clear hw3 n33
  cases rf
  · have hA := HA.out
    rw [if_neg (fun h => by cases h.1)] at hA
    cases hpb : pb ra lo hi false with
    | none =>
      have PB' := PB.out false w3 HT3.out
      rw [hpb] at PB'
      rw [hpb] at hA
      have HPB := Lib.hid PB'
      have HA2 := Lib.hid hA
      clear PB' hA
      go_wp2_with fail
      refine HPB.out.mono ?_
      rintro e w4 ⟨⟨a, b, ha, hb, rfl⟩, h4⟩
      have HB4 := Lib.hid (HB3.out.trans (h4.mono HB3.out.size))
      clear h4
      go_wp2_with fail
      go_ret2
      exact ⟨by rw [HA2.out]; rfl, HB4.out.alloc HB4.out.size _⟩
    | some p =>
      have PB' := PB.out false w3 HT3.out
      rw [hpb] at PB'
      obtain ⟨f, t⟩ := p
      have hft := pb_le hpb (by omega) (by omega)
      dsimp only at hft
      rw [hpb] at hA
      dsimp only at hA
      have HPB := Lib.hid PB'
      clear PB' hpb
      go_wp2_with fail
      refine HPB.out.mono ?_
      rintro e w4 ⟨h, h4⟩
      have h' : e = .returned (.tuple #[.agg #[.int .i64 (f : Int), .int .i64 (t : Int)], .bool true]) := h
      subst h'
      clear h
      obtain ⟨w5, hw5⟩ : ∃ w5, w5 = w4.alloc (.cells #[.int .i64 (f : Int), .int .i64 (t : Int)] 99) := ⟨_, rfl⟩
      obtain ⟨k11, hk11⟩ : ∃ k, k = w4.heap.size := ⟨_, rfl⟩
      have hb5 : Below w4.heap.size w4 w5 := by rw [hw5]; exact (Below.refl _ _).alloc (Nat.le_refl _) _
      have n11 : w5.heap[k11]? = some (.cells #[.int .i64 (f : Int), .int .i64 (t : Int)] 99 (0, 0)) := by rw [hw5, hk11]; exact heap_alloc_new _ _
      have q3 := (h4.block k3 (lt_of_rowW N33.out)).trans N33.out
      have q35 := (hb5.block k3 (lt_of_rowW q3)).trans q3
      have HB5 := Lib.hid ((HB3.out.trans (h4.mono HB3.out.size)).trans (hb5.mono (HB3.out.trans (h4.mono HB3.out.size)).size))
      have d0 : w5.cell? ⟨k11, 0, none⟩ = some (.int .i64 (f : Int)) := by rw [cell_of_rowW w5 k11 0 _ _ _ n11]; rfl
      have d1 : w5.cell? ⟨k11, 1, none⟩ = some (.int .i64 (t : Int)) := by rw [cell_of_rowW w5 k11 1 _ _ _ n11]; rfl
      have e0 : w5.cell? ⟨k3, 0, none⟩ = some (.int .i64 (lo : Int)) := by rw [cell_of_rowW w5 k3 0 _ _ _ q35]; rfl
      have e1 : w5.cell? ⟨k3, 1, none⟩ = some (.int .i64 (hi : Int)) := by rw [cell_of_rowW w5 k3 1 _ _ _ q35]; rfl
      have HW5 := Lib.hid hw5
      have HK11 := Lib.hid hk11
      clear c0 c1 hw5 hk11 hb5 n11 q3 q35 h4
      go_upto_region 9 with fail
      rw [← HW5.out, ← HK11.out]
      by_cases hbad : f < lo ∨ hi < t ∨ t < f
      · rw [if_pos hbad] at hA
        have HA2 := Lib.hid hA
        clear hA
        by_cases b1 : f < lo
        · have b1' : (f : Int) < (lo : Int) := by omega
          go_wp2
          go_ret2
          exact ⟨by rw [HA2.out]; rfl, HB5.out⟩
        · have b1' : ¬ (f : Int) < (lo : Int) := by omega
          by_cases b2 : hi < t
          · have b2' : (hi : Int) < (t : Int) := by omega
            go_wp2
            go_ret2
            exact ⟨by rw [HA2.out]; rfl, HB5.out⟩
          · have b2' : ¬ (hi : Int) < (t : Int) := by omega
            have b3' : (t : Int) < (f : Int) := by omega
            go_wp2
            go_ret2
            exact ⟨by rw [HA2.out]; rfl, HB5.out⟩
      · rw [if_neg hbad] at hA
        have ht63 : t ≤ 63 := by omega
        have b1' : ¬ (f : Int) < (lo : Int) := by omega
        have b2' : ¬ (hi : Int) < (t : Int) := by omega
        have b3' : ¬ (t : Int) < (f : Int) := by omega
        have HA2 := Lib.hid hA
        clear hA hbad
        go_wp2
        go_loop [13, 14] (fun m n => paRel (mask (ap t 1 f)) t 1 m n) (fun _ n => t + 1 - (intOf n).toNat)
        case atStart => exact ⟨0, f, rfl, rfl, by decide, by omega, Nat.zero_or _⟩
        case round =>
          obtain ⟨M, k, rfl, rfl, hM, hkt, hG⟩ := hrel
          by_cases hk : k ≤ t
          · have hk' : (k : Int) ≤ (t : Int) := by omega
            rw [ap_go hk (by omega), mask] at hG
            have hG2 := Lib.hid hG
            clear hG
            have ho := or_pow hM (show k < 64 by omega)
            have HO := Lib.hid ho
            clear ho
            go_wp2
            rw [HO.out.1]
            exact ⟨⟨M ||| 2 ^ k, k + 1, rfl, by simp, HO.out.2, by omega, by rw [Nat.or_assoc]; exact hG2.out⟩, by simp [intOf]; omega⟩
          · have hk' : ¬ (k : Int) ≤ (t : Int) := by omega
            rw [ap_stop hk, mask, Nat.or_zero] at hG
            subst hG
            go_wp2
            go_ret2
            exact ⟨by rw [HA2.out]; rfl, HB5.out⟩
  · by_cases hse : psE rb = 0
    · have hA := HA.out
      rw [if_neg (fun h => h.2 hse)] at hA
      have PS' := PS.out w3
      rw [hse] at PS'
      have hs1 : 1 ≤ psV rb ∧ psV rb ≤ 99 := by
        unfold psE at hse
        unfold psV
        split at hse
        · cases hse
        · rename_i n hn
          rw [hn, Option.getD_some]
          split at hse
          · cases hse
          · exact ⟨by omega, pn_le hn⟩
      obtain ⟨s, hs⟩ : ∃ s, s = psV rb := ⟨_, rfl⟩
      rw [← hs] at PS' hs1 hA
      clear hs hse
      go_wp2_with fail
      refine PS'.mono ?_
      rintro e w' ⟨rfl, h⟩
      have h2 := h.symm
      subst h2
      clear PS'
      cases hpb : pb ra lo hi true with
      | none =>
        have PB' := PB.out true w3 HT3.out
        rw [hpb] at PB'
        rw [hpb] at hA
        have HPB := Lib.hid PB'
        have HA2 := Lib.hid hA
        clear PB' hA
        go_wp2_with fail
        refine HPB.out.mono ?_
        rintro e w4 ⟨⟨a, b, ha, hb, rfl⟩, h4⟩
        have HB4 := Lib.hid (HB3.out.trans (h4.mono HB3.out.size))
        clear h4
        go_wp2_with fail
        go_ret2
        exact ⟨by rw [HA2.out]; rfl, HB4.out.alloc HB4.out.size _⟩
      | some p =>
        have PB' := PB.out true w3 HT3.out
        rw [hpb] at PB'
        obtain ⟨f, t⟩ := p
        have hft := pb_le hpb (by omega) (by omega)
        dsimp only at hft
        rw [hpb] at hA
        dsimp only at hA
        have HPB := Lib.hid PB'
        clear PB' hpb
        go_wp2_with fail
        refine HPB.out.mono ?_
        rintro e w4 ⟨h, h4⟩
        have h' : e = .returned (.tuple #[.agg #[.int .i64 (f : Int), .int .i64 (t : Int)], .bool true]) := h
        subst h'
        clear h
        obtain ⟨w5, hw5⟩ : ∃ w5, w5 = w4.alloc (.cells #[.int .i64 (f : Int), .int .i64 (t : Int)] 99) := ⟨_, rfl⟩
        obtain ⟨k11, hk11⟩ : ∃ k, k = w4.heap.size := ⟨_, rfl⟩
        have hb5 : Below w4.heap.size w4 w5 := by rw [hw5]; exact (Below.refl _ _).alloc (Nat.le_refl _) _
        have n11 : w5.heap[k11]? = some (.cells #[.int .i64 (f : Int), .int .i64 (t : Int)] 99 (0, 0)) := by rw [hw5, hk11]; exact heap_alloc_new _ _
        have q3 := (h4.block k3 (lt_of_rowW N33.out)).trans N33.out
        have q35 := (hb5.block k3 (lt_of_rowW q3)).trans q3
        have HB5 := Lib.hid ((HB3.out.trans (h4.mono HB3.out.size)).trans (hb5.mono (HB3.out.trans (h4.mono HB3.out.size)).size))
        have d0 : w5.cell? ⟨k11, 0, none⟩ = some (.int .i64 (f : Int)) := by rw [cell_of_rowW w5 k11 0 _ _ _ n11]; rfl
        have d1 : w5.cell? ⟨k11, 1, none⟩ = some (.int .i64 (t : Int)) := by rw [cell_of_rowW w5 k11 1 _ _ _ n11]; rfl
        have e0 : w5.cell? ⟨k3, 0, none⟩ = some (.int .i64 (lo : Int)) := by rw [cell_of_rowW w5 k3 0 _ _ _ q35]; rfl
        have e1 : w5.cell? ⟨k3, 1, none⟩ = some (.int .i64 (hi : Int)) := by rw [cell_of_rowW w5 k3 1 _ _ _ q35]; rfl
        have HW5 := Lib.hid hw5
        have HK11 := Lib.hid hk11
        clear c0 c1 hw5 hk11 hb5 n11 q3 q35 h4
        go_upto_region 9 with fail
        rw [← HW5.out, ← HK11.out]
        by_cases hbad : f < lo ∨ hi < t ∨ t < f
        · rw [if_pos hbad] at hA
          have HA2 := Lib.hid hA
          clear hA
          by_cases b1 : f < lo
          · have b1' : (f : Int) < (lo : Int) := by omega
            go_wp2
            go_ret2
            exact ⟨by rw [HA2.out]; rfl, HB5.out⟩
          · have b1' : ¬ (f : Int) < (lo : Int) := by omega
            by_cases b2 : hi < t
            · have b2' : (hi : Int) < (t : Int) := by omega
              go_wp2
              go_ret2
              exact ⟨by rw [HA2.out]; rfl, HB5.out⟩
            · have b2' : ¬ (hi : Int) < (t : Int) := by omega
              have b3' : (t : Int) < (f : Int) := by omega
              go_wp2
              go_ret2
              exact ⟨by rw [HA2.out]; rfl, HB5.out⟩
        · rw [if_neg hbad] at hA
          have ht63 : t ≤ 63 := by omega
          have b1' : ¬ (f : Int) < (lo : Int) := by omega
          have b2' : ¬ (hi : Int) < (t : Int) := by omega
          have b3' : ¬ (t : Int) < (f : Int) := by omega
          have HA2 := Lib.hid hA
          clear hA hbad
          go_wp2
          go_loop [13, 14] (fun m n => paRel (mask (ap t s f)) t s m n) (fun _ n => t + 1 - (intOf n).toNat)
          case atStart => exact ⟨0, f, rfl, rfl, by decide, by omega, Nat.zero_or _⟩
          case round =>
            obtain ⟨M, k, rfl, rfl, hM, hkt, hG⟩ := hrel
            by_cases hk : k ≤ t
            · have hk' : (k : Int) ≤ (t : Int) := by omega
              rw [ap_go hk (by omega), mask] at hG
              have hG2 := Lib.hid hG
              clear hG
              have ho := or_pow hM (show k < 64 by omega)
              have HO := Lib.hid ho
              clear ho
              go_wp2
              rw [HO.out.1]
              exact ⟨⟨M ||| 2 ^ k, k + s, rfl, by simp, HO.out.2, by omega, by rw [Nat.or_assoc]; exact hG2.out⟩, by simp [intOf]; omega⟩
            · have hk' : ¬ (k : Int) ≤ (t : Int) := by omega
              rw [ap_stop hk, mask, Nat.or_zero] at hG
              subst hG
              go_wp2
              go_ret2
              exact ⟨by rw [HA2.out]; rfl, HB5.out⟩
    · have PS' := PS.out w3
      obtain ⟨v, hv⟩ : ∃ v, v = psE rb := ⟨_, rfl⟩
      have hA := HA.out
      rw [if_pos ⟨rfl, hse⟩] at hA
      rw [← hv] at PS' hse hA
      have hvb : -9223372036854775808 ≤ v ∧ v ≤ 9223372036854775807 := by
        rw [hv]; unfold psE; split
        · decide
        · split <;> decide
      have HA2 := Lib.hid hA
      clear hv hA
      go_wp2_with fail
      refine PS'.mono ?_
      rintro e w' ⟨rfl, h⟩
      have h2 := h.symm
      subst h2
      go_wp2_with fail
      go_ret2
      exact ⟨by rw [HA2.out]; rfl, HB3.out⟩
end Go.Proofs.YthfjahagmfgfeaaGreatDoor.Cr
