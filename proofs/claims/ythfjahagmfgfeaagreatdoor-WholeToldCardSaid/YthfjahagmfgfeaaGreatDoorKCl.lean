/- Next. -/
import Derived.Test.YthfjahagmfgfeaaGreatDoorKCk
namespace Go.Proofs.YthfjahagmfgfeaaGreatDoor.Cr
open Go Go.RowKit
set_option linter.unusedVariables false
set_option linter.unusedSimpArgs false
theorem mon_ge1 : ∀ (L : List Nat) (m r : Nat), m ≤ (mon L m r).1
  | [], m, r => Nat.le_refl _
  | x :: xs, m, r => by
    rw [mon]
    split
    · exact Nat.le_refl _
    · have := mon_ge1 xs (m + 1) (r - x); omega
theorem mon_le (y d : Nat) (hd : d < ylen y) : (mon (mlens y) 1 d).1 ≤ 12 ∧ (mon (mlens y) 1 d).2 < 31 := by
  have key : ∀ lp : Bool, ∀ d, d < 365 + lp.toNat → (mon [31, if lp = true then 29 else 28, 31, 30, 31, 30, 31, 31, 30, 31, 30, 31] 1 d).1 ≤ 12 ∧ (mon [31, if lp = true then 29 else 28, 31, 30, 31, 30, 31, 31, 30, 31, 30, 31] 1 d).2 < 31 := by decide +kernel
  have := key (leap y) d (by rw [← ylen_toNat]; exact hd)
  unfold mlens feb
  exact this
theorem date_small (t : Nat) : (dateN t).Small := by
  have h1 := yrOf_lt (2000 + t / 1440 / 146097 * 400) (t / 1440 % 146097)
  have h2 := mon_le _ _ h1.1
  unfold dateN
  exact ⟨by dsimp only; omega, by dsimp only; omega, by dsimp only; omega, by dsimp only; omega, by dsimp only; omega⟩
/-- Where Next's loop goes: the first minute from m on, up to last, that fits. -/
def nextF (D : List (List Nat × Bool)) : Nat → Nat → Nat → Option Nat
  | 0, _, _ => none
  | f + 1, last, m => if last < m then none else
    if fitsDayN D (dateN m) = false then nextF D f last (m + (1440 - m % 1440))
    else if decide ((dateN m).h ∈ (D.getD 1 ([], false)).1) = false then nextF D f last (m + (60 - m % 60))
    else if decide ((dateN m).mi ∈ (D.getD 0 ([], false)).1) = false then nextF D f last (m + 1)
    else some m
/-- What Next answers. -/
def nextV (D : List (List Nat × Bool)) (t : Int) : Value :=
  if t < -1 ∨ 4294440255 < t then .tuple #[.int .i64 0, .int .i64 1] else
  match nextF D 527041 ((t + 527040).toNat) ((t + 1).toNat) with
  | none => .tuple #[.int .i64 0, .int .i64 41]
  | some m => .tuple #[.int .i64 (m : Int), .int .i64 0]
theorem nextF_fuel (D : List (List Nat × Bool)) (last : Nat) : ∀ (f1 f2 m : Nat), last < m + f1 → last < m + f2 → nextF D f1 last m = nextF D f2 last m := by
  intro f1
  induction f1 with
  | zero =>
    intro f2 m h1 h2
    cases f2 with
    | zero => rfl
    | succ f2 => rw [nextF, nextF, if_pos (by omega)]
  | succ f1 ih =>
    intro f2 m h1 h2
    cases f2 with
    | zero => rw [nextF, nextF, if_pos (by omega)]
    | succ f2 =>
      rw [nextF, nextF]
      by_cases h : last < m
      · rw [if_pos h, if_pos h]
      · rw [if_neg h, if_neg h]
        have a1 := ih f2 (m + (1440 - m % 1440)) (by omega) (by omega)
        have a2 := ih f2 (m + (60 - m % 60)) (by omega) (by omega)
        have a3 := ih f2 (m + 1) (by omega) (by omega)
        rw [a1, a2, a3]
def nxRel (w : World) (g : Nat) (l : List UInt8) (D : List (List Nat × Bool)) (last : Nat) (R : Option Nat) (i : Value) (wr : World) : Prop :=
  ∃ m : Nat, i = .int .i64 (m : Int) ∧ m ≤ last + 1440 ∧ nextF D (last + 1 - m) last m = R ∧ Below w.heap.size w wr
theorem nx_step {D : List (List Nat × Bool)} {last m : Nat} {R : Option Nat} (h : nextF D (last + 1 - m) last m = R) (hm : m ≤ last) :
    (fitsDayN D (dateN m) = false → nextF D (last + 1 - (m + (1440 - m % 1440))) last (m + (1440 - m % 1440)) = R) ∧
    (fitsDayN D (dateN m) = true → decide ((dateN m).h ∈ (D.getD 1 ([], false)).1) = false → nextF D (last + 1 - (m + (60 - m % 60))) last (m + (60 - m % 60)) = R) ∧
    (fitsDayN D (dateN m) = true → decide ((dateN m).h ∈ (D.getD 1 ([], false)).1) = true → decide ((dateN m).mi ∈ (D.getD 0 ([], false)).1) = false → nextF D (last + 1 - (m + 1)) last (m + 1) = R) ∧
    (fitsDayN D (dateN m) = true → decide ((dateN m).h ∈ (D.getD 1 ([], false)).1) = true → decide ((dateN m).mi ∈ (D.getD 0 ([], false)).1) = true → R = some m) := by
  obtain ⟨f, hf⟩ : ∃ f, last + 1 - m = f + 1 := ⟨last - m, by omega⟩
  rw [hf, nextF, if_neg (by omega)] at h
  refine ⟨fun h1 => ?_, fun h1 h2 => ?_, fun h1 h2 h3 => ?_, fun h1 h2 h3 => ?_⟩
  · rw [if_pos h1] at h
    rw [← h]; exact nextF_fuel D last _ _ _ (by omega) (by omega)
  · rw [if_neg (by rw [h1]; decide), if_pos h2] at h
    rw [← h]; exact nextF_fuel D last _ _ _ (by omega) (by omega)
  · rw [if_neg (by rw [h1]; decide), if_neg (by rw [h2]; decide), if_pos h3] at h
    rw [← h]; exact nextF_fuel D last _ _ _ (by omega) (by omega)
  · rw [if_neg (by rw [h1]; decide), if_neg (by rw [h2]; decide), if_neg (by rw [h3]; decide)] at h
    exact h.symm
set_option maxHeartbeats 8000000 in
theorem next_any (g : Nat) (l : List UInt8) (D : List (List Nat × Bool)) (t : Int) (ht : -9223372036854775808 ≤ t ∧ t ≤ 9223372036854775807) (w : World) (hT : CT w) (hS : SpecAt w g l D) :
    Calls Tryz.prog 43 #[.pointer (some ⟨g, 0, none⟩), .int .i64 t] w fun e w' => e = .returned (nextV D t) ∧ Below w.heap.size w w' := by
  unfold nextV
  by_cases hbad : t < -1 ∨ 4294440255 < t
  · rw [if_pos hbad]
    clear hS hT
    go_enter Tryz.func43, Tryz.ntmps43
    rcases hbad with h | h
    · go_wp2
      go_ret2
      exact ⟨rfl, Below.refl _ _⟩
    · have h2 : ¬ t < -1 := by omega
      go_wp2
      go_ret2
      exact ⟨rfl, Below.refl _ _⟩
  rw [if_neg hbad]
  have h1 : ¬ t < -1 := by omega
  have h2 : ¬ (4294440255 : Int) < t := by omega
  obtain ⟨last, hlast⟩ : ∃ last, last = (t + 527040).toNat := ⟨_, rfl⟩
  obtain ⟨m0, hm0⟩ : ∃ m, m = (t + 1).toNat := ⟨_, rfl⟩
  have e1 : t + 527040 = (last : Int) := by omega
  have e2 : t + 1 = (m0 : Int) := by omega
  have hR : nextF D 527041 last m0 = nextF D (last + 1 - m0) last m0 := nextF_fuel D last _ _ _ (by omega) (by omega)
  rw [← hlast, ← hm0, hR]
  obtain ⟨R, hR2⟩ : ∃ R, R = nextF D (last + 1 - m0) last m0 := ⟨_, rfl⟩
  rw [← hR2]
  have hlb : last ≤ 4294967295 := by omega
  have R0 := Lib.hid (show nxRel w g l D last R (.int .i64 (m0 : Int)) w from ⟨m0, rfl, by omega, hR2.symm, Below.refl _ _⟩)
  have HS := Lib.hid hS
  have HT := Lib.hid hT
  have E1 := Lib.hid e1
  have E2 := Lib.hid e2
  have h3 : -9223372036854775808 ≤ t + 527040 ∧ t + 527040 ≤ 9223372036854775807 := by omega
  clear hS hT hR hR2 hm0 hlast e1 e2 hbad
  go_enter Tryz.func43, Tryz.ntmps43
  go_wp2
  rw [E1.out, E2.out]
  go_loopw [7] (fun i wr => nxRel w g l D last R i wr) (fun i _ => last + 1 - (intOf i).toNat)
  case atStart => exact R0.out
  case round =>
    obtain ⟨wq, rfl⟩ : ∃ wq : World, wq = wr := ⟨_, rfl⟩
    obtain ⟨m, rfl, hm, hn, hb⟩ := hrel
    have HN := Lib.hid hn
    have HB := Lib.hid hb
    clear hn hb R0
    by_cases hml : m ≤ last
    · have hml' : (m : Int) ≤ (last : Int) := by omega
      have hmb : m ≤ 4294967295 := by omega
      have hst := nx_step HN.out hml
      have dc := date_any m (by omega) (by omega) wq (HT.out.below HB.out (Nat.le_refl _))
      have hsm := date_small m
      obtain ⟨x, hx⟩ : ∃ x, x = dateN m := ⟨_, rfl⟩
      rw [← hx] at hst dc hsm
      rw [DateD.cells_eq] at dc
      have fc := fun W (h : Below w.heap.size w W) => fitsDay_any g l D x hsm W (HS.out.below h)
      obtain ⟨fd, hfd⟩ : ∃ b, b = fitsDayN D x := ⟨_, rfl⟩
      rw [← hfd] at hst
      simp only [← hfd] at fc
      have DC := Lib.hid dc
      have FC := Lib.hid fc
      have HST := Lib.hid hst
      have HSM := Lib.hid hsm
      have SZX := Lib.hid (show ∀ x : DateD, (Tryz.prog.info? 102).map (·.size) = some x.list.toArray.size from fun x => by show _ = some 6; kernel_rfl)
      have S66 := Lib.hid (show ∀ x : DateD, 6 = x.list.toArray.size from fun x => rfl)
      clear hst dc fc hsm hfd hx
      go_upto_region 6 with fail
      go_wp2_with fail
      refine DC.out.mono ?_
      rintro e w1 ⟨rfl, hb1⟩
      obtain ⟨w2, hw2⟩ : ∃ w2, w2 = w1.alloc (.cells x.list.toArray 102) := ⟨_, rfl⟩
      obtain ⟨k, hk⟩ : ∃ k, k = w1.heap.size := ⟨_, rfl⟩
      have hb2 : Below w1.heap.size w1 w2 := by rw [hw2]; exact (Below.refl _ _).alloc (Nat.le_refl _) _
      have nk : w2.heap[k]? = some (.cells x.list.toArray 102 (0, 0)) := by rw [hw2, hk]; exact heap_alloc_new _ _
      have hB1 := HB.out.trans (hb1.mono HB.out.size)
      have HB2 := Lib.hid (hB1.trans (hb2.mono hB1.size))
      have NK := Lib.hid nk
      have HW2 := Lib.hid hw2
      have HK := Lib.hid hk
      clear hb1 hw2 hk hb2 nk hB1
      have KD := Lib.hid (show ∀ W : World, Below w2.heap.size w2 W → ∀ j v, x.list[j]? = some v → W.cell? ((⟨k, 0, none⟩ : Addr).add j) = some v from fun W hW j v hj => by
        rw [Addr.add_mid, Nat.zero_add, cell_of_rowW W k j _ _ _ ((hW.block k (lt_of_rowW NK.out)).trans NK.out)]
        simpa using hj)
      go_wp2_with (first
        | (with_reducible show wpList _ _ _ _ _ _; refine wpList_store_newW rfl 102 (.tmp 8) (.tmp 23) rfl 102 _ x.list.toArray rfl rfl (SZX.out x) (by with_unfolding_all exact S66.out x) (DateD.one x) ?_; rw [← HW2.out, ← HK.out])
        | (with_reducible show wpList _ _ _ _ _ _; refine wpList_load_allW rfl 102 (.tmp 8) rfl ⟨k, 0, none⟩ rfl x.list _ (KD.out _ (Below.refl _ _)) Tryz.underlying102 rfl (by rw [SZX.out x, List.size_toArray]) ?_))
      refine (FC.out w2 HB2.out).mono ?_
      rintro e w3 ⟨rfl, hb3⟩
      have HB3 := Lib.hid (HB2.out.trans (hb3.mono HB2.out.size))
      have B23 := Lib.hid hb3
      clear hb3
      cases fd
      · have hnx := HST.out.1 rfl
        have RL := Lib.hid (show nxRel w g l D last R (.int .i64 ((m + (1440 - m % 1440) : Nat) : Int)) w3 from ⟨_, rfl, by omega, hnx, HB3.out⟩)
        have e9 : (m : Int) + (1440 - (m : Int) % 1440) = ((m + (1440 - m % 1440) : Nat) : Int) := by omega
        obtain ⟨q, hq⟩ : ∃ q, q = m + (1440 - m % 1440) := ⟨_, rfl⟩
        rw [← hq] at RL e9
        have hqm : m < q := by omega
        have hq3 := Lib.hid hq
        clear hnx hq
        go_wp2_with fail
        exact ⟨RL.out, by simp [intOf]; omega⟩
      · obtain ⟨a, b, c, d, e, hD⟩ := HS.out.five
        have hlt := HS.out.lt
        have hrow3 := (HB3.out.block g (lt_of_rowW HS.out.row)).trans HS.out.row
        have hst := HST.out.2
        rw [hD] at hlt hrow3
        obtain ⟨L0, s0⟩ := a
        obtain ⟨L1, s1⟩ := b
        have g0 : (D.getD 0 ([], false)).1 = L0 := by rw [hD]; rfl
        have g1 : (D.getD 1 ([], false)).1 = L1 := by rw [hD]; rfl
        rw [g0, g1] at hst
        simp only [true_implies] at hst
        have m0c := has_any L0 (hlt (L0, s0) (by simp)) s0 x.mi HSM.out.mi
        have m1c := has_any L1 (hlt (L1, s1) (by simp)) s1 x.h HSM.out.h
        obtain ⟨bm, hbm⟩ : ∃ b, b = decide (x.mi ∈ L0) := ⟨_, rfl⟩
        obtain ⟨bh, hbh⟩ : ∃ b, b = decide (x.h ∈ L1) := ⟨_, rfl⟩
        rw [← hbm, ← hbh] at hst
        simp only [← hbm] at m0c
        simp only [← hbh] at m1c
        obtain ⟨M0, hM0⟩ : ∃ M, M = mask L0 := ⟨_, rfl⟩
        obtain ⟨M1, hM1⟩ : ∃ M, M = mask L1 := ⟨_, rfl⟩
        have nk3 := (B23.out.block k (lt_of_rowW NK.out)).trans NK.out
        have KP := Lib.hid (show ∀ W : World, Below w3.heap.size w3 W → W.cell? ⟨g, 1, none⟩ = some (.int .u64 (M0 : Int)) ∧ W.cell? ⟨g, 2, none⟩ = some (.bool s0) ∧ W.cell? ⟨g, 3, none⟩ = some (.int .u64 (M1 : Int)) ∧ W.cell? ⟨g, 4, none⟩ = some (.bool s1)
            ∧ W.cell? ⟨k, 3, none⟩ = some (.int .i64 (x.h : Int)) ∧ W.cell? ⟨k, 4, none⟩ = some (.int .i64 (x.mi : Int)) from fun W hW => by
          have r1 := (hW.block g (lt_of_rowW hrow3)).trans hrow3
          have r2 := (hW.block k (lt_of_rowW nk3)).trans nk3
          have q := fun j => cell_of_rowW W g j _ _ _ r1
          have p := fun j => cell_of_rowW W k j _ _ _ r2
          rw [q, q, q, q, p, p, hM0, hM1]
          exact ⟨rfl, rfl, rfl, rfl, rfl, rfl⟩)
        rw [← hM0] at m0c
        rw [← hM1] at m1c
        have C0 := Lib.hid m0c
        have C1 := Lib.hid m1c
        have HST3 := Lib.hid hst
        clear hD g0 g1 hlt hrow3 hst m0c m1c hbm hbh hM0 hM1 nk3
        generalize (x.h : Int) = xh at *
        generalize (x.mi : Int) = xmi at *
        go_upto_region 10 with fail
        have B0 := Lib.hid (show Below w3.heap.size w3 w3.drew from below_drewN (Below.refl w3.heap.size w3) 1)
        go_cut [35] (fun s wx => s = .bool (!bh) ∧ Below w3.heap.size w3 wx)
        case first =>
          go_region_held3 (fun w' => w'.cell? ⟨g, 3, none⟩ = some (.int .u64 (M1 : Int)) ∧ w'.cell? ⟨g, 4, none⟩ = some (.bool s1) ∧ w'.cell? ⟨k, 3, none⟩ = some (.int .i64 xh))
            (first
              | exact ⟨(KP.out _ B0.out).2.2.1, (KP.out _ B0.out).2.2.2.1, (KP.out _ B0.out).2.2.2.2.1⟩
              | exact ⟨(KP.out _ B1.out).2.2.1, (KP.out _ B1.out).2.2.2.1, (KP.out _ B1.out).2.2.2.2.1⟩)
            (first
              | (go_at_call 70; (with_reducible refine (C1.out _).mono ?_); rintro e w' ⟨rfl, hb⟩; have B1 := Lib.hid (B0.out.trans (hb.mono B0.out.size)); clear hb))
          all_goals
            go_wp2_with fail
            go_meet
          all_goals exact ⟨rfl, B1.out⟩
        case rest =>
          obtain ⟨rfl, hb4⟩ := hcut
          have HB4 := Lib.hid hb4
          clear hb4
          cases bh
          · have hnx := HST3.out.1 rfl
            have RL := Lib.hid (show nxRel w g l D last R (.int .i64 ((m + (60 - m % 60) : Nat) : Int)) wc from ⟨_, rfl, by omega, hnx, HB3.out.trans (HB4.out.mono HB3.out.size)⟩)
            have e9 : (m : Int) + (60 - (m : Int) % 60) = ((m + (60 - m % 60) : Nat) : Int) := by omega
            obtain ⟨q, hq⟩ : ∃ q, q = m + (60 - m % 60) := ⟨_, rfl⟩
            rw [← hq] at RL e9
            have hqm : m < q := by omega
            clear hnx hq
            go_wp2_with fail
            exact ⟨RL.out, by simp [intOf]; omega⟩
          · go_upto_region 12 with fail
            have B4 := Lib.hid (show Below w3.heap.size w3 wc.drew from below_drewN HB4.out 1)
            go_cut [50] (fun s wx => s = .bool (!bm) ∧ Below w3.heap.size w3 wx)
            case first =>
              go_region_held3 (fun w' => w'.cell? ⟨g, 1, none⟩ = some (.int .u64 (M0 : Int)) ∧ w'.cell? ⟨g, 2, none⟩ = some (.bool s0) ∧ w'.cell? ⟨k, 4, none⟩ = some (.int .i64 xmi))
                (first
                  | exact ⟨(KP.out _ B4.out).1, (KP.out _ B4.out).2.1, (KP.out _ B4.out).2.2.2.2.2⟩
                  | exact ⟨(KP.out _ B5.out).1, (KP.out _ B5.out).2.1, (KP.out _ B5.out).2.2.2.2.2⟩)
                (first
                  | (go_at_call 70; (with_reducible refine (C0.out _).mono ?_); rintro e w' ⟨rfl, hb⟩; have B5 := Lib.hid (B4.out.trans (hb.mono B4.out.size)); clear hb))
              all_goals
                go_wp2_with fail
                go_meet
              all_goals exact ⟨rfl, B5.out⟩
            case rest =>
              obtain ⟨rfl, hb5⟩ := hcut
              have HB5 := Lib.hid (HB3.out.trans (hb5.mono HB3.out.size))
              clear hb5
              cases bm
              · have hnx := HST3.out.2.1 rfl rfl
                have RL := Lib.hid (show nxRel w g l D last R (.int .i64 ((m + 1 : Nat) : Int)) wc from ⟨_, rfl, by omega, hnx, HB5.out⟩)
                clear hnx
                go_wp2_with fail
                exact ⟨RL.out, by simp [intOf]; omega⟩
              · have hR : R = some m := HST3.out.2.2 rfl rfl
                subst hR
                go_wp2_with fail
                go_ret2
                exact ⟨rfl, HB5.out⟩
    · have hml' : ¬ (m : Int) ≤ (last : Int) := by omega
      have hR : R = none := by
        have := HN.out
        rw [show last + 1 - m = 0 by omega, nextF] at this
        exact this.symm
      subst hR
      go_wp2_with fail
      go_ret2
      exact ⟨rfl, HB.out⟩
end Go.Proofs.YthfjahagmfgfeaaGreatDoor.Cr
