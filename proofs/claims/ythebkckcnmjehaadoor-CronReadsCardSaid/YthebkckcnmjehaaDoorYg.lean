/- The reference's Next. -/
import Derived.Test.YthebkckcnmjehaaDoorYe
import Derived.Test.YthebkckcnmjehaaDoorCw
namespace Go.Proofs.YthebkckcnmjehaaDoor
open Go Go.RowKit
set_option linter.unusedVariables false
set_option linter.unusedSimpArgs false
def rnRel (w : World) (D : List (List Nat × Bool)) (last m0 : Nat) (i : Value) (wr : World) : Prop :=
  ∃ m : Nat, i = .int .i64 (m : Int) ∧ m ≤ last + 1440 ∧ m0 ≤ m ∧ (∀ x, m0 ≤ x → x < m → fitsN D (dateN x) = false) ∧ Below w.heap.size w wr
theorem firsts_here {D : List (List Nat × Bool)} {last m0 m : Nat} {R : Option Nat} (f : Firsts D last m0 R) (h0 : m0 ≤ m) (hl : m ≤ last) (hb : ∀ x, m0 ≤ x → x < m → fitsN D (dateN x) = false) (hm : fitsN D (dateN m) = true) : R = some m := by
  cases R with
  | none => have := f.2 rfl m h0 hl; rw [hm] at this; cases this
  | some r =>
    obtain ⟨a, b, c, d⟩ := f.1 r rfl
    by_cases h1 : r < m
    · have := hb r a h1; rw [c] at this; cases this
    · by_cases h2 : m < r
      · have := d m h0 h2; rw [hm] at this; cases this
      · congr 1; omega
theorem firsts_none {D : List (List Nat × Bool)} {last m0 m : Nat} {R : Option Nat} (f : Firsts D last m0 R) (hl : last < m) (hb : ∀ x, m0 ≤ x → x < m → fitsN D (dateN x) = false) : R = none := by
  cases R with
  | none => rfl
  | some r =>
    obtain ⟨a, b, c, d⟩ := f.1 r rfl
    have := hb r a (by omega); rw [c] at this; cases this
set_option maxHeartbeats 8000000 in
set_option maxRecDepth 100000 in
theorem refNext_any (gF cp : Nat) (D : List (List Nat × Bool)) (t : Int) (ht : -9223372036854775808 ≤ t ∧ t ≤ 9223372036854775807) (w : World) (hF : FldAt w gF D) :
    Calls Tryd.prog 20 #[.slice (some ⟨gF, 0, none⟩) 5 cp, .int .i64 t] w fun e w' => e = .returned (nextV D t) ∧ Below w.heap.size w w' := by
  unfold nextV
  by_cases hbad : t < -1 ∨ 4294440255 < t
  · rw [if_pos hbad]
    clear hF
    go_enter Tryd.func20, Tryd.ntmps20
    rcases hbad with h | h
    · go_wp2
      go_ret2
      exact ⟨rfl, Below.refl _ _⟩
    · have h2 : ¬ t < -1 := by omega
      go_wp2
      go_ret2
      exact ⟨rfl, Below.refl _ _⟩
  rw [if_neg hbad]
  have h1 : ¬ t < -1 := by omega
  have h2 : ¬ (4294440255 : Int) < t := by omega
  obtain ⟨last, hlast⟩ : ∃ last, last = (t + 527040).toNat := ⟨_, rfl⟩
  obtain ⟨m0, hm0⟩ : ∃ m, m = (t + 1).toNat := ⟨_, rfl⟩
  have e1 : t + 527040 = (last : Int) := by omega
  have e2 : t + 1 = (m0 : Int) := by omega
  have hf := nextF_first D last 527041 m0 (by omega)
  rw [← hlast, ← hm0]
  obtain ⟨R, hR2⟩ : ∃ R, R = nextF D 527041 last m0 := ⟨_, rfl⟩
  rw [← hR2] at hf ⊢
  have hlb : last ≤ 4294967295 := by omega
  have R0 := Lib.hid (show rnRel w D last m0 (.int .i64 (m0 : Int)) w from ⟨m0, rfl, by omega, Nat.le_refl _, fun x a b => by omega, Below.refl _ _⟩)
  have HF := Lib.hid hF
  have FI := Lib.hid hf
  have E1 := Lib.hid e1
  have E2 := Lib.hid e2
  have h3 : -9223372036854775808 ≤ t + 527040 ∧ t + 527040 ≤ 9223372036854775807 := by omega
  clear hF hf hR2 hm0 hlast e1 e2 hbad
  go_enter Tryd.func20, Tryd.ntmps20
  go_wp2
  rw [E2.out]
  go_loopw [6] (fun i wr => rnRel w D last m0 i wr) (fun i _ => last + 1 - (intOf i).toNat)
  case atStart => exact R0.out
  case round =>
    obtain ⟨wq, rfl⟩ : ∃ wq : World, wq = wr := ⟨_, rfl⟩
    obtain ⟨m, rfl, hm, hm0, hn, hb⟩ := hrel
    have HN := Lib.hid hn
    have HB := Lib.hid hb
    clear hn hb R0
    by_cases hml : m ≤ last
    · have hml' : (m : Int) ≤ t + 527040 := by rw [E1.out]; omega
      have hmb : m ≤ 4294967295 := by omega
      have dc := refDate_any m (by omega) wq
      have hsm := date_small m
      obtain ⟨x, hx⟩ : ∃ x, x = dateN m := ⟨_, rfl⟩
      rw [← hx] at dc hsm
      have DYC := Lib.hid (fun W (h : FldAt W gF D) => refDay_any gF cp D x hsm W h)
      have FTC := Lib.hid (fun W (h : FldAt W gF D) => refFits_any gF cp D x hsm W h)
      have SZX := Lib.hid (show ∀ x : DateD, (Tryd.prog.info? 37).map (·.size) = some x.list.toArray.size from fun x => by show _ = some 6; kernel_rfl)
      have S66 := Lib.hid (show ∀ x : DateD, 6 = x.list.toArray.size from fun x => rfl)
      obtain ⟨fd, hfd⟩ : ∃ b, b = fitsDayN D x := ⟨_, rfl⟩
      obtain ⟨ff, hff⟩ : ∃ b, b = fitsN D x := ⟨_, rfl⟩
      have HFD := Lib.hid hfd
      have HFF := Lib.hid hff
      have HX := Lib.hid hx
      have DC := Lib.hid dc
      clear dc hsm hfd hff hx
      rw [← HFD.out] at DYC
      rw [← HFF.out] at FTC
      go_upto_region 5 with fail
      go_wp2_with fail
      refine DC.out.mono ?_
      rintro e w1 ⟨rfl, hb1⟩
      obtain ⟨w2, hw2⟩ : ∃ w2, w2 = w1.alloc (.cells x.list.toArray 37) := ⟨_, rfl⟩
      obtain ⟨k, hk⟩ : ∃ k, k = w1.heap.size := ⟨_, rfl⟩
      have hb2 : Below w1.heap.size w1 w2 := by rw [hw2]; exact (Below.refl _ _).alloc (Nat.le_refl _) _
      have nk : w2.heap[k]? = some (.cells x.list.toArray 37 (0, 0)) := by rw [hw2, hk]; exact heap_alloc_new _ _
      have hB1 := HB.out.trans (hb1.mono HB.out.size)
      have HB2 := Lib.hid (hB1.trans (hb2.mono hB1.size))
      have NK := Lib.hid nk
      have HW2 := Lib.hid hw2
      have HK := Lib.hid hk
      clear hb1 hw2 hk hb2 nk hB1
      have KD := Lib.hid (show ∀ W : World, Below w2.heap.size w2 W → ∀ j v, x.list[j]? = some v → W.cell? ((⟨k, 0, none⟩ : Addr).add j) = some v from fun W hW j v hj => by
        rw [Addr.add_mid, Nat.zero_add, cell_of_rowW W k j _ _ _ ((hW.block k (lt_of_rowW NK.out)).trans NK.out)]
        simpa using hj)
      go_wp2_with (first
        | (with_reducible show wpList _ _ _ _ _ _; refine wpList_store_newW rfl 37 (.tmp 7) (.tmp 21) rfl 37 _ x.list.toArray rfl rfl (SZX.out x) (by with_unfolding_all exact S66.out x) (DateD.one x) ?_; rw [← HW2.out, ← HK.out])
        | (with_reducible show wpList _ _ _ _ _ _; refine wpList_load_allW rfl 37 (.tmp 7) rfl ⟨k, 0, none⟩ rfl x.list _ (KD.out _ (Below.refl _ _)) Tryd.underlying37 rfl (by rw [SZX.out x, List.size_toArray]) ?_))
      refine (DYC.out w2 (HF.out.below HB2.out (Nat.le_refl _))).mono ?_
      rintro e w3 ⟨rfl, hb3⟩
      have HB3 := Lib.hid (HB2.out.trans (hb3.mono HB2.out.size))
      have B23 := Lib.hid hb3
      clear hb3
      cases fd
      · have hnf : fitsN D (dateN m) = false := fits_noday (by rw [← HX.out]; exact HFD.out.symm)
        have RL := Lib.hid (show rnRel w D last m0 (.int .i64 (((m / 1440 + 1) * 1440 : Nat) : Int)) w3 from ⟨_, rfl, by omega, by omega, fun y a b => by
          by_cases hy : y < m
          · exact HN.out y a hy
          · exact fits_noday ((fitsDay_same D (show y / 1440 = m / 1440 by omega)).trans (by rw [← HX.out]; exact HFD.out.symm)), HB3.out⟩)
        have e9 : ((m : Int) / 1440 + 1) * 1440 = (((m / 1440 + 1) * 1440 : Nat) : Int) := by omega
        obtain ⟨q, hq⟩ : ∃ q, q = (m / 1440 + 1) * 1440 := ⟨_, rfl⟩
        rw [← hq] at RL e9
        have hqm : m < q := by omega
        have hq3 := Lib.hid hq
        clear hnf hq
        go_wp2_with fail
        exact ⟨RL.out, by simp [intOf]; omega⟩
      · go_wp2_with (with_reducible show wpList _ _ _ _ _ _; refine wpList_load_allW rfl 37 (.tmp 7) rfl ⟨k, 0, none⟩ rfl x.list _ (KD.out _ B23.out) Tryd.underlying37 rfl (by rw [SZX.out x, List.size_toArray]) ?_)
        refine (FTC.out w3 (HF.out.below HB3.out (Nat.le_refl _))).mono ?_
        rintro e w4 ⟨rfl, hb4⟩
        have HB4 := Lib.hid (HB3.out.trans (hb4.mono HB3.out.size))
        clear hb4
        cases ff
        · have hnf : fitsN D (dateN m) = false := by rw [← HX.out]; exact HFF.out.symm
          have RL := Lib.hid (show rnRel w D last m0 (.int .i64 ((m + 1 : Nat) : Int)) w4 from ⟨_, rfl, by omega, by omega, fun y a b => by
            by_cases hy : y < m
            · exact HN.out y a hy
            · obtain rfl : y = m := by omega
              exact hnf, HB4.out⟩)
          clear hnf
          go_wp2_with fail
          exact ⟨RL.out, by simp [intOf]; omega⟩
        · have hR : R = some m := firsts_here FI.out hm0 hml HN.out (by rw [← HX.out]; exact HFF.out.symm)
          subst hR
          go_wp2_with fail
          go_ret2
          exact ⟨rfl, HB4.out⟩
    · have hml' : ¬ (m : Int) ≤ t + 527040 := by rw [E1.out]; omega
      have hR : R = none := firsts_none FI.out (by omega) HN.out
      subst hR
      go_wp2_with fail
      go_ret2
      exact ⟨rfl, HB.out⟩
end Go.Proofs.YthebkckcnmjehaaDoor
