/- CronDates' walk. -/
import Derived.Test.YtdifhgfgppddpaaDoorCm
namespace Go.Proofs.YtdifhgfgppddpaaDoor
open Go Go.RowKit
set_option linter.unusedVariables false
set_option linter.unusedSimpArgs false
set_option maxHeartbeats 4000000 in
theorem dconv_any (x : DateD) (w : World) : Calls Tryd.prog 18 #[.agg x.list.toArray] w fun e w' => e = .returned (.agg x.list.toArray) ∧ Below w.heap.size w w' := by
  have SZ := Lib.hid (show (Tryd.prog.info? 32).map (·.size) = some x.list.toArray.size from by show _ = some 6; kernel_rfl)
  have SZR := Lib.hid (show (Tryd.prog.info? 37).map (·.size) = some x.list.toArray.size from by show _ = some 6; kernel_rfl)
  have S6 := Lib.hid (show 6 = x.list.toArray.size from rfl)
  have SO := Lib.hid (DateD.one x)
  obtain ⟨L, hL⟩ : ∃ L, L = x.list := ⟨_, rfl⟩
  rw [← hL] at SZ SZR S6 SO ⊢
  clear hL
  obtain ⟨w1, hw1⟩ : ∃ w1, w1 = w.alloc (.cells L.toArray 32) := ⟨_, rfl⟩
  obtain ⟨k, hk⟩ : ∃ k, k = w.heap.size := ⟨_, rfl⟩
  have hb1 : Below w.heap.size w w1 := by rw [hw1]; exact (Below.refl _ _).alloc (Nat.le_refl _) _
  have n1 : w1.heap[k]? = some (.cells L.toArray 32 (0, 0)) := by rw [hw1, hk]; exact heap_alloc_new _ _
  obtain ⟨w2, hw2⟩ : ∃ w2, w2 = w1.alloc (.cells zDate.toArray 37) := ⟨_, rfl⟩
  obtain ⟨g, hg⟩ : ∃ g, g = w.heap.size + 1 := ⟨_, rfl⟩
  have hg' : g = w1.heap.size := by rw [hg, hw1]; simp
  have hb2 : Below w1.heap.size w1 w2 := by rw [hw2]; exact (Below.refl _ _).alloc (Nat.le_refl _) _
  have n2 : w2.heap[g]? = some (.cells zDate.toArray 37 (0, 0)) := by rw [hw2, hg']; exact heap_alloc_new _ _
  have n12 := (hb2.block k (lt_of_rowW n1)).trans n1
  have KD := Lib.hid (show ∀ j v, L[j]? = some v → w2.cell? ((⟨k, 0, none⟩ : Addr).add j) = some v from fun j v hj => by
    rw [Addr.add_mid, Nat.zero_add, cell_of_rowW w2 k j _ _ _ n12]
    simpa using hj)
  have HB := Lib.hid (hb1.trans (hb2.mono hb1.size))
  have N2 := Lib.hid n2
  have HW1 := Lib.hid hw1
  have HW2 := Lib.hid hw2
  have HK := Lib.hid hk
  have HG := Lib.hid hg
  have HGL := Lib.hid (show w.heap.size ≤ g by omega)
  have SZL := Lib.hid (show (Tryd.prog.info? 32).map (·.size) = some L.length by rw [SZ.out, List.size_toArray])
  clear hw1 hk hb1 n1 hw2 hg hg' hb2 n2 n12
  go_enter Tryd.func18, Tryd.ntmps18
  go_upto_region 1 with fail
  rw [show (#[.int .i64 0, .int .i64 0, .int .i64 0, .int .i64 0, .int .i64 0, .int .i64 0] : Array Value) = zDate.toArray from rfl, ← HW1.out, ← HW2.out, ← HG.out, ← HK.out]
  go_wp2_with (first
    | (with_reducible show wpList _ _ _ _ _ _; refine wpList_load_allW rfl 32 (.tmp 1) rfl ⟨k, 0, none⟩ rfl L _ KD.out Tryd.underlying32 rfl SZL.out ?_)
    | (with_reducible show wpList _ _ _ _ _ _; refine wpList_store_whole rfl 37 (.tmp 2) (.tmp 3) rfl g 37 _ L.toArray rfl rfl N2.out SZR.out (by with_unfolding_all exact S6.out) SO.out ?_))
  refine bodyPost_ret (results_cell_row rfl _ _ g 37 L.toArray (0, 0) _ rfl (setRow_heap _ g _ _ _ _ N2.out) Tryd.underlying37 rfl SZR.out) rfl ?_
  exact ⟨rfl, below_setRow HB.out HGL.out _⟩
theorem runEq {w : World} {r : Result Next} {a0 a1 a2 a3 a4 a5 : Int} (h : r = .ok (.value (.bool (a0 == a0 && (a1 == a1 && (a2 == a2 && (a3 == a3 && (a4 == a4 && a5 == a5))))))) w) : r = .ok (.value (.bool true)) w := by
  simpa using h
set_option maxHeartbeats 4000000 in
theorem cronDates_any (t : Int) (ht : -9223372036854775808 ≤ t ∧ t ≤ 9223372036854775807) (w : World) (hT : CT w) : Calls Tryd.prog 4 #[.int .i64 t] w fun e w' => e = .returned (.bool true) ∧ Below w.heap.size w w' := by
  have FA := Lib.hid (finds_any w hT)
  have HT := Lib.hid hT
  clear hT
  go_enter Tryd.func4, Tryd.ntmps4
  go_wp2_with fail
  refine FA.out.mono ?_
  rintro e w1 ⟨rfl, hb1⟩
  have dc := dateOf_any t ht w1 (HT.out.below hb1 (Nat.le_refl _))
  have HB1 := Lib.hid hb1
  obtain ⟨L, hL⟩ : ∃ L, L = dateL t := ⟨_, rfl⟩
  obtain ⟨E, hE⟩ : ∃ E, E = dateE t := ⟨_, rfl⟩
  rw [← hL, ← hE] at dc
  have h6 : L.length = 6 := by rw [hL]; unfold dateL; split <;> rfl
  have h1 : L.toArray.all (·.oneCell') = true := by
    rw [hL]; unfold dateL; split
    · kernel_rfl
    · exact DateD.one _
  have SZ := Lib.hid (show (Tryd.prog.info? 32).map (·.size) = some L.toArray.size by rw [List.size_toArray, h6]; kernel_rfl)
  have SZL := Lib.hid (show (Tryd.prog.info? 32).map (·.size) = some L.length by rw [h6]; kernel_rfl)
  have S6 := Lib.hid (show 6 = L.toArray.size by rw [List.size_toArray, h6])
  have SO := Lib.hid h1
  have DC := Lib.hid dc
  have HL := Lib.hid hL
  have HE := Lib.hid hE
  clear hb1 dc hL hE h6 h1
  go_wp2_with fail
  refine DC.out.mono ?_
  rintro e w2 ⟨rfl, hb2⟩
  obtain ⟨w3, hw3⟩ : ∃ w3, w3 = w2.alloc (.cells L.toArray 32) := ⟨_, rfl⟩
  obtain ⟨k, hk⟩ : ∃ k, k = w2.heap.size := ⟨_, rfl⟩
  have hb3 : Below w2.heap.size w2 w3 := by rw [hw3]; exact (Below.refl _ _).alloc (Nat.le_refl _) _
  have nk : w3.heap[k]? = some (.cells L.toArray 32 (0, 0)) := by rw [hw3, hk]; exact heap_alloc_new _ _
  have hB2 := HB1.out.trans (hb2.mono HB1.out.size)
  have HB3 := Lib.hid (hB2.trans (hb3.mono hB2.size))
  have HW3 := Lib.hid hw3
  have HK := Lib.hid hk
  have KD := Lib.hid (show ∀ j v, L[j]? = some v → w3.cell? ((⟨k, 0, none⟩ : Addr).add j) = some v from fun j v hj => by
    rw [Addr.add_mid, Nat.zero_add, cell_of_rowW w3 k j _ _ _ nk]
    simpa using hj)
  clear hb2 hw3 hk hb3 nk hB2
  go_upto_region 4 with (with_reducible show wpList _ _ _ _ _ _; refine wpList_store_newW rfl 32 (.tmp 3) (.tmp 10) rfl 32 _ L.toArray rfl rfl SZ.out (by with_unfolding_all exact S6.out) SO.out ?_; rw [← HW3.out, ← HK.out])
  by_cases hbad : t < 0 ∨ 4294967296 < t
  · have hL : L = zDate := by rw [HL.out]; unfold dateL; rw [if_pos hbad]
    have hE : E = 1 := by rw [HE.out]; unfold dateE; rw [if_pos hbad]
    subst hE
    have HL2 := Lib.hid (show L.toArray = #[.int .i64 0, .int .i64 0, .int .i64 0, .int .i64 0, .int .i64 0, .int .i64 0] by rw [hL]; rfl)
    clear hL
    rcases hbad with h | h
    · go_wp2_with (first
        | (with_reducible show wpList _ _ _ _ _ _; refine wpList_loadWanted (by with_unfolding_all rfl) 32 (.tmp 3) rfl ⟨k, 0, none⟩ (by with_unfolding_all rfl) L _ KD.out Tryd.underlying32 rfl SZL.out ?_; rw [HL2.out])
        | (with_reducible show wpList _ _ _ _ _ _; refine wpList_runWanted (by with_unfolding_all rfl) (.bool true) (exec_date rfl 0 0 0 0 0 0 0 0 0 0 0 0 (by with_unfolding_all rfl) (by with_unfolding_all rfl) _) ?_))
      go_ret
      exact ⟨rfl, HB3.out⟩
    · have h0 : ¬ t < 0 := by omega
      go_wp2_with (first
        | (with_reducible show wpList _ _ _ _ _ _; refine wpList_loadWanted (by with_unfolding_all rfl) 32 (.tmp 3) rfl ⟨k, 0, none⟩ (by with_unfolding_all rfl) L _ KD.out Tryd.underlying32 rfl SZL.out ?_; rw [HL2.out])
        | (with_reducible show wpList _ _ _ _ _ _; refine wpList_runWanted (by with_unfolding_all rfl) (.bool true) (exec_date rfl 0 0 0 0 0 0 0 0 0 0 0 0 (by with_unfolding_all rfl) (by with_unfolding_all rfl) _) ?_))
      go_ret
      exact ⟨rfl, HB3.out⟩
  · obtain ⟨n, rfl⟩ : ∃ n : Nat, t = (n : Int) := ⟨t.toNat, by omega⟩
    have hL : L = (dateN n).list := by rw [HL.out]; unfold dateL; rw [if_neg hbad, Int.toNat_natCast]
    have hE : E = 0 := by rw [HE.out]; unfold dateE; rw [if_neg hbad]
    subst hE
    have rc := fun W => refDate_any n (by omega) W
    have vc := fun W => dconv_any (dateN n) W
    rw [← hL] at vc
    simp only [← hL] at rc
    have hv := hL
    unfold DateD.list at hv
    generalize ((dateN n).y : Int) = a0 at hv
    generalize ((dateN n).m : Int) = a1 at hv
    generalize ((dateN n).d : Int) = a2 at hv
    generalize ((dateN n).h : Int) = a3 at hv
    generalize ((dateN n).mi : Int) = a4 at hv
    generalize ((dateN n).w : Int) = a5 at hv
    have HL2 := Lib.hid (show L.toArray = #[.int .i64 a0, .int .i64 a1, .int .i64 a2, .int .i64 a3, .int .i64 a4, .int .i64 a5] by rw [hv])
    have RC := Lib.hid rc
    have VC := Lib.hid vc
    have h1 : ¬ (n : Int) < 0 := by omega
    have h2 : ¬ (4294967296 : Int) < (n : Int) := by omega
    clear hL hv rc vc hbad
    go_wp2_with (with_reducible show wpList _ _ _ _ _ _; refine wpList_loadWanted (by with_unfolding_all rfl) 32 (.tmp 3) rfl ⟨k, 0, none⟩ (by with_unfolding_all rfl) L _ KD.out Tryd.underlying32 rfl SZL.out ?_)
    refine (VC.out _).mono ?_
    rintro e w4 ⟨rfl, hb4⟩
    have HB4 := Lib.hid (HB3.out.trans (hb4.mono HB3.out.size))
    clear hb4
    go_wp2_with fail
    refine (RC.out _).mono ?_
    rintro e w5 ⟨rfl, hb5⟩
    have HB5 := Lib.hid (HB4.out.trans (hb5.mono HB4.out.size))
    clear hb5
    go_wp2_with (with_reducible show wpList _ _ _ _ _ _; refine wpList_runWanted (by with_unfolding_all rfl) (.bool true) (runEq (exec_rdate rfl a0 a1 a2 a3 a4 a5 a0 a1 a2 a3 a4 a5 (by with_unfolding_all exact congrArg Value.agg HL2.out) (by with_unfolding_all exact congrArg Value.agg HL2.out) _)) ?_)
    go_ret
    exact ⟨rfl, HB5.out⟩
end Go.Proofs.YtdifhgfgppddpaaDoor
