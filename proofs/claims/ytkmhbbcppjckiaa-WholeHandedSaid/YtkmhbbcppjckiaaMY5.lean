/- A task neither waits nor is had any more. -/
import Derived.Test.YtkmhbbcppjckiaaMY4
namespace Go.Proofs.Ytkmhbbcppjckiaa.Ma
open Go Go.RowKit Go.Proofs.Ytkmhbbcppjckiaa
open Go.Proofs.Ytkmhbbcppjckiaa.Hp (i64wf K3 wf3)
open Go.Proofs.Ytkmhbbcppjckiaa.Qu
open Go.Proofs.Ytkmhbbcppjckiaa.Dk (Frm below_drewN)
set_option linter.unusedVariables false
set_option linter.unusedSimpArgs false
set_option maxRecDepth 100000
variable {w w' wx : World} {T T' X : Nat → Prop} {b o : Nat} {R R0 : Array Value} {ty : TypeId} {M M' : MM}
theorem whW_lt {W : Nat → List Tk} {k : K3} : ∀ (n i : Nat), (whW W k n i).2 = true → ∃ j, (whW W k n i).1 = ((j : Nat) : Int) ∧ i ≤ j ∧ j < i + n ∧ k ∈ keysT (W j)
  | 0, i, h => by cases h
  | n + 1, i, h => by
    rw [whW] at h ⊢
    by_cases hc : (keysT (W i)).contains k = true
    · rw [if_pos hc]
      exact ⟨i, rfl, by omega, by omega, by simpa using hc⟩
    · rw [if_neg hc] at h ⊢
      obtain ⟨j, h1, h2, h3, h4⟩ := whW_lt n (i + 1) h
      exact ⟨j, h1, by omega, by omega, h4⟩
def MM.caM (M : MM) (k : K3) : MM := if (M.wh k).2 = true then M.q (M.wh k).1.toNat (remW (M.W (M.wh k).1.toNat) k) else M
def MM.ca (M : MM) (k : K3) : MM := (M.caM k).l (M.E.filter fun l => !decide (l.key = k))
theorem caM_E (k : K3) : (M.caM k).E = M.E := by
  unfold MM.caM
  split <;> rfl
theorem mt_cancel (h : MT w T b o R0 ty M) (k : K3) (hk : wf3 k) (hE : M.E.length ≤ 1000) : Calls Try.prog 38 #[.pointer (some ⟨b, o, none⟩), .agg (kcs k).toArray] w fun e w' => e = .returned (.bool (M.kn k)) ∧ MPost w T b o R0 ty (M.ca k) w' := by
  obtain ⟨T1, hT1⟩ : ∃ T1 : Nat → Prop, T1 = fun q => T q ∧ q < w.heap.size := ⟨_, rfl⟩
  have h1 : MT w T1 b o R0 ty M := by rw [hT1]; exact h.lts
  have hTT : ∀ q, T1 q → T q := fun q hq => by rw [hT1] at hq; exact hq.1
  have hTlt : ∀ q, T1 q → q < w.heap.size := fun q hq => by rw [hT1] at hq; exact hq.2
  clear h hT1
  obtain ⟨w1, hw1⟩ : ∃ x, x = w.alloc (.cells (kcs k).toArray 32) := ⟨_, rfl⟩
  obtain ⟨g, hg⟩ : ∃ g, g = w.heap.size := ⟨_, rfl⟩
  have b1 : Below w.heap.size w w1 := by rw [hw1]; exact (Below.refl _ _).alloc (Nat.le_refl _) _
  have n1 : w1.heap[g]? = some (.cells (kcs k).toArray 32 (0, 0)) := by rw [hw1, hg]; exact heap_alloc_new _ _
  have hgT : ¬ T1 g := fun e => by have := hTlt _ e; omega
  have WH := Lib.hid (mt_where (h1.below b1) k hk)
  have H1 := Lib.hid (h1.below b1)
  have ENF := Lib.hid (fun (W : World) (TT : Nat → Prop) (MM1 : MM) (hM : MT W TT b o R0 ty MM1) (hE : MM1.E.length ≤ 1000) (p : Nat) (hp : W.heap[p]? = some (.cells (kcs k).toArray 32 (0, 0))) => mt_end hM hE (asks_task hp) (enters_of Try.func72 (by kernel_rfl) rfl))
  obtain ⟨B2, hB2⟩ : ∃ B, B = M.E.any fun l => decide (l.key = k) := ⟨_, rfl⟩
  obtain ⟨F, hF⟩ : ∃ F, F = M.E.filter fun l => decide (l.key = k) := ⟨_, rfl⟩
  have HA := Lib.hid (show decide ((0 : Int) < (F.length : Int)) = B2 from by rw [hF, hB2]; exact any_fil _ _)
  obtain ⟨MC, hMC⟩ : ∃ MC, MC = M.ca k := ⟨_, rfl⟩
  have hkn : M.kn k = ((M.wh k).2 || B2) := by rw [hB2]; rfl
  have HW := Lib.hid hw1
  have HG := Lib.hid hg
  have B1 := Lib.hid b1
  have N1 := Lib.hid n1
  have K1 := box_at n1
  have HGT := Lib.hid hgT
  have HT := Lib.hid (And.intro hTT hTlt)
  have OF := Lib.hid (fun W => ofTask_any k W)
  rw [hkn, ← hMC]
  have HMC := Lib.hid hMC
  have HFF := Lib.hid hF
  clear h1 hw1 hg b1 n1 hgT hTT hTlt hB2 hMC hkn hF
  obtain ⟨m, hm⟩ : ∃ m, m = F.length := ⟨_, rfl⟩
  rw [← hm] at HA
  have HM := Lib.hid hm
  clear hm
  cases hw : (M.wh k).2 with
  | true =>
    obtain ⟨j, hj1, _, hj2, _⟩ := whW_lt 65 0 hw
    rw [Nat.zero_add] at hj2
    have hj1 : (M.wh k).1 = (j : Int) := hj1
    rw [hw, hj1] at WH
    have eq : o + 1 + j * 3 = qo o j := by unfold qo; omega
    have RM := Lib.hid (fun (W : World) (hW : Below w1.heap.size w1 W) => mq_remove (H1.out.below hW) hj2 k hk)
    rw [← eq] at RM
    have hca : MC = (M.q j (remW (M.W j) k)).l (M.E.filter fun l => !decide (l.key = k)) := by
      rw [HMC.out]
      unfold MM.ca MM.caM
      rw [if_pos hw, hj1, Int.toNat_natCast]
    obtain ⟨M2, hM2⟩ : ∃ M2, M2 = M.q j (remW (M.W j) k) := ⟨_, rfl⟩
    have hE2 : M2.E = M.E := by rw [hM2]; rfl
    rw [← hM2] at RM hca
    obtain ⟨rb, hrb⟩ : ∃ rb, rb = (keysT (M.W j)).contains k := ⟨_, rfl⟩
    rw [← hrb] at RM
    have HCA := Lib.hid hca
    have HE2 := Lib.hid hE2
    have h0 : (0 : Int) ≤ (j : Int) := by omega
    have hj3 : (j : Int) < 65 := by omega
    clear hw hj1 eq hca hM2 hE2 hrb
    go_enter Try.func38, Try.ntmps38
    go_upto_region 1 with fail
    rw [← HW.out, ← HG.out]
    go_upto_region 3 with (first
      | ((with_reducible show wpList _ _ _ _ _ _); refine wpList_load_allW rfl 32 (.tmp 3) rfl ⟨g, 0, none⟩ rfl (kcs k) _ K1 Try.underlying32 rfl (tkSize _) ?_)
      | ((with_reducible refine WH.out.mono ?_); rintro e w3 ⟨rfl, hb3⟩; have B3 := Lib.hid hb3; clear hb3))
    have HKG := Lib.hid (fun (W : World) (hW : Below w3.heap.size w3 W) => box_at ((hW.block g (Nat.lt_of_lt_of_le (lt_of_rowW N1.out) B3.out.size)).trans ((B3.out.block g (lt_of_rowW N1.out)).trans N1.out)))
    refine wp_region_quiet_tail 6 (by kernel_rfl) (by kernel_rfl) ?_
    simp only [List.take_succ_cons, List.take_zero, List.drop_succ_cons, List.drop_zero]
    repeat (go_big_quiet_step (fail))
    refine wpQuiet_loadG (by kernel_rfl) 32 (.tmp 3) rfl ⟨g, 0, none⟩ rfl (kcs k) _ (fun w' hC => by obtain ⟨nl, rfl⟩ := hC; exact HKG.out _ (below_drewN (Below.refl _ _) _)) Try.underlying32 rfl (tkSize _) ?_
    simp only [Act.put, List.setIfInBounds_toArray, List.set_cons_zero, List.set_cons_succ, List.getElem_toArray, List.getElem_cons_zero, List.getElem_cons_succ]
    repeat (go_big_quiet_step (fail))
    refine wpQuiet_nil ?_
    intro _ hw'
    obtain ⟨nq, hw''⟩ := hw'
    subst hw''
    have B4 := Lib.hid (B3.out.trans ((below_drewN (Below.refl w3.heap.size w3) nq).mono B3.out.size))
    obtain ⟨w4, hw4⟩ : ∃ x, x = w3.drewN nq := ⟨_, rfl⟩
    rw [← hw4] at B4 ⊢
    clear hw4
    go_upto_region 4 with (first
      | ((with_reducible refine (RM.out _ B4.out).mono ?_); rintro e w5 ⟨rfl, hP5⟩))
    obtain ⟨hF5, T5, hM5, hT5⟩ := hP5
    have n4 := (B4.out.block g (lt_of_rowK N1.out)).trans N1.out
    have n5 : w5.heap[g]? = some (.cells (kcs k).toArray 32 (0, 0)) := (hF5.block g (lt_of_rowK n4) HGT.out).trans n4
    have K5 := box_at n5
    obtain ⟨w6, hw6⟩ : ∃ x, x = w5.alloc (.cells (kcs k).toArray 32) := ⟨_, rfl⟩
    obtain ⟨g6, hg6⟩ : ∃ x, x = w5.heap.size := ⟨_, rfl⟩
    have b6 : Below w5.heap.size w5 w6 := by rw [hw6]; exact (Below.refl _ _).alloc (Nat.le_refl _) _
    have n6 : w6.heap[g6]? = some (.cells (kcs k).toArray 32 (0, 0)) := by rw [hw6, hg6]; exact heap_alloc_new _ _
    have OF5 := Lib.hid (OF.out w5)
    rw [← hw6, ← hg6] at OF5
    have EN := Lib.hid (ENF.out w6 T5 M2 (hM5.below b6) (by rw [HE2.out]; exact hE) g6 n6)
    rw [HE2.out, ← HFF.out, ← HCA.out, ← HM.out] at EN
    have HF5 := Lib.hid hF5
    have HT5 := Lib.hid hT5
    have B6 := Lib.hid b6
    clear hF5 hM5 hT5 n4 n5 b6 n6 hw6 hg6
    go_wp2_with (first
      | ((with_reducible show wpList _ _ _ _ _ _); refine wpList_load_allW rfl 32 (.tmp 3) rfl ⟨g, 0, none⟩ rfl (kcs k) _ K5 Try.underlying32 rfl (tkSize _) ?_)
      | ((with_reducible refine OF5.out.mono ?_); rintro e w7 ⟨rfl, h7⟩; obtain rfl := h7.symm)
      | ((with_reducible refine EN.out.mono ?_); rintro e w8 ⟨a8, c8, rfl, _, hX8⟩))
    go_ret
    refine ⟨rfl, MPost.first' B1.out (MPost.first' B4.out (MPost.mono ?_ HT.out.1))⟩
    exact MPost.glue HF5.out HT5.out B6.out hX8.post
  | false =>
    rw [hw] at WH
    obtain ⟨z1, hz1⟩ : ∃ z, z = (M.wh k).1 := ⟨_, rfl⟩
    rw [← hz1] at WH
    have hca : MC = M.l (M.E.filter fun l => !decide (l.key = k)) := by
      rw [HMC.out]
      unfold MM.ca MM.caM
      rw [if_neg (by rw [hw]; decide)]
    have HCA := Lib.hid hca
    clear hw hca hz1
    go_enter Try.func38, Try.ntmps38
    go_upto_region 1 with fail
    rw [← HW.out, ← HG.out]
    go_upto_region 4 with (first
      | ((with_reducible show wpList _ _ _ _ _ _); refine wpList_load_allW rfl 32 (.tmp 3) rfl ⟨g, 0, none⟩ rfl (kcs k) _ K1 Try.underlying32 rfl (tkSize _) ?_)
      | ((with_reducible refine WH.out.mono ?_); rintro e w5 ⟨rfl, hb3⟩; have B4 := Lib.hid hb3; clear hb3))
    have n5 := (B4.out.block g (lt_of_rowK N1.out)).trans N1.out
    have K5 := box_at n5
    obtain ⟨w6, hw6⟩ : ∃ x, x = w5.alloc (.cells (kcs k).toArray 32) := ⟨_, rfl⟩
    obtain ⟨g6, hg6⟩ : ∃ x, x = w5.heap.size := ⟨_, rfl⟩
    have b6 : Below w5.heap.size w5 w6 := by rw [hw6]; exact (Below.refl _ _).alloc (Nat.le_refl _) _
    have n6 : w6.heap[g6]? = some (.cells (kcs k).toArray 32 (0, 0)) := by rw [hw6, hg6]; exact heap_alloc_new _ _
    have OF5 := Lib.hid (OF.out w5)
    rw [← hw6, ← hg6] at OF5
    have EN := Lib.hid (ENF.out w6 T1 M ((H1.out.below B4.out).below b6) hE g6 n6)
    rw [← HFF.out, ← HCA.out, ← HM.out] at EN
    have B6 := Lib.hid b6
    have hAA := HA.out
    clear n5 b6 n6 hw6 hg6
    go_wp2_with (first
      | ((with_reducible show wpList _ _ _ _ _ _); refine wpList_load_allW rfl 32 (.tmp 3) rfl ⟨g, 0, none⟩ rfl (kcs k) _ K5 Try.underlying32 rfl (tkSize _) ?_)
      | ((with_reducible refine OF5.out.mono ?_); rintro e w7 ⟨rfl, h7⟩; obtain rfl := h7.symm)
      | ((with_reducible refine EN.out.mono ?_); rintro e w8 ⟨a8, c8, rfl, _, hX8⟩))
    go_ret
    refine ⟨?_, MPost.first' B1.out (MPost.first' B4.out (MPost.first' B6.out (MPost.mono hX8.post HT.out.1)))⟩
    have e : decide (0 < m) = B2 := by rw [← HA.out]; simp
    rw [Bool.false_or]
    exact congrArg (fun z => Ending.returned (.bool z)) e
end Go.Proofs.Ytkmhbbcppjckiaa.Ma
