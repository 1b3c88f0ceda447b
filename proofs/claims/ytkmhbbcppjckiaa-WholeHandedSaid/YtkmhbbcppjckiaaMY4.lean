/- A run's tasks neither wait nor are had any more. -/
import Derived.Test.YtkmhbbcppjckiaaK0P
namespace Go.Proofs.Ytkmhbbcppjckiaa.Ma
open Go Go.RowKit Go.Proofs.Ytkmhbbcppjckiaa
open Go.Proofs.Ytkmhbbcppjckiaa.Hp (i64wf K3 wf3)
open Go.Proofs.Ytkmhbbcppjckiaa.Qu
open Go.Proofs.Ytkmhbbcppjckiaa.Dk (Frm below_drewN)
set_option linter.unusedVariables false
set_option linter.unusedSimpArgs false
set_option maxRecDepth 100000
variable {w w' wx : World} {T T' X : Nat → Prop} {b o : Nat} {R R0 : Array Value} {ty : TypeId} {M M' : MM}
def drG (run : Int) : Nat → Nat → MM → MM
  | 0, _, M => M
  | n + 1, i, M => drG run n (i + 1) (M.q i (othW run (M.W i)))
def drC (run : Int) : Nat → Nat → MM → Nat
  | 0, _, _ => 0
  | n + 1, i, M => cntW run (M.W i) + drC run n (i + 1) (M.q i (othW run (M.W i)))
def MM.drE (M : MM) (run : Int) : MM := M.l (M.E.filter fun l => !decide (l.key.1 = run))
def MM.dr (M : MM) (run : Int) : MM := drG run 65 0 (M.drE run)
def MM.drN (M : MM) (run : Int) : Nat := (M.E.filter fun l => decide (l.key.1 = run)).length + drC run 65 0 (M.drE run)
theorem drC_le (run : Int) : ∀ (n i : Nat) (M : MM), (∀ k, (M.W k).length ≤ 128) → drC run n i M ≤ n * 128
  | 0, _, _, _ => by simp [drC]
  | n + 1, i, M, h => by
    have h1 : cntW run (M.W i) ≤ 128 := Nat.le_trans (List.length_filter_le _ _) (h i)
    have h2 := drC_le run n (i + 1) (M.q i (othW run (M.W i))) fun k => by
      show (updQ M.W i (othW run (M.W i)) k).length ≤ 128
      by_cases e : k = i
      · subst e; rw [updQ_self]; exact Nat.le_trans (List.length_filter_le _ _) (h k)
      · rw [updQ_ne _ _ e]; exact h k
    rw [drC]
    omega
def drRelM (w3 : World) (T : Nat → Prop) (b o : Nat) (R0 : Array Value) (ty : TypeId) (run : Int) (NF : Nat) (MF : MM) (nv iv : Value) (wr : World) : Prop :=
  ∃ (i c : Nat) (M' : MM), i ≤ 65 ∧ iv = .int .i64 (i : Int) ∧ nv = .int .i64 (c : Int) ∧ c + drC run (65 - i) i M' = NF ∧ drG run (65 - i) i M' = MF ∧ MPost w3 T b o R0 ty M' wr
set_option maxHeartbeats 2000000 in
theorem mt_drop (h : MT w T b o R0 ty M) (run : Int) (hE : M.E.length ≤ 1000) (hN : M.drN run ≤ 100000) : Calls Try.prog 37 #[.pointer (some ⟨b, o, none⟩), .int .i64 run] w fun e w' => e = .returned (.int .i64 (M.drN run : Int)) ∧ MPost w T b o R0 ty (M.dr run) w' := by
  obtain ⟨T1, hT1⟩ : ∃ T1 : Nat → Prop, T1 = fun q => T q ∧ q < w.heap.size := ⟨_, rfl⟩
  have h1 : MT w T1 b o R0 ty M := by rw [hT1]; exact h.lts
  have hTT : ∀ q, T1 q → T q := fun q hq => by rw [hT1] at hq; exact hq.1
  have hTlt : ∀ q, T1 q → q < w.heap.size := fun q hq => by rw [hT1] at hq; exact hq.2
  clear h hT1
  obtain ⟨w1, hw1⟩ : ∃ x, x = w.alloc (.cells #[.int .i64 run] 3) := ⟨_, rfl⟩
  obtain ⟨g, hg⟩ : ∃ g, g = w.heap.size := ⟨_, rfl⟩
  have b1 : Below w.heap.size w w1 := by rw [hw1]; exact (Below.refl _ _).alloc (Nat.le_refl _) _
  have n1 : w1.heap[g]? = some (.cells #[.int .i64 run] 3 (0, 0)) := by rw [hw1, hg]; exact heap_alloc_new _ _
  have hgT : ¬ T1 g := fun e => by have := hTlt _ e; omega
  have EN := Lib.hid (mt_end (h1.below b1) hE (asks_run n1) (enters_of Try.func62 (by kernel_rfl) rfl))
  rw [show M.l (M.E.filter fun l => !decide (l.key.1 = run)) = M.drE run from rfl] at EN
  obtain ⟨F, hF⟩ : ∃ F, F = M.E.filter fun l => decide (l.key.1 = run) := ⟨_, rfl⟩
  obtain ⟨NF, hNF⟩ : ∃ NF, NF = M.drN run := ⟨_, rfl⟩
  obtain ⟨MF, hMF⟩ : ∃ MF, MF = M.dr run := ⟨_, rfl⟩
  obtain ⟨MD, hMD⟩ : ∃ MD, MD = M.drE run := ⟨_, rfl⟩
  have e1 : F.length + drC run 65 0 MD = NF := by rw [hNF, hMD, hF]; rfl
  have e2 : drG run 65 0 MD = MF := by rw [hMF, hMD]; rfl
  rw [← hNF] at hN ⊢
  rw [← hMF]
  rw [← hF, ← hMD] at EN
  obtain ⟨m, hm⟩ : ∃ m, m = F.length := ⟨_, rfl⟩
  rw [← hm] at EN e1
  have HE1 := Lib.hid e1
  have HE2 := Lib.hid e2
  have HW := Lib.hid hw1
  have HG := Lib.hid hg
  have B1 := Lib.hid b1
  have N1 := Lib.hid n1
  have HGT := Lib.hid hgT
  have HT := Lib.hid (And.intro hTT hTlt)
  clear h1 hw1 hg b1 n1 hgT hTT hTlt hF hNF hMF hMD e1 e2 hE hm
  go_enter Try.func37, Try.ntmps37
  go_upto_region 1 with fail
  rw [← HW.out, ← HG.out]
  go_wp2_with (first
    | ((with_reducible refine EN.out.mono ?_); rintro e w3 ⟨a3, c3, rfl, _, hX3⟩; have X3 := Lib.hid hX3; clear hX3))
  obtain ⟨hF3, T3, hM3, hT3⟩ := X3.out
  have n3 : w3.heap[g]? = some (.cells #[.int .i64 run] 3 (0, 0)) := (hF3.block g (lt_of_rowK N1.out) HGT.out).trans N1.out
  have gT3 : ¬ T3 g := fun e => by
    rcases (hT3 g e).1 with h | h
    · exact HGT.out h
    · have := lt_of_rowK N1.out; omega
  have HM3 := Lib.hid hM3
  have HF3 := Lib.hid hF3
  have HT3 := Lib.hid (fun q hq => (⟨(hT3 q hq).1, (hT3 q hq).2.1⟩ : (T1 q ∨ w1.heap.size ≤ q) ∧ q < w3.heap.size))
  have N3 := Lib.hid n3
  have GT3 := Lib.hid gT3
  clear hM3 hF3 hT3 n3 gT3 X3 EN
  go_loopw [5, 11] (fun nv iv wr => drRelM w3 T3 b o R0 ty run NF MF nv iv wr) (fun _ iv _ => 65 - (intOf iv).toNat)
  case atStart => exact ⟨0, m, MD, by decide, rfl, rfl, HE1.out, HE2.out, .same HM3.out (Below.refl _ _)⟩
  case round =>
    obtain ⟨wq, rfl⟩ : ∃ wq : World, wq = wr := ⟨_, rfl⟩
    obtain ⟨i, c, M1, hi, rfl, rfl, hc, hg, hP⟩ := hrel
    by_cases hin : i < 65
    · have hin2 : (i : Int) < 65 := by omega
      have h0 : (0 : Int) ≤ (i : Int) := by omega
      rw [show 65 - i = (65 - (i + 1)) + 1 by omega, drC] at hc
      rw [show 65 - i = (65 - (i + 1)) + 1 by omega, drG] at hg
      have nq := hP.keepRow N3.out GT3.out
      have cq : wq.cell? ⟨g, 0, none⟩ = some (.int .i64 run) := cell_of_one nq
      obtain ⟨hFq, Tq, hMq, hTq⟩ := hP
      have eq : o + 1 + i * 3 = qo o i := by unfold qo; omega
      have DR := Lib.hid (fun (W : World) (hW : Below wq.heap.size wq W) => mq_drop (hMq.below hW) hin run)
      rw [← eq] at DR
      obtain ⟨d, hd⟩ : ∃ d, d = cntW run (M1.W i) := ⟨_, rfl⟩
      rw [← hd] at DR hc
      obtain ⟨M2, hM2⟩ : ∃ M2, M2 = M1.q i (othW run (M1.W i)) := ⟨_, rfl⟩
      rw [← hM2] at DR hc hg
      have HC := Lib.hid hc
      have HGG := Lib.hid hg
      have HFq := Lib.hid hFq
      have HTq := Lib.hid hTq
      have hb1 : (c : Int) + (d : Int) ≤ 100000 := by omega
      have hb0 : (0 : Int) ≤ (c : Int) + (d : Int) := by omega
      clear hc hg hFq hMq hTq nq eq hd hM2
      go_upto_region 5 with fail
      (refine wp_region_quiet_tail_f 7 (by kernel_rfl) (by kernel_rfl) ?_; simp only [List.take_succ_cons, List.take_zero, List.drop_succ_cons, List.drop_zero]; (repeat (go_big_quiet_step (fail))); refine wpQuiet_nil ?_; intro _ hw'; obtain ⟨nq, hw''⟩ := hw'; subst hw'')
      have B4 := Lib.hid (below_drewN (Below.refl wq.heap.size wq) nq)
      obtain ⟨w4, hw4⟩ : ∃ x, x = wq.drewN nq := ⟨_, rfl⟩
      rw [← hw4] at B4 ⊢
      clear hw4
      go_wp2_with (first
        | ((with_reducible refine (DR.out _ B4.out).mono ?_); rintro e w5 ⟨rfl, hP5⟩))
      exact ⟨⟨i + 1, c + d, M2, by omega, rfl, rfl, by have := HC.out; omega, HGG.out, MPost.glue HFq.out HTq.out B4.out hP5⟩, by simp [intOf]; omega⟩
    · have hin2 : ¬ (i : Int) < 65 := by omega
      obtain rfl : i = 65 := by omega
      have hcN : c = NF := hc
      have hgM : M1 = MF := hg
      subst hcN hgM
      have HPq := Lib.hid hP
      clear hc hg hP
      go_wp2_with fail
      go_ret
      refine ⟨rfl, MPost.first' B1.out (MPost.mono ?_ HT.out.1)⟩
      exact MPost.glue HF3.out HT3.out (Below.refl _ _) HPq.out
end Go.Proofs.Ytkmhbbcppjckiaa.Ma
