/- Two queues side by side: QueueApart's walk. -/
import Derived.Test.YtjjmjbemflhlbaaNL
import Derived.Test.YtjjmjbemflhlbaaNO
namespace Go.Proofs.Ytjjmjbemflhlbaa.Qu
open Go Go.RowKit Go.Proofs.Ytjjmjbemflhlbaa
open Go.Proofs.Ytjjmjbemflhlbaa.Hp (K3 kv KLit wf3 i64wf kv_inj)
open Go.Proofs.Ytjjmjbemflhlbaa.Dk (Frm below_drewN Frm.of_below Frm.setCell Frm.refl Frm.drewN Frm.drew Frm.transT Frm.turned Frm.trans Frm.mono Frm.setRow Frm.thenBelow Frm.below)
set_option linter.unusedVariables false
set_option linter.unusedSimpArgs false
set_option maxRecDepth 100000
set_option maxHeartbeats 4000000
/-- Two queues, and blocks F that are neither's. -/
structure ApS (w : World) (F : Nat → Prop) (ga gb : Nat) (A B : List Tk) (wr : World) : Prop where
  q : ∃ Ta Tb : Nat → Prop, QT wr Ta ga A ∧ QT wr Tb gb B ∧ (∀ q, Ta q → q < wr.heap.size ∧ w.heap.size ≤ q) ∧ (∀ q, Tb q → q < wr.heap.size ∧ w.heap.size ≤ q) ∧ (∀ q, Ta q → ¬ Tb q) ∧ ∀ q, F q → q < wr.heap.size ∧ ¬ Ta q ∧ ¬ Tb q
  low : Below w.heap.size w wr
variable {w wr w' : World} {F : Nat → Prop} {ga gb : Nat} {A B V : List Tk}
theorem ApS.swap (h : ApS w F ga gb A B wr) : ApS w F gb ga B A wr := by
  obtain ⟨Ta, Tb, h1, h2, h3, h4, h5, h6⟩ := h.q
  exact ⟨⟨Tb, Ta, h2, h1, h4, h3, fun q hb ha => h5 q ha hb, fun q hq => ⟨(h6 q hq).1, (h6 q hq).2.2, (h6 q hq).2.1⟩⟩, h.low⟩
/-- A call on the first one. -/
theorem ApS.call {f : FuncId} {args : Array Value} {R : Ending → Prop} (h : ApS w F ga gb A B wr) (hc : ∀ T, QT wr T ga A → Calls Try.prog f args wr fun e w' => R e ∧ QPost wr T ga V w') : Calls Try.prog f args wr fun e w' => R e ∧ ApS w F ga gb V B w' ∧ ∀ q, F q → w'.heap[q]? = wr.heap[q]? := by
  obtain ⟨Ta, Tb, h1, h2, h3, h4, h5, h6⟩ := h.q
  refine (hc Ta h1).mono ?_
  rintro e w' ⟨he, hF, T', hQ, hT'⟩
  have hs := hF.size
  refine ⟨he, ⟨⟨T', Tb, hQ, h2.keep fun q hq hlt => hF.block q hlt fun ha => h5 q ha hq, fun q hq => ⟨(hT' q hq).2, ?_⟩, fun q hq => ⟨Nat.lt_of_lt_of_le (h4 q hq).1 hs, (h4 q hq).2⟩, fun q hq hb => ?_, fun q hq => ⟨Nat.lt_of_lt_of_le (h6 q hq).1 hs, fun ht => ?_, (h6 q hq).2.2⟩⟩, h.low.trans (hF.below (fun q _ hq => (h3 q hq).2) h.low.size)⟩, fun q hq => hF.block q (h6 q hq).1 (h6 q hq).2.1⟩
  · rcases (hT' q hq).1 with e | e
    · exact (h3 q e).2
    · exact Nat.le_trans h.low.size e
  · rcases (hT' q hq).1 with e | e
    · exact h5 q e hb
    · have := (h4 q hb).1; omega
  · rcases (hT' q ht).1 with e | e
    · exact (h6 q hq).2.1 e
    · have := (h6 q hq).1; omega
theorem ApS.below (h : ApS w F ga gb A B wr) (hb : Below wr.heap.size wr w') : ApS w F ga gb A B w' := by
  obtain ⟨Ta, Tb, h1, h2, h3, h4, h5, h6⟩ := h.q
  exact ⟨⟨Ta, Tb, h1.below hb, h2.below hb, fun q hq => ⟨Nat.lt_of_lt_of_le (h3 q hq).1 hb.size, (h3 q hq).2⟩, fun q hq => ⟨Nat.lt_of_lt_of_le (h4 q hq).1 hb.size, (h4 q hq).2⟩, h5, fun q hq => ⟨Nat.lt_of_lt_of_le (h6 q hq).1 hb.size, (h6 q hq).2⟩⟩, h.low.trans (hb.mono h.low.size)⟩
/-- A new block is neither's. -/
theorem ApS.more {F' : Nat → Prop} (h : ApS w F ga gb A B wr) (hb : Below wr.heap.size wr w') (hF : ∀ q, F' q → F q ∨ (wr.heap.size ≤ q ∧ q < w'.heap.size)) : ApS w F' ga gb A B w' := by
  obtain ⟨Ta, Tb, h1, h2, h3, h4, h5, h6⟩ := (h.below hb).q
  obtain ⟨_, _, _, _, k3, k4, _, _⟩ := h.q
  obtain ⟨Ta, Tb, h1, h2, h3, h4, h5, h6⟩ := h.q
  refine ⟨⟨Ta, Tb, h1.below hb, h2.below hb, fun q hq => ⟨Nat.lt_of_lt_of_le (h3 q hq).1 hb.size, (h3 q hq).2⟩, fun q hq => ⟨Nat.lt_of_lt_of_le (h4 q hq).1 hb.size, (h4 q hq).2⟩, h5, fun q hq => ?_⟩, h.low.trans (hb.mono h.low.size)⟩
  rcases hF q hq with e | ⟨e1, e2⟩
  · exact ⟨Nat.lt_of_lt_of_le (h6 q e).1 hb.size, (h6 q e).2⟩
  · exact ⟨e2, fun ht => by have := (h3 q ht).1; omega, fun ht => by have := (h4 q ht).1; omega⟩
/-- Tasks of some runs, numbered. -/
def ap (runs : List Int) (n : Nat) : List Tk := (List.range n).map fun j => ((runs.getD j 0, 2, (j : Int)), (j : Int))
theorem ap_len (runs : List Int) (n : Nat) : (ap runs n).length = n := by simp [ap]
theorem ap_succ (runs : List Int) (n : Nat) : ap runs (n + 1) = ap runs n ++ [((runs.getD n 0, 2, (n : Int)), (n : Int))] := by simp [ap, List.range_succ]
theorem ap_new (runs : List Int) (n : Nat) (r : Int) : (r, 2, (n : Int)) ∉ keysT (ap runs n) := by
  intro hm
  unfold keysT ap at hm
  simp only [List.map_map, List.mem_map, List.mem_range, Function.comp] at hm
  obtain ⟨j, hj, e⟩ := hm
  have := congrArg (fun k : K3 => k.2.2) e
  simp only at this
  omega
theorem othW_len (run : Int) (W : List Tk) : (othW run W).length ≤ W.length := List.length_filter_le _ _
theorem oth_new {run : Int} {W : List Tk} {k : K3} (h : k ∉ keysT W) : k ∉ keysT (othW run W) := fun hm => by
  obtain ⟨x, hx, e⟩ := List.mem_map.1 hm
  exact h (List.mem_map.2 ⟨x, (List.mem_filter.1 hx).1, e⟩)
theorem cnt_othW (run : Int) : ∀ W : List Tk, cntW run W + (othW run W).length = W.length
  | [] => rfl
  | x :: W => by
    have h := cnt_othW run W
    unfold cntW othW at h ⊢
    by_cases hx : (x.1.1 == run) = true
    · simp [hx] at h ⊢; omega
    · simp [hx] at h ⊢; omega
theorem cnt_none (run : Int) (W : List Tk) : cntW run (othW run W) = 0 := by
  unfold cntW othW
  rw [List.length_eq_zero_iff, List.filter_eq_nil_iff]
  intro x hx
  have := (List.mem_filter.1 hx).2
  simpa using this
theorem othW_snoc (run : Int) (W : List Tk) (x : Tk) : othW run (W ++ [x]) = if (x.1.1 == run) = true then othW run W else othW run W ++ [x] := by
  unfold othW
  rw [List.filter_append, List.filter_cons]
  cases hx : (x.1.1 == run) <;> simp
def apRel (w : World) (ga gb : Nat) (runs : List Int) (run : Int) (iv : Value) (wr : World) : Prop := ∃ i : Nat, i ≤ runs.length ∧ iv = .int .i64 (i : Int) ∧ ApS w (fun _ => False) ga gb (ap runs i) (othW run (ap runs i)) wr
def asRel (w0 : World) (n : Nat) (iv : Value) (wr : World) : Prop := ∃ i : Nat, i ≤ n ∧ iv = .int .i64 (i : Int) ∧ Below w0.heap.size w0 wr
theorem apart_any (ao : Option Addr) (c : Nat) (runs : List Int) (run : Int) (w : World) (h1 : Zs w ao runs) (hm : runs.length ≤ maxLen) : Calls Try.prog 6 #[.slice ao runs.length c, .int .i64 run] w fun e w' => e = .returned (.bool true) ∧ Below w.heap.size w w' := by
  have WA := Lib.hid (waits_any w)
  have H1 := Lib.hid h1
  clear h1
  by_cases hb : 100 < runs.length
  · have hb' : (100 : Int) < (runs.length : Int) := by omega
    go_enter Try.func6, Try.ntmps6
    go_wp2_with (with_reducible refine WA.out.mono ?_; rintro e w1 ⟨rfl, hb1⟩)
    go_ret
    exact ⟨rfl, hb1⟩
  have hl : runs.length ≤ 100 := by omega
  have hc1 : ¬ (100 : Int) < (runs.length : Int) := by omega
  clear hb hm
  go_enter Try.func6, Try.ntmps6
  go_upto_region 6 with (with_reducible refine WA.out.mono ?_; rintro e w1 ⟨rfl, hb1⟩)
  obtain ⟨w2, hw2⟩ : ∃ x, x = (w1.alloc (.cells #[.pointer none, .pointer none, .map none] 29)).alloc (.cells #[.pointer none, .pointer none, .map none] 29) := ⟨_, rfl⟩
  obtain ⟨ga, hga⟩ : ∃ g, g = w1.heap.size := ⟨_, rfl⟩
  obtain ⟨gb, hgb⟩ : ∃ g, g = w1.heap.size + 1 := ⟨_, rfl⟩
  rw [← hw2, ← hgb, ← hga]
  have S2 := Lib.hid (show ApS w (fun _ => False) ga gb [] [] w2 from by
    have hs : w2.heap.size = w1.heap.size + 1 + 1 := by rw [hw2]; simp
    have hq1 := QT.new w1
    have hq2 := QT.new (w1.alloc (.cells #[.pointer none, .pointer none, .map none] 29))
    have e2 : (w1.alloc (.cells #[.pointer none, .pointer none, .map none] 29)).heap.size = gb := by rw [hgb]; simp
    rw [e2, ← hw2] at hq2
    refine ⟨⟨fun q => q = ga, fun q => q = gb, ?_, hq2, fun q hq => ⟨by omega, by have := hb1.size; omega⟩, fun q hq => ⟨by omega, by have := hb1.size; omega⟩, fun q h1 h2 => by omega, (fun q h => by cases h)⟩, hb1.trans ?_⟩
    · rw [hw2, hga]
      exact hq1.keep fun q hq hlt => Below.heap_alloc _ _ _ hlt
    · rw [hw2]
      exact ((Below.refl _ _).alloc hb1.size _).alloc (by simp; have := hb1.size; omega) _)
  clear hw2 hga hgb hb1 WA
  go_wp2_with fail
  go_loopw [21] (fun iv wr => apRel w ga gb runs run iv wr) (fun iv _ => runs.length - (intOf iv).toNat)
  case atStart => exact ⟨0, by omega, rfl, S2.out⟩
  case round =>
    obtain ⟨wq, rfl⟩ : ∃ wq : World, wq = wr := ⟨_, rfl⟩
    obtain ⟨i, hi, rfl, hS⟩ := hrel
    by_cases hin : i < runs.length
    · have hin2 : (i : Int) < (runs.length : Int) := by omega
      have h0 : (0 : Int) ≤ (i : Int) := by omega
      obtain ⟨r, hr⟩ : ∃ r, runs[i]? = some r := ⟨_, List.getElem?_eq_getElem hin⟩
      have hgd : runs.getD i 0 = r := by rw [List.getD_eq_getElem?_getD, hr]; rfl
      obtain ⟨ad, rfl⟩ : ∃ ad, ao = some ad := by
        cases ao with
        | none => have := H1.out.none rfl; rw [this] at hin; simp at hin
        | some ad => exact ⟨ad, rfl⟩
      have cx := (H1.out.below hS.low (Nat.le_refl _)).cell ad rfl i r hr
      have hwf : wf3 (r, 2, (i : Int)) := ⟨H1.out.wf r (List.mem_of_getElem? hr), rfl, WalkArith.wf_i64 (n := (i : Int)) (by omega)⟩
      have hnow : i64wf (i : Int) := WalkArith.wf_i64 (by omega)
      have HWF := Lib.hid (And.intro hwf hnow)
      obtain ⟨w4, hw4⟩ : ∃ x, x = wq.alloc (.cells (kcs (r, 2, (i : Int))).toArray 32) := ⟨_, rfl⟩
      obtain ⟨g4, hg4⟩ : ∃ x, x = wq.heap.size := ⟨_, rfl⟩
      have b4 : Below wq.heap.size wq w4 := by rw [hw4]; exact (Below.refl _ _).alloc (Nat.le_refl _) _
      have n4 : w4.heap[g4]? = some (.cells (kcs (r, 2, (i : Int))).toArray 32 (0, 0)) := by rw [hw4, hg4]; exact heap_alloc_new _ _
      have S4 : ApS w (fun q => q = g4) ga gb (ap runs i) (othW run (ap runs i)) w4 := hS.more b4 (fun q hq => .inr ⟨by omega, by rw [hq, hw4, hg4]; simp⟩)
      have hnew := ap_new runs i r
      have hll : (ap runs i).length < 128 := by rw [ap_len]; omega
      have AA := Lib.hid (S4.call (V := addW (ap runs i) (r, 2, (i : Int)) (i : Int)) (R := fun e => e = .returned (.int .i64 (addR (ap runs i) (r, 2, (i : Int))))) (fun T hQ => qt_add hQ (r, 2, (i : Int)) hwf (i : Int) hnow))
      rw [addR_new hnew hll, addW_new hnew hll] at AA
      have KT := box_at n4
      have N4 := Lib.hid n4
      have HW4 := Lib.hid (show wq.alloc (.cells #[.int .i64 r, .int .i64 2, .int .i64 (i : Int)] 32) = w4 from by rw [hw4]; rfl)
      have HG4 := Lib.hid hg4
      have HGD := Lib.hid hgd
      have SUC := Lib.hid (show ap runs (i + 1) = ap runs i ++ [((r, 2, (i : Int)), (i : Int))] from by rw [ap_succ, hgd])
      have HNEW := Lib.hid (show (r, 2, (i : Int)) ∉ keysT (othW run (ap runs i)) ∧ (othW run (ap runs i)).length < 128 from ⟨oth_new hnew, Nat.lt_of_le_of_lt (othW_len _ _) hll⟩)
      clear hS hr hgd hwf hnow hw4 hg4 b4 n4 S4 hnew hll
      go_upto_region 10 with fail
      rw [HW4.out, ← HG4.out]
      go_upto_region 11 with (first
        | (with_reducible show wpList _ _ _ _ _ _; refine wpList_load_allW rfl 32 (.tmp 9) rfl ⟨g4, 0, none⟩ rfl (kcs (r, 2, (i : Int))) _ KT Try.underlying32 rfl (tkSize _) ?_)
        | (with_reducible refine AA.out.mono ?_; rintro e w5 ⟨rfl, hS5, hk5⟩))
      by_cases hrr : r = run
      · have hrr2 : (r == run) = true := by simpa using hrr
        have RL := Lib.hid (show apRel w ga gb runs run (.int .i64 ((i + 1 : Nat) : Int)) w5 from ⟨i + 1, by omega, rfl, by
          rw [SUC.out, othW_snoc, if_pos hrr2]
          exact ⟨by
            obtain ⟨Ta, Tb, q1, q2, q3, q4, q5, q6⟩ := hS5.q
            exact ⟨Ta, Tb, q1, q2, q3, q4, q5, fun q h => by cases h⟩, hS5.low⟩⟩)
        clear hS5 hk5 KT hrr2
        go_wp2_with fail
        exact ⟨RL.out, by simp [intOf]; omega⟩
      · have hrr2 : (r == run) = false := by simpa using hrr
        have KT5 := box_at ((hk5 g4 rfl).trans N4.out)
        have BB := Lib.hid (hS5.swap.call (V := addW (othW run (ap runs i)) (r, 2, (i : Int)) (i : Int)) (R := fun e => e = .returned (.int .i64 (addR (othW run (ap runs i)) (r, 2, (i : Int))))) (fun T hQ => qt_add hQ (r, 2, (i : Int)) HWF.out.1 (i : Int) HWF.out.2))
        rw [addR_new HNEW.out.1 HNEW.out.2, addW_new HNEW.out.1 HNEW.out.2] at BB
        have HRR := Lib.hid hrr2
        clear hS5 hk5 KT hrr2
        go_wp2_with (first
          | (with_reducible show wpList _ _ _ _ _ _; refine wpList_load_allW rfl 32 (.tmp 9) rfl ⟨g4, 0, none⟩ rfl (kcs (r, 2, (i : Int))) _ KT5 Try.underlying32 rfl (tkSize _) ?_)
          | (with_reducible refine BB.out.mono ?_; rintro e w6 ⟨rfl, hS6, hk6⟩; clear hk6))
        refine ⟨⟨i + 1, by omega, rfl, ?_⟩, by simp [intOf]; omega⟩
        rw [SUC.out, othW_snoc, if_neg (by rw [HRR.out]; decide)]
        refine ⟨?_, hS6.low⟩
        obtain ⟨Ta, Tb, q1, q2, q3, q4, q5, q6⟩ := hS6.swap.q
        exact ⟨Ta, Tb, q1, q2, q3, q4, q5, fun q h => by cases h⟩
    · obtain rfl : i = runs.length := by omega
      have hin2 : ¬ (runs.length : Int) < (runs.length : Int) := by omega
      obtain ⟨A, hA⟩ : ∃ A, A = ap runs runs.length := ⟨_, rfl⟩
      have hAl : A.length = runs.length := by rw [hA, ap_len]
      rw [← hA] at hS
      have hsum := cnt_othW run A
      rw [hAl] at hsum
      have DR := Lib.hid (hS.call (V := othW run A) (R := fun e => e = .returned (.int .i64 (cntW run A : Int))) (fun T hQ => qt_drop hQ run))
      have CN := Lib.hid (cnt_none run A)
      obtain ⟨Y, hY⟩ : ∃ Y, Y = othW run A := ⟨_, rfl⟩
      obtain ⟨nn, hnn⟩ : ∃ nn, nn = cntW run A := ⟨_, rfl⟩
      rw [← hY, ← hnn] at DR
      rw [← hY] at CN
      rw [← hY, ← hnn] at hsum
      clear hS hA hAl hY hnn S2 hi hin
      obtain ⟨n, hn⟩ : ∃ n, n = runs.length := ⟨_, rfl⟩
      rw [← hn] at hsum hl hc1 hin2 ⊢
      clear hn
      go_upto_region 15 with (with_reducible refine DR.out.mono ?_; rintro e w5 ⟨rfl, hS5, hk5⟩)
      obtain ⟨Ta, Tb, q1, q2, q3, q4, q5, q6⟩ := id hS5.q
      have LA := Lib.hid (qt_list q1)
      have Q2 := Lib.hid q2
      have S5 := Lib.hid hS5
      clear hS5 hk5 q1 q2 q3 q4 q5 q6 DR
      go_upto_region 16 with (first
        | (with_reducible refine LA.out.mono ?_; rintro e w6 ⟨aoA, cA, rfl, hoA, hb6⟩; have LB := Lib.hid (qt_list (Q2.out.below hb6)); clear LA)
        | (with_reducible refine LB.out.mono ?_; rintro e w7 ⟨aoB, cB, rfl, hoB, hb7⟩))
      have S7 := Lib.hid (S5.out.below (hb6.trans (hb7.mono hb6.size)))
      have OA := Lib.hid (own_belowK hoA hb7)
      have OB := Lib.hid hoB
      obtain ⟨m, hmm⟩ : ∃ m, m = Y.length := ⟨_, rfl⟩
      rw [← hmm] at OA OB hsum ⊢
      have HM := Lib.hid hmm
      have hd : ¬ (nn : Int) ≠ (n : Int) - (m : Int) := by omega
      have hd2 : ((nn : Int) == (n : Int) - (m : Int)) = true := by
        have : (nn : Int) = (n : Int) - (m : Int) := by omega
        simpa using this
      have hm100 : m ≤ 100 := by omega
      clear hoA hoB hb6 hb7 hmm LB
      go_wp2_with fail
      go_loopw [59] (fun iv wr => asRel w7 m iv wr) (fun iv _ => m - (intOf iv).toNat)
      case atStart => exact ⟨0, by omega, rfl, Below.refl _ _⟩
      case round =>
        obtain ⟨wp, rfl⟩ : ∃ wp : World, wp = wr := ⟨_, rfl⟩
        obtain ⟨j, hj, rfl, hb⟩ := hrel
        by_cases hjn : j < m
        · have hjn2 : (j : Int) < (m : Int) := by omega
          have h0 : (0 : Int) ≤ (j : Int) := by omega
          obtain ⟨k, hk⟩ : ∃ k, (keysT Y)[j]? = some k := ⟨_, List.getElem?_eq_getElem (by unfold keysT; rw [List.length_map, ← HM.out]; exact hjn)⟩
          obtain ⟨gx, hgx, _, _, _⟩ := own_cellK OA.out (kss_at _ j k hk 0 _ rfl)
          obtain ⟨gy, hgy, _, _, _⟩ := own_cellK OB.out (kss_at _ j k hk 0 _ rfl)
          subst hgx hgy
          have KA : ∀ i v, (kcs k)[i]? = some v → wp.cell? ((⟨gx, j * 3, none⟩ : Addr).add i) = some v := by
            intro i v hv
            obtain ⟨g2, e2, _, hlt, hc⟩ := own_cellK OA.out (kss_at _ j k hk i v hv)
            injection e2 with e2
            injection e2 with e2
            subst e2
            rw [Addr.add_mid, hb.cell hlt]
            exact hc
          have KB : ∀ i v, (kcs k)[i]? = some v → wp.cell? ((⟨gy, j * 3, none⟩ : Addr).add i) = some v := by
            intro i v hv
            obtain ⟨g2, e2, _, hlt, hc⟩ := own_cellK OB.out (kss_at _ j k hk i v hv)
            injection e2 with e2
            injection e2 with e2
            subst e2
            rw [Addr.add_mid, hb.cell hlt]
            exact hc
          have HB := Lib.hid hb
          have hkk : (!decide (k = k)) = false := by simp
          clear hb hk
          go_upto_region 21 with fail
          refine wp_region_quiet_lit (by kernel_rfl) (by kernel_rfl) ?_
          repeat (go_big_quiet_step (fail))
          refine wpQuiet_loadG (by kernel_rfl) 32 (.tmp 64) rfl ⟨gx, j * 3, none⟩ rfl (kcs k) _ (fun w' hC => by obtain ⟨nl, rfl⟩ := hC; exact KA) Try.underlying32 rfl (tkSize _) ?_
          simp only [Act.put, List.setIfInBounds_toArray, List.set_cons_zero, List.set_cons_succ, List.getElem_toArray, List.getElem_cons_zero, List.getElem_cons_succ]
          repeat (go_big_quiet_step (fail))
          refine wpQuiet_loadG (by kernel_rfl) 32 (.tmp 68) rfl ⟨gy, j * 3, none⟩ rfl (kcs k) _ (fun w' hC => by obtain ⟨nl, rfl⟩ := hC; exact KB) Try.underlying32 rfl (tkSize _) ?_
          simp only [Act.put, List.setIfInBounds_toArray, List.set_cons_zero, List.set_cons_succ, List.getElem_toArray, List.getElem_cons_zero, List.getElem_cons_succ]
          refine wpQuiet_runG (v := .bool false) (by kernel_rfl) (fun w' hC => by obtain ⟨nl, rfl⟩ := hC; rw [← hkk]; exact exec_tneq rfl k k rfl rfl _) ?_
          simp only [Act.put, List.setIfInBounds_toArray, List.set_cons_zero, List.set_cons_succ, List.getElem_toArray, List.getElem_cons_zero, List.getElem_cons_succ]
          refine wpQuiet_nil ?_
          intro _ hw'
          obtain ⟨nq, hw''⟩ := hw'
          subst hw''
          go_wp2_with fail
          exact ⟨⟨j + 1, by omega, rfl, below_drewN HB.out nq⟩, by simp [intOf]; omega⟩
        · obtain rfl : j = m := by omega
          have hjn2 : ¬ (j : Int) < (j : Int) := by omega
          have hS := S7.out.below hb
          have D2 := Lib.hid (hS.call (V := othW run Y) (R := fun e => e = .returned (.int .i64 (cntW run Y : Int))) (fun T hQ => qt_drop hQ run))
          rw [CN.out] at D2
          clear hS hb hj hjn
          go_wp2_with (with_reducible refine D2.out.mono ?_; rintro e w8 ⟨rfl, hS8, hk8⟩)
          go_ret
          exact ⟨rfl, hS8.low⟩
end Go.Proofs.Ytjjmjbemflhlbaa.Qu
