/- A task that waits for a worker waits for anybody. -/
import Derived.Test.YtkmhbbcppjckiaaK0L
namespace Go.Proofs.Ytkmhbbcppjckiaa.Ma
open Go Go.RowKit Go.Proofs.Ytkmhbbcppjckiaa
open Go.Proofs.Ytkmhbbcppjckiaa.Hp (i64wf K3 wf3)
open Go.Proofs.Ytkmhbbcppjckiaa.Qu
open Go.Proofs.Ytkmhbbcppjckiaa.Dk (Frm below_drewN)
set_option linter.unusedVariables false
set_option linter.unusedSimpArgs false
set_option maxRecDepth 100000
variable {w w' wx : World} {T : Nat → Prop} {b o : Nat} {R0 : Array Value} {ty : TypeId} {M M' : MM}
theorem updQ_id {α : Type} (g : Nat → α) (k : Nat) : updQ g k (g k) = g := by
  funext j
  unfold updQ
  split
  · rename_i h; rw [h]
  · rfl
theorem MM.q_id (M : MM) {k : Nat} {W : List Tk} (h : W = M.W k) : M.q k W = M := by
  subst h
  unfold MM.q
  rw [updQ_id]
theorem addW_no {W : List Tk} {k : K3} {now : Int} (h : addR W k ≠ 0) : addW W k now = W := by unfold addW; rw [if_neg h]
/-- What a Match holds behind a task's turn to anybody. -/
def MM.fr (M : MM) (k : K3) (j : Nat) (now : Int) : MM := if addR (M.W 0) k = 0 then (M.q 0 (addW (M.W 0) k now)).q j (remW ((M.q 0 (addW (M.W 0) k now)).W j) k) else M
theorem mt_free (h : MT w T b o R0 ty M) {j : Nat} (hj : j < 65) (k : K3) (hk : wf3 k) (now : Int) (hn : i64wf now) : Calls Try.prog 59 #[.pointer (some ⟨b, o, none⟩), .agg (kcs k).toArray, .int .i64 (j : Int), .int .i64 now] w fun e w' => e = .returned (.tuple #[]) ∧ MPost w T b o R0 ty (M.fr k j now) w' := by
  obtain ⟨T1, hT1⟩ : ∃ T1 : Nat → Prop, T1 = fun q => T q ∧ q < w.heap.size := ⟨_, rfl⟩
  have h1 : MT w T1 b o R0 ty M := by rw [hT1]; exact h.lts
  suffices hs : Calls Try.prog 59 #[.pointer (some ⟨b, o, none⟩), .agg (kcs k).toArray, .int .i64 (j : Int), .int .i64 now] w fun e w' => e = .returned (.tuple #[]) ∧ MPost w T1 b o R0 ty (M.fr k j now) w' from
    hs.mono fun e w' hh => ⟨hh.1, hh.2.mono fun q hq => by rw [hT1] at hq; exact hq.1⟩
  have hTlt : ∀ q, T1 q → q < w.heap.size := fun q hq => by rw [hT1] at hq; exact hq.2
  clear h hT1
  obtain ⟨w1, hw1⟩ : ∃ x, x = w.alloc (.cells (kcs k).toArray 32) := ⟨_, rfl⟩
  obtain ⟨g, hg⟩ : ∃ g, g = w.heap.size := ⟨_, rfl⟩
  have b1 : Below w.heap.size w w1 := by rw [hw1]; exact (Below.refl _ _).alloc (Nat.le_refl _) _
  have n1 : w1.heap[g]? = some (.cells (kcs k).toArray 32 (0, 0)) := by rw [hw1, hg]; exact heap_alloc_new _ _
  have AD := Lib.hid (fun (W : World) (hW : Below w1.heap.size w1 W) => show Calls Try.prog 14 #[.pointer (some ⟨b, o + 1, none⟩), .agg (kcs k).toArray, .int .i64 now] W fun e w' => e = .returned (.int .i64 (addR (M.W 0) k)) ∧ MPost W T1 b o R0 ty (M.q 0 (addW (M.W 0) k now)) w' from
    mq_add ((h1.below b1).below hW) (j := 0) (by decide) k hk now hn)
  obtain ⟨M1, hM1⟩ : ∃ M1, M1 = M.q 0 (addW (M.W 0) k now) := ⟨_, rfl⟩
  obtain ⟨r, hr⟩ : ∃ r, r = addR (M.W 0) k := ⟨_, rfl⟩
  have hfr : M.fr k j now = if r = 0 then M1.q j (remW (M1.W j) k) else M1 := by
    unfold MM.fr
    rw [hM1, hr]
    split
    · rfl
    · rename_i hno
      rw [addW_no hno, M.q_id rfl]
  rw [← hr, ← hM1] at AD
  rw [hfr]
  have RM := Lib.hid (fun (W : World) (T2 : Nat → Prop) (h2 : MT W T2 b o R0 ty M1) => show Calls Try.prog 17 #[.pointer (some ⟨b, o + 1 + j * 3, none⟩), .agg (kcs k).toArray] W fun e w' => e = .returned (.bool ((keysT (M1.W j)).contains k)) ∧ MPost W T2 b o R0 ty (M1.q j (remW (M1.W j) k)) w' from by
    have e2 : o + 1 + j * 3 = qo o j := by unfold qo; omega
    rw [e2]
    exact mq_remove h2 hj k hk)
  obtain ⟨M2, hM2⟩ : ∃ M2, M2 = M1.q j (remW (M1.W j) k) := ⟨_, rfl⟩
  rw [← hM2] at RM ⊢
  obtain ⟨B, hB⟩ : ∃ B, B = (keysT (M1.W j)).contains k := ⟨_, rfl⟩
  rw [← hB] at RM
  obtain ⟨M3, hM3⟩ : ∃ M3, M3 = if r = 0 then M2 else M1 := ⟨_, rfl⟩
  rw [← hM3]
  have HMY := Lib.hid (show r = 0 → M3 = M2 from fun e => by rw [hM3, if_pos e])
  have HMN := Lib.hid (show r ≠ 0 → M3 = M1 from fun e => by rw [hM3, if_neg e])
  clear hM3
  have HT := Lib.hid hTlt
  have H1 := Lib.hid (h1.below b1)
  have HW := Lib.hid hw1
  have HG := Lib.hid hg
  have B1 := Lib.hid b1
  have N1 := Lib.hid n1
  have KG : ∀ W, Below w1.heap.size w1 W → ∀ j v, (kcs k)[j]? = some v → W.cell? ((⟨g, 0, none⟩ : Addr).add j) = some v := fun W hW => box_at ((hW.block g (lt_of_rowW n1)).trans n1)
  have HKG := Lib.hid KG
  have hj0 : (0 : Int) ≤ (j : Int) := by omega
  have hj2 : (j : Int) < 65 := by omega
  clear h1 hw1 hg b1 n1 hM1 hr hfr hM2 hB hTlt KG
  go_enter Try.func59, Try.ntmps59
  go_upto_region 1 with fail
  rw [← HW.out, ← HG.out]
  refine wp_region_quiet_tail 6 (by kernel_rfl) (by kernel_rfl) ?_
  simp only [List.take_succ_cons, List.take_zero, List.drop_succ_cons, List.drop_zero]
  repeat (go_big_quiet_step (fail))
  refine wpQuiet_loadG (by kernel_rfl) 32 (.tmp 5) rfl ⟨g, 0, none⟩ rfl (kcs k) _ (fun w' hC => by obtain ⟨nl, rfl⟩ := hC; exact HKG.out _ (below_drewN (Below.refl _ _) _)) Try.underlying32 rfl (tkSize _) ?_
  simp only [Act.put, List.setIfInBounds_toArray, List.set_cons_zero, List.set_cons_succ, List.getElem_toArray, List.getElem_cons_zero, List.getElem_cons_succ]
  repeat (go_big_quiet_step (fail))
  refine wpQuiet_nil ?_
  intro _ hw'
  obtain ⟨nq, hw''⟩ := hw'
  subst hw''
  have B2 := Lib.hid (below_drewN (Below.refl w1.heap.size w1) nq)
  obtain ⟨w2, hw2⟩ : ∃ x, x = w1.drewN nq := ⟨_, rfl⟩
  rw [← hw2] at B2 ⊢
  clear hw2
  by_cases hr : r = 0
  · obtain rfl := HMY.out hr
    subst hr
    go_upto_region 2 with (first
      | (with_reducible refine (AD.out _ B2.out).mono ?_; rintro e w3 ⟨rfl, hP⟩))
    obtain ⟨hF3, T3, hM3, hT3⟩ := hP
    have b3 : Below w2.heap.size w2 w2 := Below.refl _ _
    have n3 : w3.heap[g]? = some (.cells (kcs k).toArray 32 (0, 0)) := by
      have h2 : w2.heap[g]? = some (.cells (kcs k).toArray 32 (0, 0)) := (B2.out.block g (lt_of_rowW N1.out)).trans N1.out
      exact (hF3.block g (lt_of_rowW h2) (fun e => by have h4 := HT.out _ e; have h5 := HG.out; omega)).trans h2
    have HN3 := Lib.hid (fun (W : World) (hW : Below w3.heap.size w3 W) => box_at ((hW.block g (lt_of_rowW n3)).trans n3))
    have R3 := Lib.hid (fun (W : World) (hW : Below w3.heap.size w3 W) => RM.out W T3 (hM3.below hW))
    have HF3 := Lib.hid hF3
    have HM3 := Lib.hid hM3
    have HT3 := Lib.hid hT3
    clear hF3 hM3 hT3 n3 b3
    refine wp_region_quiet_tail 6 (by kernel_rfl) (by kernel_rfl) ?_
    simp only [List.take_succ_cons, List.take_zero, List.drop_succ_cons, List.drop_zero]
    repeat (go_big_quiet_step (fail))
    refine wpQuiet_loadG (by kernel_rfl) 32 (.tmp 5) rfl ⟨g, 0, none⟩ rfl (kcs k) _ (fun w' hC => by obtain ⟨nl, rfl⟩ := hC; exact HN3.out _ (below_drewN (Below.refl _ _) _)) Try.underlying32 rfl (tkSize _) ?_
    simp only [Act.put, List.setIfInBounds_toArray, List.set_cons_zero, List.set_cons_succ, List.getElem_toArray, List.getElem_cons_zero, List.getElem_cons_succ]
    repeat (go_big_quiet_step (fail))
    refine wpQuiet_nil ?_
    intro _ hw'
    obtain ⟨nq, hw''⟩ := hw'
    subst hw''
    have B4 := Lib.hid (below_drewN (Below.refl w3.heap.size w3) nq)
    obtain ⟨w4, hw4⟩ : ∃ x, x = w3.drewN nq := ⟨_, rfl⟩
    rw [← hw4] at B4 ⊢
    clear hw4
    go_wp2_with (first
      | (with_reducible refine (R3.out _ B4.out).mono ?_; rintro e w5 ⟨rfl, hP5⟩))
    go_end0
    refine ⟨rfl, MPost.first' B1.out (MPost.first' B2.out ?_)⟩
    obtain ⟨hF5, T5, hM5, hT5⟩ := hP5
    refine ⟨HF3.out.transT ((Frm.of_below B4.out (Nat.le_refl _)).trans hF5) ?_, T5, hM5, ?_⟩
    · intro q hq h3
      rcases (HT3.out q h3).1 with h | h
      · exact h
      · omega
    · intro q hq
      refine ⟨?_, (hT5 q hq).2⟩
      rcases (hT5 q hq).1 with h | h
      · exact (HT3.out q h).1
      · exact .inr (Nat.le_trans HF3.out.size (Nat.le_trans B4.out.size h))
  · obtain rfl := HMN.out hr
    go_wp2_with (first
      | (with_reducible refine (AD.out _ B2.out).mono ?_; rintro e w3 ⟨rfl, hP⟩))
    go_end0
    exact ⟨rfl, MPost.first' B1.out (MPost.first' B2.out hP)⟩
end Go.Proofs.Ytkmhbbcppjckiaa.Ma
/- The tasks that waited for a worker for too long. -/
namespace Go.Proofs.Ytkmhbbcppjckiaa.Ma
open Go Go.RowKit Go.Proofs.Ytkmhbbcppjckiaa
open Go.Proofs.Ytkmhbbcppjckiaa.Hp (i64wf K3 wf3)
open Go.Proofs.Ytkmhbbcppjckiaa.Qu
open Go.Proofs.Ytkmhbbcppjckiaa.Dk (Frm below_drewN)
set_option linter.unusedVariables false
set_option linter.unusedSimpArgs false
set_option maxRecDepth 100000
variable {w w' wx : World} {T : Nat → Prop} {b o : Nat} {R0 : Array Value} {ty : TypeId} {M M' : MM}
theorem tk_one {W : List Tk} (hnd : (keysT W).Nodup) {k : K3} {s s' : Int} (h : (k, s) ∈ W) (h' : (k, s') ∈ W) : s = s' := by
  unfold keysT at hnd
  obtain ⟨i, hi, e1⟩ := List.getElem_of_mem h
  obtain ⟨j, hj, e2⟩ := List.getElem_of_mem h'
  have hij : i = j := by
    have h1 := (List.getElem_inj (i := i) (j := j) (h₀ := by simpa using hi) (h₁ := by simpa using hj) hnd).1
    apply h1
    simp [e1, e2]
  subst hij
  rw [e1] at e2
  exact congrArg Prod.snd e2
theorem mq_since_at (h : MT w T b o R0 ty M) {j : Nat} (hj : j < 65) {x : Tk} (hx : x ∈ M.W j) : Calls Try.prog 21 #[.pointer (some ⟨b, qo o j, none⟩), .agg (kcs x.1).toArray] w fun e w' => e = .returned (.tuple #[.int .i64 x.2, .bool true]) ∧ Below w.heap.size w w' := by
  refine (mq_since h hj x.1 (h.wf hj x hx).1).mono ?_
  rintro e w' ⟨h1, hb⟩
  refine ⟨?_, hb⟩
  rcases h1 with ⟨hn, _⟩ | ⟨s', hs', he⟩
  · exact absurd (List.mem_map.2 ⟨x, hx, rfl⟩) hn
  · rw [he, tk_one (h.nodup hj) (k := x.1) (s := x.2) (s' := s') hx hs']
/-- Those that waited for too long. -/
def lateW (now : Int) (W : List Tk) : List Tk := W.filter fun x => late x.2 now
def stRel (w : World) (now : Int) (W : List Tk) (lv iv : Value) (wr : World) : Prop :=
  ∃ (i : Nat) (ao : Option Addr) (c : Nat), i ≤ W.length ∧ iv = .int .i64 (i : Int) ∧ lv = .slice ao (lateW now (W.take i)).length c ∧ wr.ownsRow w.heap.size 32 3 (.slice ao (lateW now (W.take i)).length c) (lateW now (W.take i)).length (kss (keysT (lateW now (W.take i)))) ∧ Below w.heap.size w wr
theorem late_take {now : Int} {W : List Tk} {i : Nat} {x : Tk} (hx : W[i]? = some x) : lateW now (W.take (i + 1)) = lateW now (W.take i) ++ (if late x.2 now = true then [x] else []) := by
  unfold lateW
  rw [List.take_add_one, hx, List.filter_append]
  congr 1
  cases h : late x.2 now <;> simp [h]
set_option maxHeartbeats 1000000 in
theorem mt_stuck (h : MT w T b o R0 ty M) {j : Nat} (hj : j < 65) (now : Int) (hnow : i64wf now) : Calls Try.prog 58 #[.pointer (some ⟨b, o, none⟩), .int .i64 (j : Int), .int .i64 now] w fun e w' =>
    ∃ ao c, e = .returned (.slice ao (lateW now (M.W j)).length c) ∧ w'.ownsRow w.heap.size 32 3 (.slice ao (lateW now (M.W j)).length c) (lateW now (M.W j)).length (kss (keysT (lateW now (M.W j)))) ∧ Below w.heap.size w w' := by
  have eq : o + 1 + j * 3 = qo o j := by unfold qo; omega
  have TH := Lib.hid (mq_list h hj)
  have SI := Lib.hid (fun (W : World) (hW : Below w.heap.size w W) (x : Tk) (hx : x ∈ M.W j) => mq_since_at (h.below hW) hj hx)
  have WF := Lib.hid (fun x hx => (h.wf hj x hx).2)
  have HFW := Lib.hid (h.few hj)
  obtain ⟨W, hW⟩ : ∃ W, W = M.W j := ⟨_, rfl⟩
  rw [← hW] at TH SI WF HFW ⊢
  obtain ⟨EF, hEF⟩ : ∃ E, E = lateW now W := ⟨_, rfl⟩
  rw [← hEF]
  have HEF := Lib.hid hEF
  rw [← eq] at TH SI
  obtain ⟨n, hn⟩ : ∃ n, n = W.length := ⟨_, rfl⟩
  have h128 : n ≤ 128 := by rw [hn]; exact HFW.out
  rw [← hn] at TH
  have HN := Lib.hid hn
  have hj0 : (0 : Int) ≤ (j : Int) := by omega
  have hj2 : (j : Int) < 65 := by omega
  clear h hW hn eq hEF
  go_enter Try.func58, Try.ntmps58
  go_wp2_with (first
    | (with_reducible refine TH.out.mono ?_; rintro e w3 ⟨at1, ct, rfl, hown1, hb1⟩; have HO1 := Lib.hid hown1; have HB1 := Lib.hid hb1; clear hown1 hb1))
  go_loopw [7, 19] (fun lv iv wr => stRel w3 now W lv iv wr) (fun _ iv _ => n - (intOf iv).toNat)
  case atStart => exact ⟨0, none, 0, Nat.zero_le _, rfl, rfl, World.ownsRow_nil _ _ _ _, Below.refl _ _⟩
  case round =>
    obtain ⟨wq, rfl⟩ : ∃ wq : World, wq = wr := ⟨_, rfl⟩
    obtain ⟨i, ao, c, hi, rfl, rfl, hown, hb⟩ := hrel
    by_cases hin : i < n
    · have hiL : i < W.length := by rw [← HN.out]; exact hin
      obtain ⟨x, hx⟩ : ∃ x, W[i]? = some x := ⟨_, List.getElem?_eq_getElem hiL⟩
      have hxm : x ∈ W := List.mem_of_getElem? hx
      have hk : (keysT W)[i]? = some x.1 := by unfold keysT; rw [List.getElem?_map, hx]; rfl
      obtain ⟨gp, hgp, _, hglt, _⟩ := own_cellK HO1.out (kss_at _ i x.1 hk 0 _ rfl)
      subst hgp
      have KX : ∀ j v, (kcs x.1)[j]? = some v → wq.cell? ((⟨gp, i * 3, none⟩ : Addr).add j) = some v := by
        intro j v hj
        obtain ⟨g2, e2, hge, hlt, hc⟩ := own_cellK HO1.out (kss_at _ i x.1 hk j v hj)
        injection e2 with e2
        injection e2 with e2
        subst e2
        rw [Addr.add_mid, hb.cell hlt]
        exact hc
      obtain ⟨w5, hw5⟩ : ∃ w5, w5 = wq.alloc (.cells (kcs x.1).toArray 32) := ⟨_, rfl⟩
      obtain ⟨g5, hg5⟩ : ∃ g, g = wq.heap.size := ⟨_, rfl⟩
      have b5 : Below wq.heap.size wq w5 := by rw [hw5]; exact (Below.refl _ _).alloc (Nat.le_refl _) _
      have n5 : w5.heap[g5]? = some (.cells (kcs x.1).toArray 32 (0, 0)) := by rw [hw5, hg5]; exact heap_alloc_new _ _
      have OW := Lib.hid (kcs_one x.1)
      have SX := Lib.hid (show (Try.prog.info? 32).map (·.size) = some (kcs x.1).toArray.size by kernel_rfl)
      have hb5 := hb.trans (b5.mono hb.size)
      have HS := Lib.hid (fun (W' : World) (hW : Below w5.heap.size w5 W') => SI.out W' ((HB1.out.trans (hb5.mono HB1.out.size)).trans (hW.mono (HB1.out.trans (hb5.mono HB1.out.size)).size)) x hxm)
      obtain ⟨s, hs⟩ : ∃ s, s = x.2 := ⟨_, rfl⟩
      obtain ⟨k, hkk⟩ : ∃ k, k = x.1 := ⟨_, rfl⟩
      have hsw : i64wf s := by rw [hs]; exact WF.out x hxm
      have WT := Lib.hid (fun W' => waited_any s now hsw hnow W')
      rw [← hs, ← hkk] at HS
      rw [← hkk] at KX hw5 n5 OW SX
      have HX := Lib.hid hx
      have HXS := Lib.hid hs
      have HXK := Lib.hid hkk
      have HB5 := Lib.hid hb5
      have HO5 := Lib.hid (own_belowK hown b5)
      have N5 := Lib.hid n5
      have KT : ∀ W', Below w5.heap.size w5 W' → ∀ j v, (kcs k)[j]? = some v → W'.cell? ((⟨g5, 0, none⟩ : Addr).add j) = some v := fun W' hW => box_at ((hW.block g5 (lt_of_rowW n5)).trans n5)
      have HKT := Lib.hid KT
      have HW5 := Lib.hid hw5
      have HG5 := Lib.hid hg5
      have hin2 : (i : Int) < (n : Int) := by omega
      have h0 : (0 : Int) ≤ (i : Int) := by omega
      have hll : (lateW now (W.take i)).length ≤ i := Nat.le_trans (List.length_filter_le _ _) (by rw [List.length_take]; omega)
      obtain ⟨E, hE⟩ : ∃ E, E = lateW now (W.take i) := ⟨_, rfl⟩
      rw [← hE] at HO5 hll ⊢
      have SM := Lib.hid (show E.length + 1 ≤ 1000000 by omega)
      have HE := Lib.hid hE
      clear hown hb hx hk hw5 hg5 b5 n5 hb5 hglt KT hs hkk hsw hxm hE hll
      go_upto_region 5 with (first
        | (with_reducible show wpList _ _ _ _ _ _; refine wpList_load_allW rfl 32 (.tmp 21) rfl ⟨gp, i * 3, none⟩ rfl (kcs k) _ KX Try.underlying32 rfl (tkSize _) ?_)
        | (with_reducible show wpList _ _ _ _ _ _; refine wpList_store_newW rfl 32 (.tmp 9) (.tmp 22) rfl 32 _ (kcs k).toArray (by with_unfolding_all rfl) (by with_unfolding_all rfl) SX.out rfl OW.out ?_))
      rw [← HW5.out, ← HG5.out]
      simp only [Act.put, List.setIfInBounds_toArray, List.set_cons_zero, List.set_cons_succ, List.getElem_toArray, List.getElem_cons_zero, List.getElem_cons_succ]
      refine wp_region_quiet_in (fun w' => Below w5.heap.size w5 w') (by kernel_rfl) (by kernel_rfl) (below_drewN (Below.refl _ _) 1) ?_
      refine wpQuiet_runG (v := .pointer (some ⟨b, o, none⟩)) (by kernel_rfl) (fun w' hC => by first | rfl | go_simp) ?_
      simp only [Act.put, List.setIfInBounds_toArray, List.set_cons_zero, List.set_cons_succ, List.getElem_toArray, List.getElem_cons_zero, List.getElem_cons_succ]
      refine wpQuiet_runG (v := .int .i64 (j : Int)) (by kernel_rfl) (fun w' hC => by first | rfl | go_simp) ?_
      simp only [Act.put, List.setIfInBounds_toArray, List.set_cons_zero, List.set_cons_succ, List.getElem_toArray, List.getElem_cons_zero, List.getElem_cons_succ]
      refine wpQuiet_runG (v := .pointer (some ⟨b, o, none⟩)) (by kernel_rfl) (fun w' hC => by first | rfl | go_simp) ?_
      simp only [Act.put, List.setIfInBounds_toArray, List.set_cons_zero, List.set_cons_succ, List.getElem_toArray, List.getElem_cons_zero, List.getElem_cons_succ]
      refine wpQuiet_runG (v := .pointer (some ⟨b, o + 1, none⟩)) (by kernel_rfl) (fun w' hC => by first | rfl | go_simp) ?_
      simp only [Act.put, List.setIfInBounds_toArray, List.set_cons_zero, List.set_cons_succ, List.getElem_toArray, List.getElem_cons_zero, List.getElem_cons_succ]
      refine wpQuiet_runG (v := .pointer (some ⟨b, o + 1 + j * 3, none⟩)) (by kernel_rfl) (fun w' hC => by first | rfl | go_simp) ?_
      simp only [Act.put, List.setIfInBounds_toArray, List.set_cons_zero, List.set_cons_succ, List.getElem_toArray, List.getElem_cons_zero, List.getElem_cons_succ]
      refine wpQuiet_loadG (by kernel_rfl) 32 (.tmp 9) rfl ⟨g5, 0, none⟩ rfl (kcs k) _ (fun w' hC => HKT.out w' hC) Try.underlying32 rfl (tkSize _) ?_
      simp only [Act.put, List.setIfInBounds_toArray, List.set_cons_zero, List.set_cons_succ, List.getElem_toArray, List.getElem_cons_zero, List.getElem_cons_succ]
      refine wpQuiet_callG (f := 21) (xs := #[.tmp 28, .tmp 29]) #[.pointer (some ⟨b, o + 1 + j * 3, none⟩), .agg (kcs k).toArray] (.tuple #[.int .i64 s, .bool true]) (by kernel_rfl) rfl Try.func21 (by kernel_rfl) (by kernel_rfl) (by simp [Act.eval]) (fun W hW => (HS.out W hW).mono fun e w' h => ⟨h.1, Below.trans hW (h.2.mono hW.size)⟩) ?_
      simp only [Act.put, List.setIfInBounds_toArray, List.set_cons_zero, List.set_cons_succ, List.getElem_toArray, List.getElem_cons_zero, List.getElem_cons_succ]
      refine wpQuiet_runG (v := .tuple #[.int .i64 s, .bool true]) (by kernel_rfl) (fun w' hC => by first | rfl | go_simp) ?_
      simp only [Act.put, List.setIfInBounds_toArray, List.set_cons_zero, List.set_cons_succ, List.getElem_toArray, List.getElem_cons_zero, List.getElem_cons_succ]
      refine wpQuiet_runG (v := .int .i64 s) (by kernel_rfl) (fun w' hC => by first | rfl | go_simp) ?_
      simp only [Act.put, List.setIfInBounds_toArray, List.set_cons_zero, List.set_cons_succ, List.getElem_toArray, List.getElem_cons_zero, List.getElem_cons_succ]
      refine wpQuiet_runG (v := .bool true) (by kernel_rfl) (fun w' hC => by first | rfl | go_simp) ?_
      simp only [Act.put, List.setIfInBounds_toArray, List.set_cons_zero, List.set_cons_succ, List.getElem_toArray, List.getElem_cons_zero, List.getElem_cons_succ]
      refine wpQuiet_runG (v := .int .i64 s) (by kernel_rfl) (fun w' hC => by first | rfl | go_simp) ?_
      simp only [Act.put, List.setIfInBounds_toArray, List.set_cons_zero, List.set_cons_succ, List.getElem_toArray, List.getElem_cons_zero, List.getElem_cons_succ]
      refine wpQuiet_runG (v := .bool true) (by kernel_rfl) (fun w' hC => by first | rfl | go_simp) ?_
      simp only [Act.put, List.setIfInBounds_toArray, List.set_cons_zero, List.set_cons_succ, List.getElem_toArray, List.getElem_cons_zero, List.getElem_cons_succ]
      refine wpQuiet_nil ?_
      intro w6 hb6
      have K6 := HKT.out w6 hb6
      have HO6 := Lib.hid (own_belowK HO5.out hb6)
      have HB6 := Lib.hid (HB5.out.trans (hb6.mono HB5.out.size))
      clear hb6 KX
      cases hq : late s now with
      | true =>
        rw [hq] at WT
        have e1 := late_take (now := now) HX.out
        rw [← HXS.out, hq, if_pos rfl, ← HE.out] at e1
        have HE1 := Lib.hid e1
        have hw3 : (kcs k).length = 3 := rfl
        clear hq e1
        go_upto_region 8 with (first
          | (with_reducible refine (WT.out _).mono ?_; rintro e w7 ⟨rfl, rfl⟩)
          | (with_reducible show wpList _ _ _ _ _ _; refine wpList_load_allW rfl 32 (.tmp 9) rfl ⟨g5, 0, none⟩ rfl (kcs k) _ K6 Try.underlying32 rfl (tkSize _) ?_)
          | (at_builtin; refine wpList_apK rfl (.tmp 36) (.tmp 38) 45 32 3 24 _ rfl Try.underlying45 infoTk (by decide) rfl w3.heap.size _ _ _ _ rfl HO6.out HB6.out.size (kcs k) rfl (kcs_mem _) rfl SM.out ?_))
        intro ao' c' w9 hown' hb' hk'
        have RL := Lib.hid (show stRel w3 now W (.slice ao' (E.length + 1) c') (.int .i64 ((i + 1 : Nat) : Int)) w9 from ⟨i + 1, ao', c', by rw [← HN.out]; omega, rfl, by rw [HE1.out]; simp, by
          rw [HE1.out, List.length_append, List.length_singleton]
          have e4 : kss (keysT (E ++ [x])) = kss (keysT E) ++ kcs k := by rw [HXK.out]; simp [kss, keysT]
          rw [e4]
          exact hown', HB6.out.trans hb'⟩)
        have ML := Lib.hid (show n - (i + 1) < n - i by omega)
        clear hown' hb' hk'
        go_wp2_with fail
        exact ⟨RL.out, by simp [intOf]; exact ML.out⟩
      | false =>
        rw [hq] at WT
        have e1 := late_take (now := now) HX.out
        rw [← HXS.out, hq, if_neg (by decide), List.append_nil, ← HE.out] at e1
        have RL := Lib.hid (show stRel w3 now W (.slice ao E.length c) (.int .i64 ((i + 1 : Nat) : Int)) w6 from ⟨i + 1, ao, c, by rw [← HN.out]; omega, rfl, by rw [e1], by rw [e1]; exact HO6.out, HB6.out⟩)
        have ML := Lib.hid (show n - (i + 1) < n - i by omega)
        clear hq e1
        go_wp2_with (first
          | (with_reducible refine (WT.out _).mono ?_; rintro e w7 ⟨rfl, rfl⟩))
        exact ⟨RL.out, by simp [intOf]; exact ML.out⟩
    · have hin2 : ¬ (i : Int) < (n : Int) := by omega
      have hie : i = W.length := by have := HN.out; omega
      have ht : W.take i = W := List.take_of_length_le (by omega)
      rw [ht, ← HEF.out] at hown ⊢
      have R0 := Lib.hid (own_baseQ hown HB1.out.size)
      have HB := Lib.hid (HB1.out.trans (hb.mono HB1.out.size))
      clear hown hb hie ht
      go_wp2_with fail
      go_ret
      exact ⟨ao, c, rfl, R0.out, HB.out⟩
end Go.Proofs.Ytkmhbbcppjckiaa.Ma
/- All the tasks that wait. -/
namespace Go.Proofs.Ytkmhbbcppjckiaa.Ma
open Go Go.RowKit Go.Proofs.Ytkmhbbcppjckiaa
open Go.Proofs.Ytkmhbbcppjckiaa.Hp (i64wf K3 wf3)
open Go.Proofs.Ytkmhbbcppjckiaa.Qu
open Go.Proofs.Ytkmhbbcppjckiaa.Dk (Frm below_drewN)
set_option linter.unusedVariables false
set_option linter.unusedSimpArgs false
set_option maxRecDepth 100000
variable {w w' wx : World} {T : Nat → Prop} {b o : Nat} {R0 : Array Value} {ty : TypeId} {M M' : MM}
/-- An owned row behind an owned row. -/
theorem wpList_apKs {P : Program} {ops : Array Oper} {rest : List Oper} {o : Oper} {a : Act} {Q : Exit → Act → World → Prop} {w : World} (hgd : o.guard = none) (s x : Operand) (tS e : TypeId) (size bytes : Nat) (zv : Value)
    (ho : o.op = .call { callee := .builtin .append, args := #[s, x], argTypes := #[tS, tS] }) (hu : P.underlying tS = some (.slice e)) (hinfo : (P.info? e).map (fun i => (i.zero, i.size, i.bytes)) = some (some zv, size, bytes)) (hb : bytes ≤ 128)
    (hzv : zv.cells.size = size)
    (B : Nat) (ao : Option Addr) (c : Nat) (xs : List Value) (n : Nat) (hsv : a.eval s = .slice ao n c) (own : w.ownsRow B e size (.slice ao n c) n xs) (hB : B ≤ w.heap.size)
    (B2 : Nat) (ao2 : Option Addr) (c2 : Nat) (ys : List Value) (n2 : Nat) (hx : a.eval x = .slice ao2 n2 c2) (own2 : w.ownsRow B2 e size (.slice ao2 n2 c2) n2 ys) (h1 : ∀ u ∈ ys, u.oneCell' = true) (hlim : n + n2 ≤ 1000000)
    (h : ∀ ao' c' w', w'.ownsRow B e size (.slice ao' (n + n2) c') (n + n2) (xs ++ ys) → Below B w w' → (∀ k, k < w.heap.size → some k ≠ (Value.slice ao n c).ownBlock → w'.heap[k]? = w.heap[k]?) → wpList P ops Q rest (a.put o.dst (.slice ao' (n + n2) c')) w') :
    wpList P ops Q (o :: rest) a w := by
  obtain ⟨i, hi, hz0, hz1, hz2⟩ := info_partsK hinfo
  have hno : ao2 = none → n2 = 0 := fun e0 => by
    rcases own2.2 with ⟨_, e2⟩ | ⟨g, cap, cur, e1, _⟩
    · exact e2
    · rw [e0] at e1; cases e1
  refine wpList_append_own_src _ hgd s x tS tS ho B e i zv size bytes hu hi hz0 hz1 hz2 hzv _ n xs hsv own _ n2 ys hx (Src.any _ hu ao2 n2 c2 ys own2.1 hno (fun ad e0 j u hu2 => ?_) h1) (by unfold maxLen; omega) ?_ hB ?_
  · subst e0
    obtain ⟨g2, e2, _, hlt, hc⟩ := own_cellK own2 hu2
    injection e2 with e2
    subst e2
    rw [Addr.add_mid, Nat.zero_add]
    exact hc
  · have : (n + n2) * bytes ≤ 1000000 * 128 := Nat.mul_le_mul hlim hb
    omega
  · intro v' w' g
    obtain ⟨ao', c', rfl, k1, k2, k3⟩ := grew_zeroK own hB (Nat.le_refl _) g
    exact h ao' c' w' k1 k2 k3
theorem kss_one (l : List K3) : ∀ u ∈ kss l, u.oneCell' = true := by
  intro u hu
  simp only [kss, List.mem_flatten, List.mem_map] at hu
  obtain ⟨_, ⟨x, _, rfl⟩, hu⟩ := hu
  exact kcs_mem x u hu
/-- The tasks that wait: for anybody first, then worker by worker. -/
def wtK (W : Nat → List Tk) : Nat → List K3
  | 0 => []
  | n + 1 => wtK W n ++ keysT (W n)
def MM.wt (M : MM) : List K3 := wtK M.W 65
theorem wtK_len {W : Nat → List Tk} (h : ∀ k, k < 65 → (W k).length ≤ 128) : ∀ n, n ≤ 65 → (wtK W n).length ≤ n * 128
  | 0, _ => by simp [wtK]
  | n + 1, hn => by
    have h1 := wtK_len h n (by omega)
    have h2 := h n (by omega)
    rw [wtK, List.length_append]
    simp only [keysT, List.length_map]
    omega
def waRel (w : World) (W : Nat → List Tk) (lv iv : Value) (wr : World) : Prop :=
  ∃ (i : Nat) (ao : Option Addr) (c : Nat), i ≤ 65 ∧ iv = .int .i64 (i : Int) ∧ lv = .slice ao (wtK W i).length c ∧ wr.ownsRow w.heap.size 32 3 (.slice ao (wtK W i).length c) (wtK W i).length (kss (wtK W i)) ∧ Below w.heap.size w wr
set_option maxHeartbeats 1000000 in
theorem mt_waiting (h : MT w T b o R0 ty M) : Calls Try.prog 42 #[.pointer (some ⟨b, o, none⟩)] w fun e w' =>
    ∃ ao c, e = .returned (.slice ao M.wt.length c) ∧ w'.ownsRow w.heap.size 32 3 (.slice ao M.wt.length c) M.wt.length (kss M.wt) ∧ Below w.heap.size w w' := by
  have LI := Lib.hid (fun (W : World) (hW : Below w.heap.size w W) (i : Nat) (hi : i < 65) => show Calls Try.prog 19 #[.pointer (some ⟨b, o + 1 + i * 3, none⟩)] W fun e w' => ∃ ao c, e = .returned (.slice ao (keysT (M.W i)).length c) ∧ w'.ownsRow W.heap.size 32 3 (.slice ao (keysT (M.W i)).length c) (keysT (M.W i)).length (kss (keysT (M.W i))) ∧ Below W.heap.size W w' from by
    have e : o + 1 + i * 3 = qo o i := by unfold qo; omega
    rw [e, show (keysT (M.W i)).length = (M.W i).length by simp [keysT]]
    exact mq_list (h.below hW) hi)
  have LEN := Lib.hid (fun n hn => wtK_len (W := M.W) (fun k hk => h.few hk) n hn)
  obtain ⟨EF, hEF⟩ : ∃ E, E = M.wt := ⟨_, rfl⟩
  rw [← hEF]
  have HEF := Lib.hid hEF
  clear h hEF
  go_enter Try.func42, Try.ntmps42
  go_wp2_with fail
  go_loopw [3, 5] (fun lv iv wr => waRel w M.W lv iv wr) (fun _ iv _ => 65 - (intOf iv).toNat)
  case atStart => exact ⟨0, none, 0, Nat.zero_le _, rfl, rfl, World.ownsRow_nil _ _ _ _, Below.refl _ _⟩
  case round =>
    obtain ⟨wq, rfl⟩ : ∃ wq : World, wq = wr := ⟨_, rfl⟩
    obtain ⟨i, ao, c, hi, rfl, rfl, hown, hb⟩ := hrel
    by_cases hin : i < 65
    · have hin2 : (i : Int) < 65 := by omega
      have h0 : (0 : Int) ≤ (i : Int) := by omega
      have LQ := Lib.hid (LI.out wq hb i hin)
      have l1 := LEN.out (i + 1) (by omega)
      rw [wtK, List.length_append] at l1
      obtain ⟨E, hE⟩ : ∃ E, E = wtK M.W i := ⟨_, rfl⟩
      obtain ⟨K, hK⟩ : ∃ K, K = keysT (M.W i) := ⟨_, rfl⟩
      have hEK := Lib.hid (show wtK M.W (i + 1) = E ++ K by rw [wtK, hE, hK])
      rw [← hE, ← hK] at l1
      rw [← hK] at LQ
      rw [← hE] at hown ⊢
      have SM := Lib.hid (show E.length + K.length ≤ 1000000 by omega)
      have HO := Lib.hid hown
      have HB := Lib.hid hb
      clear hown hb hE hK l1
      go_upto_region 6 with (first
        | (with_reducible refine LQ.out.mono ?_; rintro e w3 ⟨at1, ct, rfl, hown1, hb1⟩; have HO1 := Lib.hid hown1; have HB3 := Lib.hid (HB.out.trans (hb1.mono HB.out.size)); have HO3 := Lib.hid (own_belowK HO.out hb1); clear hown1 hb1)
        | (at_builtin; refine wpList_apKs rfl (.tmp 8) (.tmp 14) 45 32 3 24 _ rfl Try.underlying45 infoTk (by decide) rfl w.heap.size _ _ _ _ rfl HO3.out HB3.out.size _ _ _ _ _ rfl HO1.out (kss_one _) SM.out ?_))
      intro ao' c' w9 hown' hb' hk'
      have RL := Lib.hid (show waRel w M.W (.slice ao' (E.length + K.length) c') (.int .i64 ((i + 1 : Nat) : Int)) w9 from ⟨i + 1, ao', c', by omega, rfl, by rw [hEK.out]; simp, by
        rw [hEK.out, List.length_append, kss_app]
        exact hown', HB3.out.trans hb'⟩)
      clear hown' hb' hk'
      go_wp2_with fail
      exact ⟨RL.out, by simp [intOf]; omega⟩
    · have hie : i = 65 := by omega
      subst hie
      have R0 := Lib.hid (show wq.ownsRow w.heap.size 32 3 (.slice ao EF.length c) EF.length (kss EF) ∧ Below w.heap.size w wq from by rw [HEF.out]; exact ⟨hown, hb⟩)
      have e1 : (wtK M.W 65).length = EF.length := by rw [HEF.out]; rfl
      rw [e1]
      clear hown hb hin hi e1
      go_wp2_with fail
      go_ret
      exact ⟨ao, c, rfl, R0.out⟩
end Go.Proofs.Ytkmhbbcppjckiaa.Ma
/- Does a task wait, or does somebody have it? -/
namespace Go.Proofs.Ytkmhbbcppjckiaa.Ma
open Go Go.RowKit Go.Proofs.Ytkmhbbcppjckiaa
open Go.Proofs.Ytkmhbbcppjckiaa.Hp (i64wf K3 wf3)
open Go.Proofs.Ytkmhbbcppjckiaa.Qu
open Go.Proofs.Ytkmhbbcppjckiaa.Dk (Frm below_drewN)
set_option linter.unusedVariables false
set_option linter.unusedSimpArgs false
set_option maxRecDepth 100000
variable {w w' wx : World} {T : Nat → Prop} {b o : Nat} {R0 : Array Value} {ty : TypeId} {M M' : MM}
/-- What stands while the last region is under way. -/
structure KnI (w : World) (k : K3) (g : Nat) (s7 : Bool) (p : Nat) (wx : World) : Prop where
  box : wx.heap[g]? = some (.cells (kcs k).toArray 32 (0, 0))
  low : Below w.heap.size w wx
  cap : s7 = true → wx.heap[p]? = some (.cells (kcs k).toArray 32 (0, 0))
theorem KnI.below {k : K3} {g p : Nat} {s7 : Bool} (h : KnI w k g s7 p wx) (hb : Below wx.heap.size wx w') : KnI w k g s7 p w' :=
  ⟨(hb.block g (lt_of_rowW h.box)).trans h.box, h.low.trans (hb.mono h.low.size), fun e => (hb.block p (lt_of_rowW (h.cap e))).trans (h.cap e)⟩
theorem KnI.made {k : K3} {g p : Nat} (h : KnI w k g false p wx) : KnI w k g true wx.heap.size (wx.alloc (.cells (kcs k).toArray 32)) := by
  have b1 : Below wx.heap.size wx (wx.alloc (.cells (kcs k).toArray 32)) := (Below.refl _ _).alloc (Nat.le_refl _) _
  exact ⟨(b1.block g (lt_of_rowW h.box)).trans h.box, h.low.trans (b1.mono h.low.size), fun _ => heap_alloc_new _ _⟩
def MM.kn (M : MM) (k : K3) : Bool := (M.wh k).2 || M.E.any fun l => decide (l.key = k)
theorem mt_known (h : MT w T b o R0 ty M) (k : K3) (hk : wf3 k) (hE : M.E.length ≤ 1000) : Calls Try.prog 40 #[.pointer (some ⟨b, o, none⟩), .agg (kcs k).toArray] w fun e w' => e = .returned (.bool (M.kn k)) ∧ Below w.heap.size w w' := by
  obtain ⟨w1, hw1⟩ : ∃ x, x = w.alloc (.cells (kcs k).toArray 32) := ⟨_, rfl⟩
  obtain ⟨g, hg⟩ : ∃ g, g = w.heap.size := ⟨_, rfl⟩
  have b1 : Below w.heap.size w w1 := by rw [hw1]; exact (Below.refl _ _).alloc (Nat.le_refl _) _
  have n1 : w1.heap[g]? = some (.cells (kcs k).toArray 32 (0, 0)) := by rw [hw1, hg]; exact heap_alloc_new _ _
  have WH := Lib.hid (mt_where (h.below b1) k hk)
  obtain ⟨R, mq, Q, ao, c, hA, _⟩ := h
  obtain ⟨E, hE'⟩ : ∃ E, E = M.E := ⟨_, rfl⟩
  obtain ⟨n, hn⟩ : ∃ n, n = E.length := ⟨_, rfl⟩
  rw [← hE'] at hA hE
  have CO := Lib.hid (fun (W : World) (hW : Below w.heap.size w W) (p : Nat) (hp : W.heap[p]? = some (.cells (kcs k).toArray 32 (0, 0))) => show Calls Try.prog 65 #[.slice ao n c, .func (.func 72) #[] #[.pointer (some ⟨p, 0, none⟩)]] W fun e w' => e = .returned (.bool (E.any fun l => decide (l.key = k))) ∧ Below W.heap.size W w' from by
    rw [hn]
    exact containsL_any (hA.below hW).lrow hE (asks_task hp) (enters_of Try.func72 (by kernel_rfl) rfl))
  have LC := Lib.hid (fun (W : World) (hW : Below w.heap.size w W) => show W.cell? ⟨b, o + 196, none⟩ = some (.slice ao n c) from by
    rw [cell_of_row W b _ _ _ _ (hA.below hW).row, hn]
    exact hA.ls)
  obtain ⟨B1, hB1⟩ : ∃ B, B = (M.wh k).2 := ⟨_, rfl⟩
  obtain ⟨I1, hI1⟩ : ∃ B, B = (M.wh k).1 := ⟨_, rfl⟩
  obtain ⟨B2, hB2⟩ : ∃ B, B = E.any fun l => decide (l.key = k) := ⟨_, rfl⟩
  have hkn : M.kn k = (B1 || B2) := by rw [hB1, hB2, hE']; rfl
  rw [← hB1, ← hI1] at WH
  rw [← hB2] at CO
  rw [hkn]
  have HW := Lib.hid hw1
  have HG := Lib.hid hg
  have B1' := Lib.hid b1
  have N1 := Lib.hid n1
  have K1 := Lib.hid (box_at n1)
  clear hw1 hg b1 n1 hA hE' hE hn hB1 hI1 hB2 hkn
  go_enter Try.func40, Try.ntmps40
  go_upto_region 1 with fail
  rw [← HW.out, ← HG.out]
  go_upto_region 2 with (first
    | (with_reducible show wpList _ _ _ _ _ _; refine wpList_load_allW rfl 32 (.tmp 3) rfl ⟨g, 0, none⟩ rfl (kcs k) _ K1.out Try.underlying32 rfl (tkSize _) ?_)
    | (with_reducible refine WH.out.mono ?_; rintro e w3 ⟨rfl, hb3⟩))
  have I0 := Lib.hid (show KnI w k g false 0 w3.drew from ⟨(hb3.block g (lt_of_rowW N1.out)).trans N1.out, below_drewN (B1'.out.trans (hb3.mono B1'.out.size)) 1, (fun e => by cases e)⟩)
  clear hb3
  cases B1 with
  | false =>
    refine wp_region_parG (α := Nat) (by kernel_rfl) (by kernel_rfl) (fun y => ⟨#[.pointer (some ⟨b, o, none⟩), .agg (kcs k).toArray, undef, .pointer (some ⟨g, 0, none⟩), y 10, .int .i64 I1, .bool false, Value.tuple #[.int .i64 I1, .bool false], .pointer (some ⟨b, o, none⟩), .agg (kcs k).toArray, Value.tuple #[.int .i64 I1, .bool false], .int .i64 I1, .bool false, y 0, y 1, y 2, y 3, y 4, y 5, y 6, y 7, y 8, y 9], []⟩) (fun p j q => match j with | 0 => q = .bool false | 1 => q = .bool false | 2 => q = .pointer (some ⟨b, o, none⟩) | 3 => q = .pointer (some ⟨b, o, none⟩) | 4 => q = .pointer (some ⟨b, o + 196, none⟩) | 5 => q = .slice ao n c | 6 => q = .agg (kcs k).toArray | 7 => q = .func (.func 72) #[] #[.pointer (some ⟨p, 0, none⟩)] | 8 => q = .bool B2 | 9 => q = .bool B2 | 10 => q = .bool B2 | _ => True) (fun M p wx => KnI w k g (M 7) p wx) (fun i => [7, 8].contains i) (fun i j => (i == 7 && decide (7 < j)) || (i == 8 && decide (8 < j))) (parOk_spec (by kernel_rfl)) ?_ ?_ ?_ (fun k => match k with | 10 => .bool false | _ => undef) 0 rfl (by exact I0.out)
    · intro i' o hsrc ho M p y wx hd hi' hI
      match i', ho with
      | 0, ho =>
        obtain rfl := Option.some.inj ho
        refine .inl ⟨rfl, ?_⟩
        refine ⟨.bool false, ?_, rfl, rfl, hI⟩
        refine runWithP (fun z => match z with  | .tmp 6 => .bool false | .const c => c | _ => undef) (by kernel_rfl) ?_
        go_simp
      | 1, ho =>
        obtain rfl := Option.some.inj ho
        have y0 : y 0 = .bool false := hd ⟨0, .data⟩ (by simp) rfl
        refine .inl ⟨rfl, ?_⟩
        refine ⟨.bool false, ?_, rfl, rfl, hI⟩
        refine runWithP (fun z => match z with | .tmp 13 => y 0 | .const c => c | _ => undef) (by kernel_rfl) ?_
        rw [y0]
        go_simp
      | 2, ho =>
        obtain rfl := Option.some.inj ho
        have yg : y 1 = .bool false := hd ⟨1, .guard⟩ (by simp) rfl
        refine .inl ⟨Eq.trans (b := gdP (y 1) false) (by kernel_rfl) (by rw [yg]; rfl), ?_⟩
        refine ⟨.pointer (some ⟨b, o, none⟩), ?_, rfl, rfl, hI⟩
        refine runWithP (fun z => match z with  | .tmp 0 => .pointer (some ⟨b, o, none⟩) | .const c => c | _ => undef) (by kernel_rfl) ?_
        go_simp
      | 3, ho =>
        obtain rfl := Option.some.inj ho
        have yg : y 1 = .bool false := hd ⟨1, .guard⟩ (by simp) rfl
        have y0 : y 2 = .pointer (some ⟨b, o, none⟩) := hd ⟨2, .data⟩ (by simp) rfl
        refine .inl ⟨Eq.trans (b := gdP (y 1) false) (by kernel_rfl) (by rw [yg]; rfl), ?_⟩
        refine ⟨.pointer (some ⟨b, o, none⟩), ?_, rfl, rfl, hI⟩
        refine runWithP (fun z => match z with | .tmp 15 => y 2 | .const c => c | _ => undef) (by kernel_rfl) ?_
        rw [y0]
        go_simp
      | 4, ho =>
        obtain rfl := Option.some.inj ho
        have yg : y 1 = .bool false := hd ⟨1, .guard⟩ (by simp) rfl
        have y0 : y 3 = .pointer (some ⟨b, o, none⟩) := hd ⟨3, .data⟩ (by simp) rfl
        refine .inl ⟨Eq.trans (b := gdP (y 1) false) (by kernel_rfl) (by rw [yg]; rfl), ?_⟩
        refine ⟨.pointer (some ⟨b, o + 196, none⟩), ?_, rfl, rfl, hI⟩
        refine runWithP (fun z => match z with | .tmp 16 => y 3 | .const c => c | _ => undef) (by kernel_rfl) ?_
        rw [y0]
        go_simp
      | 5, ho =>
        obtain rfl := Option.some.inj ho
        have yg : y 1 = .bool false := hd ⟨1, .guard⟩ (by simp) rfl
        have y0 : y 4 = .pointer (some ⟨b, o + 196, none⟩) := hd ⟨4, .data⟩ (by simp) rfl
        have cx := LC.out wx hI.low
        refine .inl ⟨Eq.trans (b := gdP (y 1) false) (by kernel_rfl) (by rw [yg]; rfl), ?_⟩
        refine ⟨.slice ao n c, ?_, rfl, rfl, hI⟩
        refine runWithP (fun z => match z with | .tmp 17 => y 4 | .const c => c | _ => undef) (by kernel_rfl) ?_
        rw [y0]
        go_simp
      | 6, ho =>
        obtain rfl := Option.some.inj ho
        have yg : y 1 = .bool false := hd ⟨1, .guard⟩ (by simp) rfl
        refine .inl ⟨Eq.trans (b := gdP (y 1) false) (by kernel_rfl) (by rw [yg]; rfl), ?_⟩
        exact ⟨.agg (kcs k).toArray, run_loadP 32 (.tmp 3) rfl ⟨g, 0, none⟩ (by rfl) (kcs k) _ (box_at hI.box) Try.underlying32 rfl (tkSize _), rfl, rfl, hI⟩
      | 7, ho =>
        obtain rfl := Option.some.inj ho
        cases hsrc
      | 8, ho =>
        obtain rfl := Option.some.inj ho
        cases hsrc
      | 9, ho =>
        obtain rfl := Option.some.inj ho
        have y0 : y 1 = .bool false := hd ⟨1, .data⟩ (by simp) rfl
        have y1 : y 8 = .bool B2 := hd ⟨8, .data⟩ (by simp) rfl
        refine .inl ⟨rfl, ?_⟩
        refine ⟨.bool B2, ?_, rfl, rfl, hI⟩
        refine runWithP (fun z => match z with | .tmp 14 => y 1 | .tmp 21 => y 8 | .const c => c | _ => undef) (by kernel_rfl) ?_
        rw [y0, y1]
        kernel_rfl
      | 10, ho =>
        obtain rfl := Option.some.inj ho
        have y0 : y 9 = .bool B2 := hd ⟨9, .data⟩ (by simp) rfl
        refine .inl ⟨rfl, ?_⟩
        refine ⟨.bool B2, ?_, rfl, rfl, hI⟩
        refine runWithP (fun z => match z with | .tmp 22 => y 9 | .const c => c | _ => undef) (by kernel_rfl) ?_
        rw [y0]
        go_simp
      | j + 11, ho => cases ho
    · intro i' o hsrc ho M p y wx hd hi' hlat hI
      match i', hsrc, ho with
      | 0, hsrc, ho =>
        cases hsrc
      | 1, hsrc, ho =>
        cases hsrc
      | 2, hsrc, ho =>
        cases hsrc
      | 3, hsrc, ho =>
        cases hsrc
      | 4, hsrc, ho =>
        cases hsrc
      | 5, hsrc, ho =>
        cases hsrc
      | 6, hsrc, ho =>
        cases hsrc
      | 7, hsrc, ho =>
        obtain rfl := Option.some.inj ho
        have yg : y 1 = .bool false := (hd ⟨1, .guard⟩ (by simp) rfl).2
        refine ⟨Eq.trans (b := gdP (y 1) false) (by kernel_rfl) (by rw [yg]; rfl), ?_⟩
        have y6 : y 6 = .agg (kcs k).toArray := (hd ⟨6, .data⟩ (by simp) rfl).2
        rw [hi'] at hI
        refine slot_call #[.agg (kcs k).toArray] rfl Try.func64 (by kernel_rfl) (by kernel_rfl) (by simp [Act.eval, y6]) ?_
        refine (ofTask_any k wx).mono ?_
        rintro e w' ⟨rfl, rfl⟩
        refine ⟨_, rfl, _, wx.heap.size, rfl, rfl, ?_, ?_⟩
        · intro j q hne hl hF
          match j, hne, hF with
          | 0, _, hF => exact hF
          | 1, _, hF => exact hF
          | 2, _, hF => exact hF
          | 3, _, hF => exact hF
          | 4, _, hF => exact hF
          | 5, _, hF => exact hF
          | 6, _, hF => exact hF
          | 7, hne, _ => exact absurd rfl hne
          | 8, _, _ => exact absurd hl (by decide)
          | 9, _, _ => exact absurd hl (by decide)
          | 10, _, _ => exact absurd hl (by decide)
          | j + 11, _, _ => trivial
        · exact hI.made
      | 8, hsrc, ho =>
        obtain rfl := Option.some.inj ho
        have yg : y 1 = .bool false := (hd ⟨1, .guard⟩ (by simp) rfl).2
        refine ⟨Eq.trans (b := gdP (y 1) false) (by kernel_rfl) (by rw [yg]; rfl), ?_⟩
        have y5 : y 5 = .slice ao n c := (hd ⟨5, .data⟩ (by simp) rfl).2
        have h7 := hd ⟨7, .data⟩ (by simp) rfl
        have y7 : y 7 = .func (.func 72) #[] #[.pointer (some ⟨p, 0, none⟩)] := h7.2
        rw [h7.1] at hI
        refine slot_call #[.slice ao n c, .func (.func 72) #[] #[.pointer (some ⟨p, 0, none⟩)]] rfl Try.func65 (by kernel_rfl) (by kernel_rfl) (by simp [Act.eval, y5, y7]) ?_
        refine (CO.out wx hI.low p (hI.cap rfl)).mono ?_
        rintro e w' ⟨rfl, hb⟩
        refine ⟨_, rfl, _, p, rfl, rfl, fun j q _ _ h => h, ?_⟩
        show KnI w k g (M 7) p w'
        rw [h7.1]
        exact hI.below hb
      | 9, hsrc, ho =>
        cases hsrc
      | 10, hsrc, ho =>
        cases hsrc
      | j + 11, hsrc, ho => cases ho
    · rintro M p y wx hall hI
      have y10 : y 10 = .bool B2 := (hall 10 (by decide)).2
      try dsimp only
      rw [y10]
      have HB := Lib.hid hI.low
      clear hI hall y10
      go_wp2_with fail
      go_ret
      exact ⟨rfl, HB.out⟩
  | true =>
    refine wp_region_parG (α := Nat) (by kernel_rfl) (by kernel_rfl) (fun y => ⟨#[.pointer (some ⟨b, o, none⟩), .agg (kcs k).toArray, undef, .pointer (some ⟨g, 0, none⟩), y 10, .int .i64 I1, .bool true, Value.tuple #[.int .i64 I1, .bool true], .pointer (some ⟨b, o, none⟩), .agg (kcs k).toArray, Value.tuple #[.int .i64 I1, .bool true], .int .i64 I1, .bool true, y 0, y 1, y 2, y 3, y 4, y 5, y 6, y 7, y 8, y 9], []⟩) (fun p j q => match j with | 0 => q = .bool true | 1 => q = .bool true | 9 => q = .bool true | 10 => q = .bool true | _ => True) (fun M p wx => KnI w k g (false) p wx) (fun i => [].contains i) (fun i j => (i == 7 && decide (7 < j)) || (i == 8 && decide (8 < j))) (parOk_spec (by kernel_rfl)) ?_ ?_ ?_ (fun k => match k with | 10 => .bool false | _ => undef) 0 rfl (by exact I0.out)
    · intro i' o hsrc ho M p y wx hd hi' hI
      match i', ho with
      | 0, ho =>
        obtain rfl := Option.some.inj ho
        refine .inl ⟨rfl, ?_⟩
        refine ⟨.bool true, ?_, rfl, rfl, hI⟩
        refine runWithP (fun z => match z with  | .tmp 6 => .bool true | .const c => c | _ => undef) (by kernel_rfl) ?_
        go_simp
      | 1, ho =>
        obtain rfl := Option.some.inj ho
        have y0 : y 0 = .bool true := hd ⟨0, .data⟩ (by simp) rfl
        refine .inl ⟨rfl, ?_⟩
        refine ⟨.bool true, ?_, rfl, rfl, hI⟩
        refine runWithP (fun z => match z with | .tmp 13 => y 0 | .const c => c | _ => undef) (by kernel_rfl) ?_
        rw [y0]
        go_simp
      | 2, ho =>
        obtain rfl := Option.some.inj ho
        have yg : y 1 = .bool true := hd ⟨1, .guard⟩ (by simp) rfl
        exact .inr ⟨Eq.trans (b := gdP (y 1) false) (by kernel_rfl) (by rw [yg]; rfl), undef, rfl, trivial, hI⟩
      | 3, ho =>
        obtain rfl := Option.some.inj ho
        have yg : y 1 = .bool true := hd ⟨1, .guard⟩ (by simp) rfl
        exact .inr ⟨Eq.trans (b := gdP (y 1) false) (by kernel_rfl) (by rw [yg]; rfl), undef, rfl, trivial, hI⟩
      | 4, ho =>
        obtain rfl := Option.some.inj ho
        have yg : y 1 = .bool true := hd ⟨1, .guard⟩ (by simp) rfl
        exact .inr ⟨Eq.trans (b := gdP (y 1) false) (by kernel_rfl) (by rw [yg]; rfl), undef, rfl, trivial, hI⟩
      | 5, ho =>
        obtain rfl := Option.some.inj ho
        have yg : y 1 = .bool true := hd ⟨1, .guard⟩ (by simp) rfl
        exact .inr ⟨Eq.trans (b := gdP (y 1) false) (by kernel_rfl) (by rw [yg]; rfl), undef, rfl, trivial, hI⟩
      | 6, ho =>
        obtain rfl := Option.some.inj ho
        have yg : y 1 = .bool true := hd ⟨1, .guard⟩ (by simp) rfl
        exact .inr ⟨Eq.trans (b := gdP (y 1) false) (by kernel_rfl) (by rw [yg]; rfl), undef, rfl, trivial, hI⟩
      | 7, ho =>
        obtain rfl := Option.some.inj ho
        have yg : y 1 = .bool true := hd ⟨1, .guard⟩ (by simp) rfl
        exact .inr ⟨Eq.trans (b := gdP (y 1) false) (by kernel_rfl) (by rw [yg]; rfl), undef, rfl, trivial, hI⟩
      | 8, ho =>
        obtain rfl := Option.some.inj ho
        have yg : y 1 = .bool true := hd ⟨1, .guard⟩ (by simp) rfl
        exact .inr ⟨Eq.trans (b := gdP (y 1) false) (by kernel_rfl) (by rw [yg]; rfl), undef, rfl, trivial, hI⟩
      | 9, ho =>
        obtain rfl := Option.some.inj ho
        have y0 : y 1 = .bool true := hd ⟨1, .data⟩ (by simp) rfl
        refine .inl ⟨rfl, ?_⟩
        refine ⟨.bool true, ?_, rfl, rfl, hI⟩
        refine runWithP (fun z => match z with | .tmp 14 => y 1 | .tmp 21 => y 8 | .const c => c | _ => undef) (by kernel_rfl) ?_
        rw [y0]
        kernel_rfl
      | 10, ho =>
        obtain rfl := Option.some.inj ho
        have y0 : y 9 = .bool true := hd ⟨9, .data⟩ (by simp) rfl
        refine .inl ⟨rfl, ?_⟩
        refine ⟨.bool true, ?_, rfl, rfl, hI⟩
        refine runWithP (fun z => match z with | .tmp 22 => y 9 | .const c => c | _ => undef) (by kernel_rfl) ?_
        rw [y0]
        go_simp
      | j + 11, ho => cases ho
    · intro i' o hsrc ho M p y wx hd hi' hlat hI
      match i', hsrc, ho with
      | 0, hsrc, ho =>
        cases hsrc
      | 1, hsrc, ho =>
        cases hsrc
      | 2, hsrc, ho =>
        cases hsrc
      | 3, hsrc, ho =>
        cases hsrc
      | 4, hsrc, ho =>
        cases hsrc
      | 5, hsrc, ho =>
        cases hsrc
      | 6, hsrc, ho =>
        cases hsrc
      | 7, hsrc, ho =>
        cases hsrc
      | 8, hsrc, ho =>
        cases hsrc
      | 9, hsrc, ho =>
        cases hsrc
      | 10, hsrc, ho =>
        cases hsrc
      | j + 11, hsrc, ho => cases ho
    · rintro M p y wx hall hI
      have y10 : y 10 = .bool true := (hall 10 (by decide)).2
      try dsimp only
      rw [y10]
      have HB := Lib.hid hI.low
      clear hI hall y10
      go_wp2_with fail
      go_ret
      exact ⟨rfl, HB.out⟩
end Go.Proofs.Ytkmhbbcppjckiaa.Ma
