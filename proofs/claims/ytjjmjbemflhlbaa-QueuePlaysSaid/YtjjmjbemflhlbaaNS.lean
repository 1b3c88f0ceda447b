/- The document's tasks, in a law's own row: find. -/
import Derived.Test.YtjjmjbemflhlbaaNK
import Derived.Test.YtjjmjbemflhlbaaNQ
namespace Go.Proofs.Ytjjmjbemflhlbaa.Qu
open Go Go.RowKit Go.Proofs.Ytjjmjbemflhlbaa
open Go.Proofs.Ytjjmjbemflhlbaa.Hp (K3 kv KLit wf3 i64wf kv_inj)
open Go.Proofs.Ytjjmjbemflhlbaa.Dk (Frm below_drewN Frm.of_below Frm.setCell Frm.refl Frm.drewN Frm.drew Frm.transT Frm.turned Frm.trans Frm.mono Frm.setRow Frm.thenBelow Frm.below)
set_option linter.unusedVariables false
set_option linter.unusedSimpArgs false
set_option maxRecDepth 100000
set_option maxHeartbeats 4000000
/-- Tasks with their ticks, one behind the other. -/
def tcs (W : List Tk) : List Value := (W.map fun x => wcs x.1 x.2).flatten
theorem tcs_app (A B : List Tk) : tcs (A ++ B) = tcs A ++ tcs B := by simp [tcs]
theorem tcs_len : ∀ l : List Tk, (tcs l).length = l.length * 4
  | [] => rfl
  | k :: l => by
    have h := tcs_len l
    simp only [tcs, List.map_cons, List.flatten_cons, List.length_append, List.length_cons] at h ⊢
    have : (wcs k.1 k.2).length = 4 := rfl
    omega
theorem tcs_at : ∀ (l : List Tk) (i : Nat) (x : Tk), l[i]? = some x → ∀ (j : Nat) v, (wcs x.1 x.2)[j]? = some v → (tcs l)[i * 4 + j]? = some v
  | [], i, k, h => by simp at h
  | y :: l, 0, k, h => fun j v hj => by
    cases h
    have := (List.getElem?_eq_some_iff.1 hj).1
    simp only [tcs, List.map_cons, List.flatten_cons, Nat.zero_mul, Nat.zero_add]
    rw [List.getElem?_append_left this]
    exact hj
  | y :: l, i + 1, k, h => fun j v hj => by
    have ih := tcs_at l i k (by simpa using h) j v hj
    simp only [tcs, List.map_cons, List.flatten_cons] at ih ⊢
    have e : (wcs y.1 y.2).length = 4 := rfl
    rw [List.getElem?_append_right (by omega), e, show (i + 1) * 4 + j - 4 = i * 4 + j by omega]
    exact ih
theorem tcs_one (l : List Tk) : ∀ u ∈ tcs l, u.oneCell' = true := by
  intro u hu
  simp only [tcs, List.mem_flatten, List.mem_map] at hu
  obtain ⟨q, ⟨x, _, rfl⟩, hu⟩ := hu
  exact wcs_mem _ _ u hu
theorem hdSize (k : K3) (s : Int) : (Try.prog.info? 39).map (·.size) = some (wcs k s).length := by kernel_rfl
theorem infoHd : (Try.prog.info? 39).map (fun i => (i.zero, i.size, i.bytes)) = some (some (.agg (wcs k0 0).toArray), 4, 32) := by kernel_rfl
/-- The document's tasks in a row. -/
def HRow (w : World) (B : Nat) (v : Value) (W : List Tk) : Prop := w.ownsRow B 39 4 v W.length (tcs W)
/-- Where a task stands, or -1. -/
def fdG : List Tk → K3 → Nat → Int
  | [], _, _ => -1
  | x :: W, k, i => if x.1 = k then (i : Int) else fdG W k (i + 1)
def fd (W : List Tk) (k : K3) : Int := fdG W k 0
theorem fdG_no : ∀ {W : List Tk} {k : K3} (i : Nat), k ∉ keysT W → fdG W k i = -1
  | [], _, _, _ => rfl
  | x :: W, k, i, h => by
    have h1 : x.1 ≠ k := fun e => h (by rw [← e]; simp [keysT])
    rw [fdG, if_neg h1]
    exact fdG_no (i + 1) fun hm => h (by unfold keysT at hm ⊢; simp only [List.map_cons, List.mem_cons]; exact .inr hm)
theorem fdG_at : ∀ {A B : List Tk} {x : Tk} (i : Nat), x.1 ∉ keysT A → fdG (A ++ x :: B) x.1 i = ((i + A.length : Nat) : Int)
  | [], B, x, i, _ => by simp [fdG]
  | y :: A, B, x, i, h => by
    have h1 : y.1 ≠ x.1 := fun e => h (by rw [← e]; simp [keysT])
    rw [List.cons_append, fdG, if_neg h1, fdG_at (i + 1) fun hm => h (by unfold keysT at hm ⊢; simp only [List.map_cons, List.mem_cons]; exact .inr hm)]
    simp
    omega
def fiRel (w : World) (W : List Tk) (k : K3) (iv : Value) (wr : World) : Prop := ∃ i : Nat, i ≤ W.length ∧ iv = .int .i64 (i : Int) ∧ fdG (W.drop i) k i = fd W k ∧ Below w.heap.size w wr
theorem find_any (w : World) (B : Nat) (ao : Option Addr) (n c : Nat) (W : List Tk) (hn : n = W.length) (hle : n ≤ 1000) (h : HRow w B (.slice ao n c) W) (k : K3) : Calls Try.prog 13 #[.slice ao n c, .agg (kcs k).toArray] w fun e w' => e = .returned (.int .i64 (fd W k)) ∧ Below w.heap.size w w' := by
  obtain ⟨w1, hw1⟩ : ∃ x, x = w.alloc (.cells (kcs k).toArray 32) := ⟨_, rfl⟩
  obtain ⟨g, hg⟩ : ∃ g, g = w.heap.size := ⟨_, rfl⟩
  have b1 : Below w.heap.size w w1 := by rw [hw1]; exact (Below.refl _ _).alloc (Nat.le_refl _) _
  have n1 : w1.heap[g]? = some (.cells (kcs k).toArray 32 (0, 0)) := by rw [hw1, hg]; exact heap_alloc_new _ _
  obtain ⟨F, hF⟩ : ∃ F, F = fd W k := ⟨_, rfl⟩
  rw [← hF]
  have HF := Lib.hid hF
  have H := Lib.hid h
  have HN := Lib.hid hn
  have HW := Lib.hid hw1
  have HG := Lib.hid hg
  have B1 := Lib.hid b1
  have N1 := Lib.hid n1
  clear h hw1 hg b1 n1 hn hF
  go_enter Try.func13, Try.ntmps13
  go_upto_region 1 with fail
  rw [← HW.out, ← HG.out]
  go_wp2_with fail
  go_loopw [9] (fun iv wr => fiRel w1 W k iv wr) (fun iv _ => n - (intOf iv).toNat)
  case atStart => exact ⟨0, by omega, rfl, rfl, Below.refl _ _⟩
  case round =>
    obtain ⟨wq, rfl⟩ : ∃ wq : World, wq = wr := ⟨_, rfl⟩
    obtain ⟨i, hi, rfl, hfd, hb⟩ := hrel
    by_cases hin : i < n
    · have hin2 : (i : Int) < (n : Int) := by omega
      have h0 : (0 : Int) ≤ (i : Int) := by omega
      obtain ⟨x, hx⟩ : ∃ x, W[i]? = some x := ⟨_, List.getElem?_eq_getElem (by rw [← HN.out]; exact hin)⟩
      have HO := H.out
      unfold HRow at HO
      rw [← HN.out] at HO
      obtain ⟨gp, hgp, _, _, _⟩ := own_cellK HO (tcs_at _ i x hx 0 _ rfl)
      subst hgp
      have KX : ∀ j v, (wcs x.1 x.2)[j]? = some v → wq.cell? ((⟨gp, i * 4, none⟩ : Addr).add j) = some v := by
        intro j v hv
        obtain ⟨g2, e2, _, hlt, hc⟩ := own_cellK HO (tcs_at _ i x hx j v hv)
        injection e2 with e2
        injection e2 with e2
        subst e2
        rw [Addr.add_mid, hb.cell (Nat.lt_of_lt_of_le hlt B1.out.size), B1.out.cell hlt]
        exact hc
      obtain ⟨w5, hw5⟩ : ∃ u, u = wq.alloc (.cells (wcs x.1 x.2).toArray 39) := ⟨_, rfl⟩
      obtain ⟨g5, hg5⟩ : ∃ u, u = wq.heap.size := ⟨_, rfl⟩
      have b5 : Below wq.heap.size wq w5 := by rw [hw5]; exact (Below.refl _ _).alloc (Nat.le_refl _) _
      have n5 : w5.heap[g5]? = some (.cells (wcs x.1 x.2).toArray 39 (0, 0)) := by rw [hw5, hg5]; exact heap_alloc_new _ _
      have KT : ∀ j v, (kcs x.1)[j]? = some v → w5.cell? ((⟨g5, 0, none⟩ : Addr).add j) = some v := by
        intro j v hj
        rw [Addr.add_mid, Nat.zero_add, cell_of_row w5 g5 j _ _ _ n5]
        match j, hj with
        | 0, hj => exact hj
        | 1, hj => exact hj
        | 2, hj => exact hj
        | k + 3, hj => simp [kcs] at hj
      have KG := box_at ((b5.block g (Nat.lt_of_lt_of_le (lt_of_rowW N1.out) hb.size)).trans ((hb.block g (lt_of_rowW N1.out)).trans N1.out))
      have SW := Lib.hid (show (Try.prog.info? 39).map (·.size) = some (wcs x.1 x.2).toArray.size by kernel_rfl)
      have OW := Lib.hid (wcs_one x.1 x.2)
      have HB5 := Lib.hid (hb.trans (b5.mono hb.size))
      have HW5 := Lib.hid hw5
      have HG5 := Lib.hid hg5
      have hd := List.drop_eq_getElem_cons (List.getElem?_eq_some_iff.1 hx).1
      rw [(List.getElem?_eq_some_iff.1 hx).2] at hd
      rw [hd, fdG] at hfd
      have HFD := Lib.hid hfd
      clear hb hx hw5 hg5 b5 n5 HO hd hfd
      go_upto_region 4 with (first
        | (with_reducible show wpList _ _ _ _ _ _; refine wpList_load_allW rfl 39 (.tmp 12) rfl ⟨gp, i * 4, none⟩ rfl (wcs x.1 x.2) _ KX Try.underlying39 rfl (hdSize _ _) ?_)
        | (with_reducible show wpList _ _ _ _ _ _; refine wpList_store_newW rfl 39 (.tmp 6) (.tmp 13) rfl 39 _ (wcs x.1 x.2).toArray (by with_unfolding_all rfl) (by with_unfolding_all rfl) SW.out rfl OW.out ?_))
      rw [← HW5.out, ← HG5.out]
      simp only [Act.put, List.setIfInBounds_toArray, List.set_cons_zero, List.set_cons_succ, List.getElem_toArray, List.getElem_cons_zero, List.getElem_cons_succ]
      by_cases hk : x.1 = k
      · have hk2 : decide (x.1 = k) = true := by simpa using hk
        have FE := Lib.hid (show Value.int .i64 (i : Int) = .int .i64 F from by
          have h1 := HFD.out
          rw [if_pos hk] at h1
          rw [HF.out, h1])
        go_wp2_with (first
          | (with_reducible show wpList _ _ _ _ _ _; refine wpList_load_allW rfl 32 (.tmp 14) rfl ⟨g5, 0, none⟩ rfl (kcs x.1) _ KT Try.underlying32 rfl (tkSize _) ?_)
          | (with_reducible show wpList _ _ _ _ _ _; refine wpList_load_allW rfl 32 (.tmp 3) rfl ⟨g, 0, none⟩ rfl (kcs k) _ KG Try.underlying32 rfl (tkSize _) ?_)
          | (with_reducible show wpList _ _ _ _ _ _; refine wpList_teql (by kernel_rfl) (.tmp 15) (.tmp 16) _ rfl x.1 k rfl rfl ?_; rw [hk2]))
        go_ret
        exact ⟨congrArg Ending.returned FE.out, B1.out.trans (HB5.out.mono B1.out.size)⟩
      · have hk2 : decide (x.1 = k) = false := by simpa using hk
        have FE := Lib.hid (show fdG (W.drop (i + 1)) k (i + 1) = fd W k from by
          have h1 := HFD.out
          rwa [if_neg hk] at h1)
        go_wp2_with (first
          | (with_reducible show wpList _ _ _ _ _ _; refine wpList_load_allW rfl 32 (.tmp 14) rfl ⟨g5, 0, none⟩ rfl (kcs x.1) _ KT Try.underlying32 rfl (tkSize _) ?_)
          | (with_reducible show wpList _ _ _ _ _ _; refine wpList_load_allW rfl 32 (.tmp 3) rfl ⟨g, 0, none⟩ rfl (kcs k) _ KG Try.underlying32 rfl (tkSize _) ?_)
          | (with_reducible show wpList _ _ _ _ _ _; refine wpList_teql (by kernel_rfl) (.tmp 15) (.tmp 16) _ rfl x.1 k rfl rfl ?_; rw [hk2]))
        exact ⟨⟨i + 1, by rw [← HN.out]; omega, rfl, FE.out, HB5.out⟩, by simp [intOf]; omega⟩
    · have hin2 : ¬ (i : Int) < (n : Int) := by omega
      have hie : i = W.length := by have := HN.out; omega
      have FE := Lib.hid (show (-1 : Int) = F from by
        rw [hie, List.drop_length] at hfd
        rw [HF.out, ← hfd]
        rfl)
      clear hfd hie
      go_wp2_with fail
      go_ret
      exact ⟨congrArg (fun z => Ending.returned (.int .i64 z)) FE.out, B1.out.trans (hb.mono B1.out.size)⟩
end Go.Proofs.Ytjjmjbemflhlbaa.Qu
