/- A run's tasks wait no more. -/
import Derived.Test.YtjjmjbemflhlbaaNF
namespace Go.Proofs.Ytjjmjbemflhlbaa.Qu
open Go Go.RowKit Go.Proofs.Ytjjmjbemflhlbaa
open Go.Proofs.Ytjjmjbemflhlbaa.Hp (K3 kv KLit wf3 i64wf kv_inj)
open Go.Proofs.Ytjjmjbemflhlbaa.Dk (Frm below_drewN Frm.of_below Frm.setCell Frm.refl Frm.drewN Frm.drew Frm.transT Frm.turned Frm.trans Frm.mono Frm.setRow Frm.thenBelow)
set_option linter.unusedVariables false
set_option linter.unusedSimpArgs false
set_option maxRecDepth 100000
variable {w : World} {b o : Nat} {R : Array Value} {ty : TypeId} {mo : Option Nat} {L : List Lk}
/-- Those of other runs. -/
def oth (run : Int) (L : List Lk) : List Lk := L.filter fun x => !(x.key.1 == run)
/-- How many are of a run. -/
def cnt (run : Int) (L : List Lk) : Nat := (L.filter fun x => x.key.1 == run).length
theorem cnt_oth (run : Int) : ∀ L : List Lk, cnt run L + (oth run L).length = L.length
  | [] => rfl
  | x :: L => by
    have h := cnt_oth run L
    unfold cnt oth at h ⊢
    by_cases hx : (x.key.1 == run) = true
    · simp [hx] at h ⊢; omega
    · simp [hx] at h ⊢; omega
theorem take_snoc {L : List Lk} {i : Nat} {x : Lk} (h : L[i]? = some x) : L.take (i + 1) = L.take i ++ [x] := by rw [List.take_add_one, h]; rfl
theorem drop_cons {L : List Lk} {i : Nat} {x : Lk} (h : L[i]? = some x) : L.drop i = x :: L.drop (i + 1) := by
  have hl := (List.getElem?_eq_some_iff.1 h).1
  rw [List.drop_eq_getElem_cons hl]
  have := (List.getElem?_eq_some_iff.1 h).2
  rw [this]
def drRel (w : World) (b o : Nat) (R : Array Value) (ty : TypeId) (mo : Option Nat) (L : List Lk) (T : Nat → Prop) (run : Int) (nv iv : Value) (wr : World) : Prop :=
  ∃ i : Nat, i ≤ L.length ∧ iv = .int .i64 (i : Int) ∧ nv = .int .i64 (cnt run (L.take i) : Int) ∧ QAt wr b o R ty mo (oth run (L.take i) ++ L.drop i) ∧ Frm T w wr
set_option maxHeartbeats 2000000 in
theorem qdrop_any (h : QAt w b o R ty mo L) (run : Int) : Calls Try.prog 18 #[.pointer (some ⟨b, o, none⟩), .int .i64 run] w fun e w' =>
    e = .returned (.int .i64 (cnt run L : Int)) ∧ QAt w' b o R ty mo (oth run L) ∧ Frm (own b mo L) w w' := by
  have TH := Lib.hid (qlist_any h.c (by have := h.few; omega))
  have H := Lib.hid h
  obtain ⟨T, hT⟩ : ∃ T, T = own b mo L := ⟨_, rfl⟩
  have HT := Lib.hid hT
  rw [← hT]
  obtain ⟨n, hn⟩ : ∃ n, n = L.length := ⟨_, rfl⟩
  rw [← hn] at TH
  have HN := Lib.hid hn
  have h128 : n ≤ 128 := by rw [hn]; exact h.few
  obtain ⟨C, hC⟩ : ∃ C : Int, C = (cnt run L : Int) := ⟨_, rfl⟩
  rw [← hC]
  have HC := Lib.hid hC
  clear h hT hn hC
  go_enter Try.func18, Try.ntmps18
  go_wp2_with fail
  refine TH.out.mono ?_
  rintro e w1 ⟨at1, ct, rfl, hown1, hb1⟩
  have HO1 := Lib.hid hown1
  have HB1 := Lib.hid hb1
  clear hown1 hb1 TH
  go_wp2_with fail
  go_loopw [5, 11] (fun nv iv wr => drRel w1 b o R ty mo L T run nv iv wr) (fun _ iv _ => n - (intOf iv).toNat)
  case atStart => exact ⟨0, Nat.zero_le _, rfl, rfl, H.out.below HB1.out, Frm.refl _ _⟩
  case round =>
    obtain ⟨wq, rfl⟩ : ∃ wq : World, wq = wr := ⟨_, rfl⟩
    obtain ⟨i, hi, rfl, rfl, hQ, hF⟩ := hrel
    by_cases hin : i < n
    · have hiL : i < L.length := by rw [← HN.out]; exact hin
      obtain ⟨x, hx⟩ : ∃ x, L[i]? = some x := ⟨_, List.getElem?_eq_getElem hiL⟩
      have hk : (L.map Lk.key)[i]? = some x.key := by rw [List.getElem?_map, hx]; rfl
      obtain ⟨gp, hgp, _, hglt, _⟩ := own_cellK HO1.out (kss_at _ i x.key hk 0 _ rfl)
      subst hgp
      have TL : ∀ q, T q → q < w.heap.size := fun q hq => by rw [HT.out] at hq; exact H.out.lt hq
      have KX : ∀ j v, (kcs x.key)[j]? = some v → wq.cell? ((⟨gp, i * 3, none⟩ : Addr).add j) = some v := by
        intro j v hj
        obtain ⟨g2, e2, hge, hlt, hc⟩ := own_cellK HO1.out (kss_at _ i x.key hk j v hj)
        injection e2 with e2
        injection e2 with e2
        subst e2
        rw [Addr.add_mid, World.cell?_of_block (w := w1) (a := ⟨gp, i * 3 + j, none⟩) (hF.block gp hlt (fun e => by have := TL _ e; omega))]
        exact hc
      obtain ⟨w5, hw5⟩ : ∃ w5, w5 = wq.alloc (.cells (kcs x.key).toArray 32) := ⟨_, rfl⟩
      obtain ⟨g5, hg5⟩ : ∃ g, g = wq.heap.size := ⟨_, rfl⟩
      have b5 : Below wq.heap.size wq w5 := by rw [hw5]; exact (Below.refl _ _).alloc (Nat.le_refl _) _
      have n5 : w5.heap[g5]? = some (.cells (kcs x.key).toArray 32 (0, 0)) := by rw [hw5, hg5]; exact heap_alloc_new _ _
      have KT := box_at n5
      have k0 : w5.cell? ⟨g5, 0, none⟩ = some (.int .i64 x.key.1) := by rw [cell_of_row w5 g5 0 _ _ _ n5]; rfl
      have SW := Lib.hid (show (Try.prog.info? 32).map (·.size) = some (kcs x.key).toArray.size by kernel_rfl)
      have OW := Lib.hid (kcs_one x.key)
      have HX := Lib.hid hx
      rw [drop_cons hx] at hQ
      have HQ := Lib.hid (hQ.below b5)
      have HF5 := Lib.hid (hF.thenBelow b5 (Nat.le_refl _))
      have HW5 := Lib.hid hw5
      have HG5 := Lib.hid hg5
      have hin2 : (i : Int) < (n : Int) := by omega
      have h0 : (0 : Int) ≤ (i : Int) := by omega
      have HCL := Lib.hid (show cnt run (L.take i) ≤ i from by
        have := cnt_oth run (L.take i)
        rw [List.length_take] at this
        omega)
      obtain ⟨ci, hci⟩ : ∃ ci, ci = cnt run (L.take i) := ⟨_, rfl⟩
      rw [← hci] at HCL ⊢
      have HCI := Lib.hid hci
      have hcl : ci ≤ 128 := by have := HCL.out; omega
      clear hQ hF hx hk hw5 hg5 b5 n5 hglt TL hci
      go_upto_region 5 with (first
        | (with_reducible show wpList _ _ _ _ _ _; refine wpList_load_allW rfl 32 (.tmp 13) rfl ⟨gp, i * 3, none⟩ rfl (kcs x.key) _ KX Try.underlying32 rfl (tkSize _) ?_)
        | (with_reducible show wpList _ _ _ _ _ _; refine wpList_store_newW rfl 32 (.tmp 7) (.tmp 14) rfl 32 _ (kcs x.key).toArray (by with_unfolding_all rfl) (by with_unfolding_all rfl) SW.out rfl OW.out ?_))
      rw [← HW5.out, ← HG5.out]
      simp only [Act.put, List.setIfInBounds_toArray, List.set_cons_zero, List.set_cons_succ, List.getElem_toArray, List.getElem_cons_zero, List.getElem_cons_succ]
      by_cases hr : x.key.1 = run
      · have hr2 : (x.key.1 == run) = true := by simpa using hr
        have RM := Lib.hid (qremove_yes (A := oth run (L.take i)) (B := L.drop (i + 1)) HQ.out)
        have hsub : ∀ q, own b mo (oth run (L.take i) ++ x :: L.drop (i + 1)) q → T q := by
          intro q hq
          rw [HT.out]
          rcases hq with e | e | ⟨y, hy, e⟩
          · exact .inl e
          · exact .inr (.inl e)
          · refine .inr (.inr ⟨y, ?_, e⟩)
            rcases List.mem_append.1 hy with hy | hy
            · exact List.mem_of_mem_take ((List.mem_filter.1 hy).1)
            · rw [← drop_cons HX.out] at hy
              exact List.mem_of_mem_drop hy
        have SUB := Lib.hid hsub
        clear hsub
        go_wp2_with (first
          | (with_reducible show wpList _ _ _ _ _ _; refine wpList_load_allW rfl 32 (.tmp 7) rfl ⟨g5, 0, none⟩ rfl (kcs x.key) _ KT Try.underlying32 rfl (tkSize _) ?_)
          | (with_reducible refine RM.out.mono ?_; rintro e w6 ⟨rfl, hQ6, hF6⟩))
        have e1 : oth run (L.take (i + 1)) = oth run (L.take i) := by rw [take_snoc HX.out]; simp [oth, hr2]
        have e2 : cnt run (L.take (i + 1)) = ci + 1 := by rw [take_snoc HX.out, HCI.out]; simp [cnt, hr2]
        refine ⟨⟨i + 1, by rw [← HN.out]; omega, rfl, by rw [e2]; rfl, by rw [e1]; exact hQ6, HF5.out.transT hF6 (fun q _ hq => SUB.out q hq)⟩, by simp [intOf]; omega⟩
      · have hr2 : (x.key.1 == run) = false := by simpa using hr
        go_wp2_with fail
        have e1 : oth run (L.take (i + 1)) = oth run (L.take i) ++ [x] := by rw [take_snoc HX.out]; simp [oth, hr2]
        have e2 : cnt run (L.take (i + 1)) = ci := by rw [take_snoc HX.out, HCI.out]; simp [cnt, hr2]
        refine ⟨⟨i + 1, by rw [← HN.out]; omega, rfl, by rw [e2], by rw [e1, List.append_assoc]; exact HQ.out, HF5.out⟩, by simp [intOf]; omega⟩
    · have hie : i = L.length := by have := HN.out; omega
      have hnl : ¬ (i : Int) < (n : Int) := by omega
      have R0 := Lib.hid (show Value.int .i64 (cnt run (L.take i) : Int) = .int .i64 C ∧ QAt wq b o R ty mo (oth run L) ∧ Frm T w wq from ⟨by rw [HC.out, List.take_of_length_le (by omega)], by
        rw [List.take_of_length_le (by omega), List.drop_eq_nil_of_le (by omega), List.append_nil] at hQ
        exact hQ, (Frm.of_below HB1.out (Nat.le_refl _)).trans hF⟩)
      clear hQ hF hie
      obtain ⟨cv, hcv⟩ : ∃ cv, cv = Value.int .i64 (cnt run (L.take i) : Int) := ⟨_, rfl⟩
      rw [← hcv] at R0 ⊢
      clear hcv
      go_wp2_with fail
      go_ret
      obtain ⟨e1, e2, e3⟩ := R0.out
      exact ⟨by rw [e1]; rfl, e2, e3⟩
end Go.Proofs.Ytjjmjbemflhlbaa.Qu
