/- All that wait, in order. -/
import Derived.Test.YtkmhbbcppjckiaaK0G
namespace Go.Proofs.Ytkmhbbcppjckiaa.Qu
open Go Go.RowKit Go.Proofs.Ytkmhbbcppjckiaa
open Go.Proofs.Ytkmhbbcppjckiaa.Hp (K3 kv KLit wf3 i64wf kv_inj)
open Go.Proofs.Ytkmhbbcppjckiaa.Dk (Frm below_drewN Frm.of_below Frm.setCell Frm.refl Frm.drewN Frm.drew Frm.transT Frm.turned Frm.trans Frm.mono Frm.setRow)
set_option linter.unusedVariables false
set_option linter.unusedSimpArgs false
set_option maxRecDepth 100000
variable {w : World} {b o : Nat} {R : Array Value} {ty : TypeId} {mo : Option Nat} {L : List Lk}
/-- Tasks, one behind the other. -/
def kss (l : List K3) : List Value := (l.map kcs).flatten
theorem kss_app (A B : List K3) : kss (A ++ B) = kss A ++ kss B := by simp [kss]
theorem kss_len : ∀ l : List K3, (kss l).length = l.length * 3
  | [] => rfl
  | k :: l => by
    have h := kss_len l
    simp only [kss, List.map_cons, List.flatten_cons, List.length_append, List.length_cons] at h ⊢
    have : (kcs k).length = 3 := rfl
    omega
theorem kss_at : ∀ (l : List K3) (i : Nat) (k : K3), l[i]? = some k → ∀ (j : Nat) v, (kcs k)[j]? = some v → (kss l)[i * 3 + j]? = some v
  | [], i, k, h => by simp at h
  | y :: l, 0, k, h => fun j v hj => by
    cases h
    have := (List.getElem?_eq_some_iff.1 hj).1
    simp only [kss, List.map_cons, List.flatten_cons, Nat.zero_mul, Nat.zero_add]
    rw [List.getElem?_append_left this]
    exact hj
  | y :: l, i + 1, k, h => fun j v hj => by
    have ih := kss_at l i k (by simpa using h) j v hj
    simp only [kss, List.map_cons, List.flatten_cons] at ih ⊢
    have e : (kcs y).length = 3 := rfl
    rw [List.getElem?_append_right (by omega), e, show (i + 1) * 3 + j - 3 = i * 3 + j by omega]
    exact ih
theorem wss_at : ∀ (L : List Lk) (i : Nat) (x : Lk), L[i]? = some x → ∀ (j : Nat) v, (wcs x.key x.since)[j]? = some v → (wss L)[i * 4 + j]? = some v
  | [], i, k, h => by simp at h
  | y :: l, 0, k, h => fun j v hj => by
    cases h
    have := (List.getElem?_eq_some_iff.1 hj).1
    simp only [wss, List.map_cons, List.flatten_cons, Nat.zero_mul, Nat.zero_add]
    rw [List.getElem?_append_left this]
    exact hj
  | y :: l, i + 1, k, h => fun j v hj => by
    have ih := wss_at l i k (by simpa using h) j v hj
    simp only [wss, List.map_cons, List.flatten_cons] at ih ⊢
    have e : (wcs y.key y.since).length = 4 := rfl
    rw [List.getElem?_append_right (by omega), e, show (i + 1) * 4 + j - 4 = i * 4 + j by omega]
    exact ih
theorem kcs_mem (k : K3) : ∀ u ∈ kcs k, u.oneCell' = true := by
  intro u hu
  simp only [kcs, List.mem_cons, List.not_mem_nil, or_false] at hu
  rcases hu with rfl | rfl | rfl <;> rfl
theorem infoTk : (Try.prog.info? 32).map (fun i => (i.zero, i.size, i.bytes)) = some (some (.agg (kcs k0).toArray), 3, 24) := by kernel_rfl
theorem own_baseQ {w : World} {B C : Nat} {e : TypeId} {size n : Nat} {v : Value} {xs : List Value} (h : w.ownsRow B e size v n xs) (hC : C ≤ B) : w.ownsRow C e size v n xs := by
  refine ⟨h.1, ?_⟩
  rcases h.2 with h0 | ⟨g, cap, cur, e1, hB, r⟩
  · exact .inl h0
  · exact .inr ⟨g, cap, cur, e1, Nat.le_trans hC hB, r⟩
def liRel (w : World) (L : List Lk) (lv iv : Value) (wr : World) : Prop :=
  ∃ (i : Nat) (ao : Option Addr) (c : Nat), i ≤ L.length ∧ iv = .int .i64 (i : Int) ∧ lv = .slice ao i c ∧ wr.ownsRow w.heap.size 32 3 (.slice ao i c) i (kss ((L.take i).map Lk.key)) ∧ Below w.heap.size w wr
theorem qlist_any (h : CAt w b o R ty mo L) (hl : L.length ≤ 100000) : Calls Try.prog 19 #[.pointer (some ⟨b, o, none⟩)] w fun e w' =>
    ∃ ao c, e = .returned (.slice ao L.length c) ∧ w'.ownsRow w.heap.size 32 3 (.slice ao L.length c) L.length (kss (L.map Lk.key)) ∧ Below w.heap.size w w' := by
  have TH := Lib.hid (things_any h hl)
  clear h
  go_enter Try.func19, Try.ntmps19
  go_wp2_with fail
  refine TH.out.mono ?_
  rintro e w1 ⟨at1, ct, rfl, hown1, hb1⟩
  have HO1 := Lib.hid hown1
  have HB1 := Lib.hid hb1
  obtain ⟨n, hn⟩ : ∃ n, n = L.length := ⟨_, rfl⟩
  rw [← hn] at HO1 ⊢
  have HN := Lib.hid hn
  clear hown1 hb1 hn TH
  go_wp2_with fail
  go_loopw [3, 11] (fun lv iv wr => liRel w1 L lv iv wr) (fun _ iv _ => n - (intOf iv).toNat)
  case atStart => exact ⟨0, none, 0, Nat.zero_le _, rfl, rfl, World.ownsRow_nil _ _ _ _, Below.refl _ _⟩
  case round =>
    obtain ⟨wq, rfl⟩ : ∃ wq : World, wq = wr := ⟨_, rfl⟩
    obtain ⟨i, ao, c, hi, rfl, rfl, hown, hb⟩ := hrel
    by_cases hin : i < n
    · have hiL : i < L.length := by rw [← HN.out]; exact hin
      obtain ⟨x, hx⟩ : ∃ x, L[i]? = some x := ⟨_, List.getElem?_eq_getElem hiL⟩
      obtain ⟨gp, hgp, _, hglt, _⟩ := own_cellK HO1.out (wss_at L i x hx 0 _ rfl)
      subst hgp
      have KX : ∀ j v, (wcs x.key x.since)[j]? = some v → wq.cell? ((⟨gp, i * 4, none⟩ : Addr).add j) = some v := by
        intro j v hj
        obtain ⟨g2, e2, _, hlt, hc⟩ := own_cellK HO1.out (wss_at L i x hx j v hj)
        injection e2 with e2
        injection e2 with e2
        subst e2
        rw [Addr.add_mid, hb.cell hlt]
        exact hc
      obtain ⟨w5, hw5⟩ : ∃ w5, w5 = wq.alloc (.cells (wcs x.key x.since).toArray 112) := ⟨_, rfl⟩
      obtain ⟨g5, hg5⟩ : ∃ g, g = wq.heap.size := ⟨_, rfl⟩
      have b5 : Below wq.heap.size wq w5 := by rw [hw5]; exact (Below.refl _ _).alloc (Nat.le_refl _) _
      have n5 : w5.heap[g5]? = some (.cells (wcs x.key x.since).toArray 112 (0, 0)) := by rw [hw5, hg5]; exact heap_alloc_new _ _
      have KT : ∀ j v, (kcs x.key)[j]? = some v → w5.cell? ((⟨g5, 0, none⟩ : Addr).add j) = some v := by
        intro j v hj
        rw [Addr.add_mid, Nat.zero_add, cell_of_row w5 g5 j _ _ _ n5]
        match j, hj with
        | 0, hj => exact hj
        | 1, hj => exact hj
        | 2, hj => exact hj
        | k + 3, hj => simp [kcs] at hj
      have SW := Lib.hid (show (Try.prog.info? 112).map (·.size) = some (wcs x.key x.since).toArray.size by kernel_rfl)
      have OW := Lib.hid (wcs_one x.key x.since)
      have HX := Lib.hid hx
      have HO := Lib.hid (own_belowK hown b5)
      have HB5 := Lib.hid (hb.trans (b5.mono hb.size))
      have HW5 := Lib.hid hw5
      have HG5 := Lib.hid hg5
      have hw3 : (kcs x.key).length = 3 := rfl
      have hin2 : (i : Int) < (n : Int) := by omega
      have h0 : (0 : Int) ≤ (i : Int) := by omega
      have hn2 : i + 1 ≤ 100000 := by omega
      clear hown hb hx hw5 hg5 b5 n5 hglt
      go_upto_region 5 with (first
        | (with_reducible show wpList _ _ _ _ _ _; refine wpList_load_allW rfl 112 (.tmp 13) rfl ⟨gp, i * 4, none⟩ rfl (wcs x.key x.since) _ KX Try.underlying112 rfl (wtSize _ _) ?_)
        | (with_reducible show wpList _ _ _ _ _ _; refine wpList_store_newW rfl 112 (.tmp 5) (.tmp 14) rfl 112 _ (wcs x.key x.since).toArray (by with_unfolding_all rfl) (by with_unfolding_all rfl) SW.out rfl OW.out ?_))
      rw [← HW5.out, ← HG5.out]
      simp only [Act.put, List.setIfInBounds_toArray, List.set_cons_zero, List.set_cons_succ, List.getElem_toArray, List.getElem_cons_zero, List.getElem_cons_succ]
      go_upto_region 6 with (first
        | (with_reducible show wpList _ _ _ _ _ _; refine wpList_load_allW rfl 32 (.tmp 16) rfl ⟨g5, 0, none⟩ rfl (kcs x.key) _ KT Try.underlying32 rfl (tkSize _) ?_)
        | (at_builtin; refine wpList_apK rfl (.tmp 15) (.tmp 18) 45 32 3 24 _ rfl Try.underlying45 infoTk (by decide) rfl w1.heap.size _ _ _ _ rfl HO.out HB5.out.size (kcs x.key) rfl (kcs_mem _) rfl (by omega) ?_))
      intro ao' c' w' hown' hb' hk'
      have RL := Lib.hid (show liRel w1 L (.slice ao' (i + 1) c') (.int .i64 ((i + 1 : Nat) : Int)) w' from ⟨i + 1, ao', c', by rw [← HN.out]; omega, rfl, rfl, by
        have e : (L.take (i + 1)).map Lk.key = (L.take i).map Lk.key ++ [x.key] := by rw [List.take_add_one, HX.out]; simp
        rw [e, kss_app]
        rw [List.map_take]
        simpa [kss] using hown', HB5.out.trans hb'⟩)
      have ML := Lib.hid (show n - (i + 1) < n - i by omega)
      clear hown' hb' hk' KX KT
      go_wp2_with fail
      exact ⟨RL.out, by simp [intOf]; exact ML.out⟩
    · have hie : i = n := by have := HN.out; omega
      have hnl : ¬ (i : Int) < (n : Int) := by omega
      have R0 := Lib.hid (show ∃ ao' c', (Value.slice ao i c) = .slice ao' n c' ∧ wq.ownsRow w.heap.size 32 3 (.slice ao' n c') n (kss (L.map Lk.key)) ∧ Below w.heap.size w wq from ⟨ao, c, by rw [hie], by
        have h1 := own_baseQ hown HB1.out.size
        rw [hie] at h1
        rwa [List.take_of_length_le (by rw [HN.out]; exact Nat.le_refl _)] at h1, HB1.out.trans (hb.mono HB1.out.size)⟩)
      clear hown hb hie
      go_wp2_with fail
      go_ret
      obtain ⟨ao', c', e1, e2, e3⟩ := R0.out
      rw [HN.out] at e1 e2
      exact ⟨ao', c', by rw [e1]; rfl, e2, e3⟩
end Go.Proofs.Ytkmhbbcppjckiaa.Qu
/- A run's tasks wait no more. -/
namespace Go.Proofs.Ytkmhbbcppjckiaa.Qu
open Go Go.RowKit Go.Proofs.Ytkmhbbcppjckiaa
open Go.Proofs.Ytkmhbbcppjckiaa.Hp (K3 kv KLit wf3 i64wf kv_inj)
open Go.Proofs.Ytkmhbbcppjckiaa.Dk (Frm below_drewN Frm.of_below Frm.setCell Frm.refl Frm.drewN Frm.drew Frm.transT Frm.turned Frm.trans Frm.mono Frm.setRow Frm.thenBelow)
set_option linter.unusedVariables false
set_option linter.unusedSimpArgs false
set_option maxRecDepth 100000
variable {w : World} {b o : Nat} {R : Array Value} {ty : TypeId} {mo : Option Nat} {L : List Lk}
/-- Those of other runs. -/
def oth (run : Int) (L : List Lk) : List Lk := L.filter fun x => !(x.key.1 == run)
/-- How many are of a run. -/
def cnt (run : Int) (L : List Lk) : Nat := (L.filter fun x => x.key.1 == run).length
theorem cnt_oth (run : Int) : ∀ L : List Lk, cnt run L + (oth run L).length = L.length
  | [] => rfl
  | x :: L => by
    have h := cnt_oth run L
    unfold cnt oth at h ⊢
    by_cases hx : (x.key.1 == run) = true
    · simp [hx] at h ⊢; omega
    · simp [hx] at h ⊢; omega
theorem take_snoc {L : List Lk} {i : Nat} {x : Lk} (h : L[i]? = some x) : L.take (i + 1) = L.take i ++ [x] := by rw [List.take_add_one, h]; rfl
theorem drop_cons {L : List Lk} {i : Nat} {x : Lk} (h : L[i]? = some x) : L.drop i = x :: L.drop (i + 1) := by
  have hl := (List.getElem?_eq_some_iff.1 h).1
  rw [List.drop_eq_getElem_cons hl]
  have := (List.getElem?_eq_some_iff.1 h).2
  rw [this]
def drRel (w : World) (b o : Nat) (R : Array Value) (ty : TypeId) (mo : Option Nat) (L : List Lk) (T : Nat → Prop) (run : Int) (nv iv : Value) (wr : World) : Prop :=
  ∃ i : Nat, i ≤ L.length ∧ iv = .int .i64 (i : Int) ∧ nv = .int .i64 (cnt run (L.take i) : Int) ∧ QAt wr b o R ty mo (oth run (L.take i) ++ L.drop i) ∧ Frm T w wr
set_option maxHeartbeats 2000000 in
theorem qdrop_any (h : QAt w b o R ty mo L) (run : Int) : Calls Try.prog 18 #[.pointer (some ⟨b, o, none⟩), .int .i64 run] w fun e w' =>
    e = .returned (.int .i64 (cnt run L : Int)) ∧ QAt w' b o R ty mo (oth run L) ∧ Frm (own b mo L) w w' := by
  have TH := Lib.hid (qlist_any h.c (by have := h.few; omega))
  have H := Lib.hid h
  obtain ⟨T, hT⟩ : ∃ T, T = own b mo L := ⟨_, rfl⟩
  have HT := Lib.hid hT
  rw [← hT]
  obtain ⟨n, hn⟩ : ∃ n, n = L.length := ⟨_, rfl⟩
  rw [← hn] at TH
  have HN := Lib.hid hn
  have h128 : n ≤ 128 := by rw [hn]; exact h.few
  obtain ⟨C, hC⟩ : ∃ C : Int, C = (cnt run L : Int) := ⟨_, rfl⟩
  rw [← hC]
  have HC := Lib.hid hC
  clear h hT hn hC
  go_enter Try.func18, Try.ntmps18
  go_wp2_with fail
  refine TH.out.mono ?_
  rintro e w1 ⟨at1, ct, rfl, hown1, hb1⟩
  have HO1 := Lib.hid hown1
  have HB1 := Lib.hid hb1
  clear hown1 hb1 TH
  go_wp2_with fail
  go_loopw [5, 11] (fun nv iv wr => drRel w1 b o R ty mo L T run nv iv wr) (fun _ iv _ => n - (intOf iv).toNat)
  case atStart => exact ⟨0, Nat.zero_le _, rfl, rfl, H.out.below HB1.out, Frm.refl _ _⟩
  case round =>
    obtain ⟨wq, rfl⟩ : ∃ wq : World, wq = wr := ⟨_, rfl⟩
    obtain ⟨i, hi, rfl, rfl, hQ, hF⟩ := hrel
    by_cases hin : i < n
    · have hiL : i < L.length := by rw [← HN.out]; exact hin
      obtain ⟨x, hx⟩ : ∃ x, L[i]? = some x := ⟨_, List.getElem?_eq_getElem hiL⟩
      have hk : (L.map Lk.key)[i]? = some x.key := by rw [List.getElem?_map, hx]; rfl
      obtain ⟨gp, hgp, _, hglt, _⟩ := own_cellK HO1.out (kss_at _ i x.key hk 0 _ rfl)
      subst hgp
      have TL : ∀ q, T q → q < w.heap.size := fun q hq => by rw [HT.out] at hq; exact H.out.lt hq
      have KX : ∀ j v, (kcs x.key)[j]? = some v → wq.cell? ((⟨gp, i * 3, none⟩ : Addr).add j) = some v := by
        intro j v hj
        obtain ⟨g2, e2, hge, hlt, hc⟩ := own_cellK HO1.out (kss_at _ i x.key hk j v hj)
        injection e2 with e2
        injection e2 with e2
        subst e2
        rw [Addr.add_mid, World.cell?_of_block (w := w1) (a := ⟨gp, i * 3 + j, none⟩) (hF.block gp hlt (fun e => by have := TL _ e; omega))]
        exact hc
      obtain ⟨w5, hw5⟩ : ∃ w5, w5 = wq.alloc (.cells (kcs x.key).toArray 32) := ⟨_, rfl⟩
      obtain ⟨g5, hg5⟩ : ∃ g, g = wq.heap.size := ⟨_, rfl⟩
      have b5 : Below wq.heap.size wq w5 := by rw [hw5]; exact (Below.refl _ _).alloc (Nat.le_refl _) _
      have n5 : w5.heap[g5]? = some (.cells (kcs x.key).toArray 32 (0, 0)) := by rw [hw5, hg5]; exact heap_alloc_new _ _
      have KT := box_at n5
      have k0 : w5.cell? ⟨g5, 0, none⟩ = some (.int .i64 x.key.1) := by rw [cell_of_row w5 g5 0 _ _ _ n5]; rfl
      have SW := Lib.hid (show (Try.prog.info? 32).map (·.size) = some (kcs x.key).toArray.size by kernel_rfl)
      have OW := Lib.hid (kcs_one x.key)
      have HX := Lib.hid hx
      rw [drop_cons hx] at hQ
      have HQ := Lib.hid (hQ.below b5)
      have HF5 := Lib.hid (hF.thenBelow b5 (Nat.le_refl _))
      have HW5 := Lib.hid hw5
      have HG5 := Lib.hid hg5
      have hin2 : (i : Int) < (n : Int) := by omega
      have h0 : (0 : Int) ≤ (i : Int) := by omega
      have HCL := Lib.hid (show cnt run (L.take i) ≤ i from by
        have := cnt_oth run (L.take i)
        rw [List.length_take] at this
        omega)
      obtain ⟨ci, hci⟩ : ∃ ci, ci = cnt run (L.take i) := ⟨_, rfl⟩
      rw [← hci] at HCL ⊢
      have HCI := Lib.hid hci
      have hcl : ci ≤ 128 := by have := HCL.out; omega
      clear hQ hF hx hk hw5 hg5 b5 n5 hglt TL hci
      go_upto_region 5 with (first
        | (with_reducible show wpList _ _ _ _ _ _; refine wpList_load_allW rfl 32 (.tmp 13) rfl ⟨gp, i * 3, none⟩ rfl (kcs x.key) _ KX Try.underlying32 rfl (tkSize _) ?_)
        | (with_reducible show wpList _ _ _ _ _ _; refine wpList_store_newW rfl 32 (.tmp 7) (.tmp 14) rfl 32 _ (kcs x.key).toArray (by with_unfolding_all rfl) (by with_unfolding_all rfl) SW.out rfl OW.out ?_))
      rw [← HW5.out, ← HG5.out]
      simp only [Act.put, List.setIfInBounds_toArray, List.set_cons_zero, List.set_cons_succ, List.getElem_toArray, List.getElem_cons_zero, List.getElem_cons_succ]
      by_cases hr : x.key.1 = run
      · have hr2 : (x.key.1 == run) = true := by simpa using hr
        have RM := Lib.hid (qremove_yes (A := oth run (L.take i)) (B := L.drop (i + 1)) HQ.out)
        have hsub : ∀ q, own b mo (oth run (L.take i) ++ x :: L.drop (i + 1)) q → T q := by
          intro q hq
          rw [HT.out]
          rcases hq with e | e | ⟨y, hy, e⟩
          · exact .inl e
          · exact .inr (.inl e)
          · refine .inr (.inr ⟨y, ?_, e⟩)
            rcases List.mem_append.1 hy with hy | hy
            · exact List.mem_of_mem_take ((List.mem_filter.1 hy).1)
            · rw [← drop_cons HX.out] at hy
              exact List.mem_of_mem_drop hy
        have SUB := Lib.hid hsub
        clear hsub
        go_wp2_with (first
          | (with_reducible show wpList _ _ _ _ _ _; refine wpList_load_allW rfl 32 (.tmp 7) rfl ⟨g5, 0, none⟩ rfl (kcs x.key) _ KT Try.underlying32 rfl (tkSize _) ?_)
          | (with_reducible refine RM.out.mono ?_; rintro e w6 ⟨rfl, hQ6, hF6⟩))
        have e1 : oth run (L.take (i + 1)) = oth run (L.take i) := by rw [take_snoc HX.out]; simp [oth, hr2]
        have e2 : cnt run (L.take (i + 1)) = ci + 1 := by rw [take_snoc HX.out, HCI.out]; simp [cnt, hr2]
        refine ⟨⟨i + 1, by rw [← HN.out]; omega, rfl, by rw [e2]; rfl, by rw [e1]; exact hQ6, HF5.out.transT hF6 (fun q _ hq => SUB.out q hq)⟩, by simp [intOf]; omega⟩
      · have hr2 : (x.key.1 == run) = false := by simpa using hr
        go_wp2_with fail
        have e1 : oth run (L.take (i + 1)) = oth run (L.take i) ++ [x] := by rw [take_snoc HX.out]; simp [oth, hr2]
        have e2 : cnt run (L.take (i + 1)) = ci := by rw [take_snoc HX.out, HCI.out]; simp [cnt, hr2]
        refine ⟨⟨i + 1, by rw [← HN.out]; omega, rfl, by rw [e2], by rw [e1, List.append_assoc]; exact HQ.out, HF5.out⟩, by simp [intOf]; omega⟩
    · have hie : i = L.length := by have := HN.out; omega
      have hnl : ¬ (i : Int) < (n : Int) := by omega
      have R0 := Lib.hid (show Value.int .i64 (cnt run (L.take i) : Int) = .int .i64 C ∧ QAt wq b o R ty mo (oth run L) ∧ Frm T w wq from ⟨by rw [HC.out, List.take_of_length_le (by omega)], by
        rw [List.take_of_length_le (by omega), List.drop_eq_nil_of_le (by omega), List.append_nil] at hQ
        exact hQ, (Frm.of_below HB1.out (Nat.le_refl _)).trans hF⟩)
      clear hQ hF hie
      obtain ⟨cv, hcv⟩ : ∃ cv, cv = Value.int .i64 (cnt run (L.take i) : Int) := ⟨_, rfl⟩
      rw [← hcv] at R0 ⊢
      clear hcv
      go_wp2_with fail
      go_ret
      obtain ⟨e1, e2, e3⟩ := R0.out
      exact ⟨by rw [e1]; rfl, e2, e3⟩
end Go.Proofs.Ytkmhbbcppjckiaa.Qu
/- A queue in memory, told by its tasks alone. -/
namespace Go.Proofs.Ytkmhbbcppjckiaa.Qu
open Go Go.RowKit Go.Proofs.Ytkmhbbcppjckiaa
open Go.Proofs.Ytkmhbbcppjckiaa.Hp (K3 kv KLit wf3 i64wf kv_inj)
open Go.Proofs.Ytkmhbbcppjckiaa.Dk (Frm below_drewN Frm.of_below Frm.setCell Frm.refl Frm.drewN Frm.drew Frm.transT Frm.turned Frm.trans Frm.mono Frm.setRow Frm.thenBelow Frm.below)
set_option linter.unusedVariables false
set_option linter.unusedSimpArgs false
set_option maxRecDepth 100000
/-- A task that waits, and since when. -/
abbrev Tk := K3 × Int
def keysT (W : List Tk) : List K3 := W.map Prod.fst
def R3 : Array Value := #[undef, undef, undef]
/-- The queue at b holds just these tasks; its blocks are some of T. -/
def QT (w : World) (T : Nat → Prop) (b : Nat) (W : List Tk) : Prop := ∃ mo L, QAt w b 0 R3 29 mo L ∧ L.map Lk.tk = W ∧ ∀ q, own b mo L q → T q
variable {w w' : World} {T : Nat → Prop} {b : Nat} {W : List Tk}
theorem keys_of {L : List Lk} (h : L.map Lk.tk = W) : L.map Lk.key = keysT W := by subst h; simp [keysT, Lk.tk, Function.comp_def]
theorem QT.mono {T' : Nat → Prop} (h : QT w T b W) (hT : ∀ q, T q → T' q) : QT w T' b W := by
  obtain ⟨mo, L, h1, h2, h3⟩ := h
  exact ⟨mo, L, h1, h2, fun q hq => hT q (h3 q hq)⟩
theorem QT.keep (h : QT w T b W) (hk : ∀ q, T q → q < w.heap.size → w'.heap[q]? = w.heap[q]?) : QT w' T b W := by
  obtain ⟨mo, L, h1, h2, h3⟩ := h
  exact ⟨mo, L, h1.keep fun q hq => hk q (h3 q hq) (h1.lt hq), h2, h3⟩
theorem QT.below (h : QT w T b W) (hb : Below w.heap.size w w') : QT w' T b W := h.keep fun q _ hq => hb.block q hq
theorem QT.nodup (h : QT w T b W) : (keysT W).Nodup := by
  obtain ⟨mo, L, h1, h2, _⟩ := h
  rw [← keys_of h2]
  exact h1.keys
theorem QT.few (h : QT w T b W) : W.length ≤ 128 := by
  obtain ⟨mo, L, h1, h2, _⟩ := h
  rw [← h2, List.length_map]
  exact h1.few
theorem QT.wf (h : QT w T b W) : ∀ x ∈ W, wf3 x.1 ∧ i64wf x.2 := by
  obtain ⟨mo, L, h1, rfl, _⟩ := h
  intro x hx
  obtain ⟨y, hy, rfl⟩ := List.mem_map.1 hx
  exact h1.wf y hy
theorem adOf_in {L : List Lk} {k : K3} : (adOf L k).isSome = (L.map Lk.key).contains k := by
  cases hA : adOf L k with
  | none =>
    have := adOf_none.1 hA
    symm
    simp only [Option.isSome_none, List.contains_eq_mem, decide_eq_false_iff_not, List.mem_map, not_exists, not_and]
    exact fun x hx => this x hx
  | some a =>
    obtain ⟨A, x, B, rfl, hk, _⟩ := adOf_some hA
    subst hk
    simp
/-- The zero queue. -/
theorem QT.new (w : World) : QT (w.alloc (.cells #[.pointer none, .pointer none, .map none] 29)) (fun q => q = w.heap.size) w.heap.size [] := by
  refine ⟨none, [], ⟨⟨⟨heap_alloc_new w _, by decide, by decide⟩, trivial, by simp⟩, ⟨rfl, fun _ => rfl⟩, (fun x hx => by cases hx), by simp, by simp⟩, rfl, ?_⟩
  rintro q (e | e | ⟨x, hx, _⟩)
  · exact e
  · cases e
  · cases hx
theorem qt_len (h : QT w T b W) : Calls Try.prog 20 #[.pointer (some ⟨b, 0, none⟩)] w fun e w' => e = .returned (.int .i64 (W.length : Int)) ∧ w' = w := by
  obtain ⟨mo, L, h1, rfl, h3⟩ := h
  rw [List.length_map]
  exact qlen_any h1
theorem qt_has (h : QT w T b W) (k : K3) (hk : wf3 k) : Calls Try.prog 22 #[.pointer (some ⟨b, 0, none⟩), .agg (kcs k).toArray] w fun e w' => e = .returned (.bool ((keysT W).contains k)) ∧ Below w.heap.size w w' := by
  obtain ⟨mo, L, h1, h2, h3⟩ := h
  have h := qhas_any h1 k hk
  rwa [adOf_in, keys_of h2, kv_eq] at h
theorem qt_since (h : QT w T b W) (k : K3) (hk : wf3 k) : Calls Try.prog 21 #[.pointer (some ⟨b, 0, none⟩), .agg (kcs k).toArray] w fun e w' =>
    (k ∉ keysT W ∧ e = .returned (.tuple #[.int .i64 0, .bool false]) ∨ ∃ s, (k, s) ∈ W ∧ e = .returned (.tuple #[.int .i64 s, .bool true])) ∧ Below w.heap.size w w' := by
  obtain ⟨mo, L, h1, h2, h3⟩ := h
  have h := qsince_any h1 k hk
  rw [kv_eq] at h
  refine h.mono ?_
  rintro e w' ⟨h | ⟨x, hx, rfl, he⟩, hb⟩
  · refine ⟨.inl ⟨?_, h.2⟩, hb⟩
    rw [← keys_of h2]
    intro hm
    obtain ⟨x, hx, e⟩ := List.mem_map.1 hm
    exact adOf_none.1 h.1 x hx e
  · exact ⟨.inr ⟨x.since, by rw [← h2]; exact List.mem_map.2 ⟨x, hx, rfl⟩, he⟩, hb⟩
theorem qt_first_nil (h : QT w T b []) : Calls Try.prog 23 #[.pointer (some ⟨b, 0, none⟩)] w fun e w' => e = .returned (.tuple #[.agg (kcs k0).toArray, .int .i64 0, .bool false]) ∧ Below w.heap.size w w' := by
  obtain ⟨mo, L, h1, h2, h3⟩ := h
  obtain rfl := List.map_eq_nil_iff.1 h2
  exact qfirst_nil h1.c
theorem qt_first {x : Tk} {W : List Tk} (h : QT w T b (x :: W)) : Calls Try.prog 23 #[.pointer (some ⟨b, 0, none⟩)] w fun e w' => e = .returned (.tuple #[.agg (kcs x.1).toArray, .int .i64 x.2, .bool true]) ∧ Below w.heap.size w w' := by
  obtain ⟨mo, L, h1, h2, h3⟩ := h
  obtain ⟨y, L', rfl, rfl, rfl⟩ := List.map_eq_cons_iff.1 h2
  exact qfirst_cons h1.c
/-- What an add answers, and what waits then. -/
def addR (W : List Tk) (k : K3) : Int := if (keysT W).contains k = true then 5 else if W.length = 128 then 3 else 0
def addW (W : List Tk) (k : K3) (now : Int) : List Tk := if addR W k = 0 then W ++ [(k, now)] else W
/-- How a call leaves a queue: its blocks are the old ones, or new ones. -/
def QPost (w : World) (T : Nat → Prop) (b : Nat) (W : List Tk) (w' : World) : Prop := Frm T w w' ∧ ∃ T', QT w' T' b W ∧ (∀ q, T' q → (T q ∨ w.heap.size ≤ q) ∧ q < w'.heap.size)
theorem QPost.of {mo : Option Nat} {L : List Lk} (hF : Frm T w w') (hQ : QAt w' b 0 R3 29 mo L) (hL : L.map Lk.tk = W) (ho : ∀ q, own b mo L q → T q ∨ w.heap.size ≤ q) : QPost w T b W w' :=
  ⟨hF, own b mo L, ⟨mo, L, hQ, hL, fun q h => h⟩, fun q hq => ⟨ho q hq, hQ.lt hq⟩⟩
theorem QPost.belowB {B : Nat} (h : QPost w (fun q => B ≤ q) b W w') (hB : B ≤ w.heap.size) : QT w' (fun q => B ≤ q) b W ∧ Below B w w' := by
  obtain ⟨hF, T', hQ, hT⟩ := h
  refine ⟨hQ.mono fun q hq => ?_, hF.below (fun q _ hq => hq) hB⟩
  rcases (hT q hq).1 with h | h
  · exact h
  · omega
theorem qt_add (h : QT w T b W) (k : K3) (hk : wf3 k) (now : Int) (hnow : i64wf now) : Calls Try.prog 14 #[.pointer (some ⟨b, 0, none⟩), .agg (kcs k).toArray, .int .i64 now] w fun e w' => e = .returned (.int .i64 (addR W k)) ∧ QPost w T b (addW W k now) w' := by
  obtain ⟨mo, L, h1, h2, h3⟩ := h
  have hlen : W.length = L.length := by rw [← h2, List.length_map]
  by_cases hin : (keysT W).contains k = true
  · have hR : addR W k = 5 := by unfold addR; rw [if_pos hin]
    have hW : addW W k now = W := by unfold addW; rw [hR]; rfl
    rw [hR, hW]
    refine (qadd_twice h1 k hk now ?_).mono ?_
    · intro hno
      rw [← keys_of h2, ← adOf_in, hno] at hin
      cases hin
    · rintro e w' ⟨he, hb⟩
      exact ⟨he, .of (Frm.of_below hb (Nat.le_refl _)) (h1.below hb) h2 (fun q hq => .inl (h3 q hq))⟩
  · have hno : adOf L k = none := by
      rw [← keys_of h2, ← adOf_in] at hin
      cases hA : adOf L k with
      | none => rfl
      | some a => rw [hA] at hin; exact absurd rfl hin
    by_cases hf : L.length = 128
    · have hR : addR W k = 3 := by unfold addR; rw [if_neg hin, hlen, if_pos hf]
      have hW : addW W k now = W := by unfold addW; rw [hR]; rfl
      rw [hR, hW]
      refine (qadd_full h1 k hk now hno hf).mono ?_
      rintro e w' ⟨he, hb⟩
      exact ⟨he, .of (Frm.of_below hb (Nat.le_refl _)) (h1.below hb) h2 (fun q hq => .inl (h3 q hq))⟩
    · have hR : addR W k = 0 := by unfold addR; rw [if_neg hin, hlen, if_neg hf]
      have hW : addW W k now = W ++ [(k, now)] := by unfold addW; rw [hR]; rfl
      rw [hR, hW]
      refine (qadd_ok h1 k hk now hnow hno (by have := h1.few; omega)).mono ?_
      rintro e w' ⟨p, mo', he, hp, hQ, hF, hm⟩
      refine ⟨he, .of (hF.mono fun q _ hq => h3 q hq) hQ (by rw [List.map_append, h2]; rfl) ?_⟩
      rintro q (e | e | ⟨x, hx, e⟩)
      · exact .inl (h3 q (.inl e))
      · rcases hm q e with h | h
        · exact .inl (h3 q (.inr (.inl h)))
        · exact .inr h
      · rcases List.mem_append.1 hx with hx | hx
        · exact .inl (h3 q (.inr (.inr ⟨x, hx, e⟩)))
        · rw [List.mem_singleton.1 hx] at e
          exact .inr (by rw [← e]; exact hp)
/-- A task less. -/
def remW (W : List Tk) (k : K3) : List Tk := W.filter fun x => !(decide (x.1 = k))
theorem remW_no {W : List Tk} {k : K3} (h : k ∉ keysT W) : remW W k = W := by
  unfold remW
  rw [List.filter_eq_self]
  intro x hx
  have : x.1 ≠ k := fun e => h (by rw [← e]; exact List.mem_map.2 ⟨x, hx, rfl⟩)
  simp [this]
theorem remW_mid {A B : List Tk} {x : Tk} (h : (keysT (A ++ x :: B)).Nodup) : remW (A ++ x :: B) x.1 = A ++ B := by
  simp only [keysT, List.map_append, List.map_cons, List.nodup_append, List.nodup_cons] at h
  have hA : remW A x.1 = A := remW_no fun hm => h.2.2 x.1 hm x.1 (by simp) rfl
  have hB : remW B x.1 = B := remW_no fun hm => h.2.1.1 hm
  unfold remW at hA hB ⊢
  rw [List.filter_append, List.filter_cons, hA, hB]
  simp
theorem qt_remove (h : QT w T b W) (k : K3) (hk : wf3 k) : Calls Try.prog 17 #[.pointer (some ⟨b, 0, none⟩), .agg (kcs k).toArray] w fun e w' => e = .returned (.bool ((keysT W).contains k)) ∧ QPost w T b (remW W k) w' := by
  have hnd := h.nodup
  obtain ⟨mo, L, h1, h2, h3⟩ := h
  rw [← keys_of h2, ← adOf_in]
  cases hA : adOf L k with
  | none =>
    have hno : k ∉ keysT W := by
      rw [← keys_of h2]
      intro hm
      obtain ⟨x, hx, e⟩ := List.mem_map.1 hm
      exact adOf_none.1 hA x hx e
    rw [remW_no hno]
    refine (qremove_no h1 k hk hA).mono ?_
    rintro e w' ⟨he, hb⟩
    exact ⟨he, .of (Frm.of_below hb (Nat.le_refl _)) (h1.below hb) h2 (fun q hq => .inl (h3 q hq))⟩
  | some a =>
    obtain ⟨A, x, B, rfl, rfl, _⟩ := adOf_some hA
    refine (qremove_yes h1).mono ?_
    rintro e w' ⟨he, hQ, hF⟩
    refine ⟨he, .of (hF.mono fun q _ hq => h3 q hq) hQ ?_ ?_⟩
    · subst h2
      have e : (A ++ x :: B).map Lk.tk = A.map Lk.tk ++ x.tk :: B.map Lk.tk := by simp
      rw [e] at hnd ⊢
      rw [show x.key = x.tk.1 from rfl, remW_mid hnd, List.map_append]
    · rintro q (e | e | ⟨y, hy, e⟩)
      · exact .inl (h3 q (.inl e))
      · exact .inl (h3 q (.inr (.inl e)))
      · exact .inl (h3 q (.inr (.inr ⟨y, by rcases List.mem_append.1 hy with hy | hy <;> simp [hy], e⟩)))
theorem qt_take_nil (h : QT w T b []) : Calls Try.prog 15 #[.pointer (some ⟨b, 0, none⟩)] w fun e w' => e = .returned (.tuple #[.agg (kcs k0).toArray, .bool false]) ∧ QPost w T b [] w' := by
  obtain ⟨mo, L, h1, h2, h3⟩ := h
  obtain rfl := List.map_eq_nil_iff.1 h2
  refine (qtake_nil h1).mono ?_
  rintro e w' ⟨he, hQ, hF⟩
  exact ⟨he, .of (hF.mono fun q _ hq => h3 q hq) hQ rfl (fun q hq => .inl (h3 q hq))⟩
theorem qt_take {x : Tk} {W : List Tk} (h : QT w T b (x :: W)) : Calls Try.prog 15 #[.pointer (some ⟨b, 0, none⟩)] w fun e w' => e = .returned (.tuple #[.agg (kcs x.1).toArray, .bool true]) ∧ QPost w T b W w' := by
  obtain ⟨mo, L, h1, h2, h3⟩ := h
  obtain ⟨y, L', rfl, rfl, rfl⟩ := List.map_eq_cons_iff.1 h2
  refine (qtake_cons h1).mono ?_
  rintro e w' ⟨he, hQ, hF⟩
  refine ⟨he, .of (hF.mono fun q _ hq => h3 q hq) hQ rfl ?_⟩
  rintro q (e | e | ⟨z, hz, e⟩)
  · exact .inl (h3 q (.inl e))
  · exact .inl (h3 q (.inr (.inl e)))
  · exact .inl (h3 q (.inr (.inr ⟨z, by simp [hz], e⟩)))
theorem qt_list (h : QT w T b W) : Calls Try.prog 19 #[.pointer (some ⟨b, 0, none⟩)] w fun e w' =>
    ∃ ao c, e = .returned (.slice ao W.length c) ∧ w'.ownsRow w.heap.size 32 3 (.slice ao W.length c) W.length (kss (keysT W)) ∧ Below w.heap.size w w' := by
  obtain ⟨mo, L, h1, h2, h3⟩ := h
  have hlen : W.length = L.length := by rw [← h2, List.length_map]
  rw [hlen, ← keys_of h2]
  exact qlist_any h1.c (by have := h1.few; omega)
/-- A run's tasks less; how many they were. -/
def othW (run : Int) (W : List Tk) : List Tk := W.filter fun x => !(x.1.1 == run)
def cntW (run : Int) (W : List Tk) : Nat := (W.filter fun x => x.1.1 == run).length
theorem qt_drop (h : QT w T b W) (run : Int) : Calls Try.prog 18 #[.pointer (some ⟨b, 0, none⟩), .int .i64 run] w fun e w' => e = .returned (.int .i64 (cntW run W : Int)) ∧ QPost w T b (othW run W) w' := by
  obtain ⟨mo, L, h1, rfl, h3⟩ := h
  have e1 : cntW run (L.map Lk.tk) = cnt run L := by
    unfold cntW cnt
    rw [List.filter_map, List.length_map]
    rfl
  have e2 : othW run (L.map Lk.tk) = (oth run L).map Lk.tk := by
    unfold othW oth
    rw [List.filter_map]
    rfl
  rw [e1, e2]
  refine (qdrop_any h1 run).mono ?_
  rintro e w' ⟨he, hQ, hF⟩
  refine ⟨he, .of (hF.mono fun q _ hq => h3 q hq) hQ rfl ?_⟩
  rintro q (e | e | ⟨z, hz, e⟩)
  · exact .inl (h3 q (.inl e))
  · exact .inl (h3 q (.inr (.inl e)))
  · exact .inl (h3 q (.inr (.inr ⟨z, (List.mem_filter.1 hz).1, e⟩)))
end Go.Proofs.Ytkmhbbcppjckiaa.Qu
/- Two tasks held against each other. -/
namespace Go.Proofs.Ytkmhbbcppjckiaa.Qu
open Go Go.RowKit Go.Proofs.Ytkmhbbcppjckiaa
open Go.Proofs.Ytkmhbbcppjckiaa.Hp (K3 kv KLit wf3 i64wf kv_inj)
set_option linter.unusedVariables false
set_option linter.unusedSimpArgs false
set_option maxRecDepth 100000
theorem task_equal (a b : K3) (w : World) : (Op.equalIn 10000 32 (.agg (kcs a).toArray) (.agg (kcs b).toArray)).run Try.prog w = .ok (decide (a = b)) w := by
  obtain ⟨a1, a2, a3⟩ := a
  obtain ⟨b1, b2, b3⟩ := b
  rw [show (10000 : Nat) = 9999 + 1 from rfl]
  have he : ∀ (a b : Int) w, (Op.equalIn 9999 3 (.int .i64 a) (.int .i64 b)).run Try.prog w = .ok (a == b) w := fun a b w => run_equalIn_int w 9998 3 .i64 .i64 a b Try.underlying3
  have he2 : ∀ (a b : Int) w, (Op.equalIn 9999 2 (.int .i64 a) (.int .i64 b)).run Try.prog w = .ok (a == b) w := fun a b w => run_equalIn_int w 9998 2 .i64 .i64 a b Try.underlying2
  by_cases h1 : a1 = b1 <;> by_cases h2 : a2 = b2 <;> by_cases h3 : a3 = b3 <;> simp [go_sem, Try.underlying32, he, he2, kcs, h1, h2, h3]
theorem task_eql (a b : K3) (w : World) : (binOp .eql 32 (.agg (kcs a).toArray) (.agg (kcs b).toArray)).run Try.prog w = .ok (.bool (decide (a = b))) w := by
  rw [run_eql_struct, task_equal]
  rfl
theorem task_neq (a b : K3) (w : World) : (binOp .neq 32 (.agg (kcs a).toArray) (.agg (kcs b).toArray)).run Try.prog w = .ok (.bool (!decide (a = b))) w := by
  rw [run_neq_struct, task_equal]
  rfl
theorem task_guard : Try.prog.eqGuardType Try.prog.depth 32 = false := by kernel_rfl
theorem exec_teql {o : Oper} {ev : Operand → Value} {x y : Operand} {s : TypeId} (ho : o.op = .binOp .eql 32 x y s) (a b : K3) (hx : ev x = .agg (kcs a).toArray) (hy : ev y = .agg (kcs b).toArray) (w : World) :
    (execOp ev o).run Try.prog w = .ok (.value (.bool (decide (a = b)))) w := by
  have hg := task_guard
  have hq := task_eql a b w
  unfold execOp
  simp only [ho, hx, hy]
  simp [eqGuard, Sem.run_bind, hg, hq]
theorem exec_tneq {o : Oper} {ev : Operand → Value} {x y : Operand} {s : TypeId} (ho : o.op = .binOp .neq 32 x y s) (a b : K3) (hx : ev x = .agg (kcs a).toArray) (hy : ev y = .agg (kcs b).toArray) (w : World) :
    (execOp ev o).run Try.prog w = .ok (.value (.bool (!decide (a = b)))) w := by
  have hg := task_guard
  have hq := task_neq a b w
  unfold execOp
  simp only [ho, hx, hy]
  simp [eqGuard, Sem.run_bind, hg, hq]
theorem wpList_teql {ops : Array Oper} {rest : List Oper} {o : Oper} {a : Act} {w : World} {Q : Exit → Act → World → Prop} (hw : Region.wanted o (yielded ops a.tmps) = true) (x y : Operand) (s : TypeId) (ho : o.op = .binOp .eql 32 x y s) (k l : K3) (hx : a.eval x = .agg (kcs k).toArray) (hy : a.eval y = .agg (kcs l).toArray)
    (h : wpList Try.prog ops Q rest (a.put o.dst (.bool (decide (k = l)))) w) : wpList Try.prog ops Q (o :: rest) a w :=
  wpList_runWanted hw _ (exec_teql ho k l hx hy w) h
theorem wpList_tneq {ops : Array Oper} {rest : List Oper} {o : Oper} {a : Act} {w : World} {Q : Exit → Act → World → Prop} (hw : Region.wanted o (yielded ops a.tmps) = true) (x y : Operand) (s : TypeId) (ho : o.op = .binOp .neq 32 x y s) (k l : K3) (hx : a.eval x = .agg (kcs k).toArray) (hy : a.eval y = .agg (kcs l).toArray)
    (h : wpList Try.prog ops Q rest (a.put o.dst (.bool (!decide (k = l)))) w) : wpList Try.prog ops Q (o :: rest) a w :=
  wpList_runWanted hw _ (exec_tneq ho k l hx hy w) h
end Go.Proofs.Ytkmhbbcppjckiaa.Qu
