/- All that wait, in order. -/
import Derived.Test.YtjjmjbemflhlbaaNE
namespace Go.Proofs.Ytjjmjbemflhlbaa.Qu
open Go Go.RowKit Go.Proofs.Ytjjmjbemflhlbaa
open Go.Proofs.Ytjjmjbemflhlbaa.Hp (K3 kv KLit wf3 i64wf kv_inj)
open Go.Proofs.Ytjjmjbemflhlbaa.Dk (Frm below_drewN Frm.of_below Frm.setCell Frm.refl Frm.drewN Frm.drew Frm.transT Frm.turned Frm.trans Frm.mono Frm.setRow)
set_option linter.unusedVariables false
set_option linter.unusedSimpArgs false
set_option maxRecDepth 100000
variable {w : World} {b o : Nat} {R : Array Value} {ty : TypeId} {mo : Option Nat} {L : List Lk}
/-- Tasks, one behind the other. -/
def kss (l : List K3) : List Value := (l.map kcs).flatten
theorem kss_app (A B : List K3) : kss (A ++ B) = kss A ++ kss B := by simp [kss]
theorem kss_len : ∀ l : List K3, (kss l).length = l.length * 3
  | [] => rfl
  | k :: l => by
    have h := kss_len l
    simp only [kss, List.map_cons, List.flatten_cons, List.length_append, List.length_cons] at h ⊢
    have : (kcs k).length = 3 := rfl
    omega
theorem kss_at : ∀ (l : List K3) (i : Nat) (k : K3), l[i]? = some k → ∀ (j : Nat) v, (kcs k)[j]? = some v → (kss l)[i * 3 + j]? = some v
  | [], i, k, h => by simp at h
  | y :: l, 0, k, h => fun j v hj => by
    cases h
    have := (List.getElem?_eq_some_iff.1 hj).1
    simp only [kss, List.map_cons, List.flatten_cons, Nat.zero_mul, Nat.zero_add]
    rw [List.getElem?_append_left this]
    exact hj
  | y :: l, i + 1, k, h => fun j v hj => by
    have ih := kss_at l i k (by simpa using h) j v hj
    simp only [kss, List.map_cons, List.flatten_cons] at ih ⊢
    have e : (kcs y).length = 3 := rfl
    rw [List.getElem?_append_right (by omega), e, show (i + 1) * 3 + j - 3 = i * 3 + j by omega]
    exact ih
theorem wss_at : ∀ (L : List Lk) (i : Nat) (x : Lk), L[i]? = some x → ∀ (j : Nat) v, (wcs x.key x.since)[j]? = some v → (wss L)[i * 4 + j]? = some v
  | [], i, k, h => by simp at h
  | y :: l, 0, k, h => fun j v hj => by
    cases h
    have := (List.getElem?_eq_some_iff.1 hj).1
    simp only [wss, List.map_cons, List.flatten_cons, Nat.zero_mul, Nat.zero_add]
    rw [List.getElem?_append_left this]
    exact hj
  | y :: l, i + 1, k, h => fun j v hj => by
    have ih := wss_at l i k (by simpa using h) j v hj
    simp only [wss, List.map_cons, List.flatten_cons] at ih ⊢
    have e : (wcs y.key y.since).length = 4 := rfl
    rw [List.getElem?_append_right (by omega), e, show (i + 1) * 4 + j - 4 = i * 4 + j by omega]
    exact ih
theorem kcs_mem (k : K3) : ∀ u ∈ kcs k, u.oneCell' = true := by
  intro u hu
  simp only [kcs, List.mem_cons, List.not_mem_nil, or_false] at hu
  rcases hu with rfl | rfl | rfl <;> rfl
theorem infoTk : (Try.prog.info? 32).map (fun i => (i.zero, i.size, i.bytes)) = some (some (.agg (kcs k0).toArray), 3, 24) := by kernel_rfl
theorem own_baseQ {w : World} {B C : Nat} {e : TypeId} {size n : Nat} {v : Value} {xs : List Value} (h : w.ownsRow B e size v n xs) (hC : C ≤ B) : w.ownsRow C e size v n xs := by
  refine ⟨h.1, ?_⟩
  rcases h.2 with h0 | ⟨g, cap, cur, e1, hB, r⟩
  · exact .inl h0
  · exact .inr ⟨g, cap, cur, e1, Nat.le_trans hC hB, r⟩
def liRel (w : World) (L : List Lk) (lv iv : Value) (wr : World) : Prop :=
  ∃ (i : Nat) (ao : Option Addr) (c : Nat), i ≤ L.length ∧ iv = .int .i64 (i : Int) ∧ lv = .slice ao i c ∧ wr.ownsRow w.heap.size 32 3 (.slice ao i c) i (kss ((L.take i).map Lk.key)) ∧ Below w.heap.size w wr
theorem qlist_any (h : CAt w b o R ty mo L) (hl : L.length ≤ 100000) : Calls Try.prog 19 #[.pointer (some ⟨b, o, none⟩)] w fun e w' =>
    ∃ ao c, e = .returned (.slice ao L.length c) ∧ w'.ownsRow w.heap.size 32 3 (.slice ao L.length c) L.length (kss (L.map Lk.key)) ∧ Below w.heap.size w w' := by
  have TH := Lib.hid (things_any h hl)
  clear h
  go_enter Try.func19, Try.ntmps19
  go_wp2_with fail
  refine TH.out.mono ?_
  rintro e w1 ⟨at1, ct, rfl, hown1, hb1⟩
  have HO1 := Lib.hid hown1
  have HB1 := Lib.hid hb1
  obtain ⟨n, hn⟩ : ∃ n, n = L.length := ⟨_, rfl⟩
  rw [← hn] at HO1 ⊢
  have HN := Lib.hid hn
  clear hown1 hb1 hn TH
  go_wp2_with fail
  go_loopw [3, 11] (fun lv iv wr => liRel w1 L lv iv wr) (fun _ iv _ => n - (intOf iv).toNat)
  case atStart => exact ⟨0, none, 0, Nat.zero_le _, rfl, rfl, World.ownsRow_nil _ _ _ _, Below.refl _ _⟩
  case round =>
    obtain ⟨wq, rfl⟩ : ∃ wq : World, wq = wr := ⟨_, rfl⟩
    obtain ⟨i, ao, c, hi, rfl, rfl, hown, hb⟩ := hrel
    by_cases hin : i < n
    · have hiL : i < L.length := by rw [← HN.out]; exact hin
      obtain ⟨x, hx⟩ : ∃ x, L[i]? = some x := ⟨_, List.getElem?_eq_getElem hiL⟩
      obtain ⟨gp, hgp, _, hglt, _⟩ := own_cellK HO1.out (wss_at L i x hx 0 _ rfl)
      subst hgp
      have KX : ∀ j v, (wcs x.key x.since)[j]? = some v → wq.cell? ((⟨gp, i * 4, none⟩ : Addr).add j) = some v := by
        intro j v hj
        obtain ⟨g2, e2, _, hlt, hc⟩ := own_cellK HO1.out (wss_at L i x hx j v hj)
        injection e2 with e2
        injection e2 with e2
        subst e2
        rw [Addr.add_mid, hb.cell hlt]
        exact hc
      obtain ⟨w5, hw5⟩ : ∃ w5, w5 = wq.alloc (.cells (wcs x.key x.since).toArray 112) := ⟨_, rfl⟩
      obtain ⟨g5, hg5⟩ : ∃ g, g = wq.heap.size := ⟨_, rfl⟩
      have b5 : Below wq.heap.size wq w5 := by rw [hw5]; exact (Below.refl _ _).alloc (Nat.le_refl _) _
      have n5 : w5.heap[g5]? = some (.cells (wcs x.key x.since).toArray 112 (0, 0)) := by rw [hw5, hg5]; exact heap_alloc_new _ _
      have KT : ∀ j v, (kcs x.key)[j]? = some v → w5.cell? ((⟨g5, 0, none⟩ : Addr).add j) = some v := by
        intro j v hj
        rw [Addr.add_mid, Nat.zero_add, cell_of_row w5 g5 j _ _ _ n5]
        match j, hj with
        | 0, hj => exact hj
        | 1, hj => exact hj
        | 2, hj => exact hj
        | k + 3, hj => simp [kcs] at hj
      have SW := Lib.hid (show (Try.prog.info? 112).map (·.size) = some (wcs x.key x.since).toArray.size by kernel_rfl)
      have OW := Lib.hid (wcs_one x.key x.since)
      have HX := Lib.hid hx
      have HO := Lib.hid (own_belowK hown b5)
      have HB5 := Lib.hid (hb.trans (b5.mono hb.size))
      have HW5 := Lib.hid hw5
      have HG5 := Lib.hid hg5
      have hw3 : (kcs x.key).length = 3 := rfl
      have hin2 : (i : Int) < (n : Int) := by omega
      have h0 : (0 : Int) ≤ (i : Int) := by omega
      have hn2 : i + 1 ≤ 100000 := by omega
      clear hown hb hx hw5 hg5 b5 n5 hglt
      go_upto_region 5 with (first
        | (with_reducible show wpList _ _ _ _ _ _; refine wpList_load_allW rfl 112 (.tmp 13) rfl ⟨gp, i * 4, none⟩ rfl (wcs x.key x.since) _ KX Try.underlying112 rfl (wtSize _ _) ?_)
        | (with_reducible show wpList _ _ _ _ _ _; refine wpList_store_newW rfl 112 (.tmp 5) (.tmp 14) rfl 112 _ (wcs x.key x.since).toArray (by with_unfolding_all rfl) (by with_unfolding_all rfl) SW.out rfl OW.out ?_))
      rw [← HW5.out, ← HG5.out]
      simp only [Act.put, List.setIfInBounds_toArray, List.set_cons_zero, List.set_cons_succ, List.getElem_toArray, List.getElem_cons_zero, List.getElem_cons_succ]
      go_upto_region 6 with (first
        | (with_reducible show wpList _ _ _ _ _ _; refine wpList_load_allW rfl 32 (.tmp 16) rfl ⟨g5, 0, none⟩ rfl (kcs x.key) _ KT Try.underlying32 rfl (tkSize _) ?_)
        | (at_builtin; refine wpList_apK rfl (.tmp 15) (.tmp 18) 45 32 3 24 _ rfl Try.underlying45 infoTk (by decide) rfl w1.heap.size _ _ _ _ rfl HO.out HB5.out.size (kcs x.key) rfl (kcs_mem _) rfl (by omega) ?_))
      intro ao' c' w' hown' hb' hk'
      have RL := Lib.hid (show liRel w1 L (.slice ao' (i + 1) c') (.int .i64 ((i + 1 : Nat) : Int)) w' from ⟨i + 1, ao', c', by rw [← HN.out]; omega, rfl, rfl, by
        have e : (L.take (i + 1)).map Lk.key = (L.take i).map Lk.key ++ [x.key] := by rw [List.take_add_one, HX.out]; simp
        rw [e, kss_app]
        rw [List.map_take]
        simpa [kss] using hown', HB5.out.trans hb'⟩)
      have ML := Lib.hid (show n - (i + 1) < n - i by omega)
      clear hown' hb' hk' KX KT
      go_wp2_with fail
      exact ⟨RL.out, by simp [intOf]; exact ML.out⟩
    · have hie : i = n := by have := HN.out; omega
      have hnl : ¬ (i : Int) < (n : Int) := by omega
      have R0 := Lib.hid (show ∃ ao' c', (Value.slice ao i c) = .slice ao' n c' ∧ wq.ownsRow w.heap.size 32 3 (.slice ao' n c') n (kss (L.map Lk.key)) ∧ Below w.heap.size w wq from ⟨ao, c, by rw [hie], by
        have h1 := own_baseQ hown HB1.out.size
        rw [hie] at h1
        rwa [List.take_of_length_le (by rw [HN.out]; exact Nat.le_refl _)] at h1, HB1.out.trans (hb.mono HB1.out.size)⟩)
      clear hown hb hie
      go_wp2_with fail
      go_ret
      obtain ⟨ao', c', e1, e2, e3⟩ := R0.out
      rw [HN.out] at e1 e2
      exact ⟨ao', c', by rw [e1]; rfl, e2, e3⟩
end Go.Proofs.Ytjjmjbemflhlbaa.Qu
