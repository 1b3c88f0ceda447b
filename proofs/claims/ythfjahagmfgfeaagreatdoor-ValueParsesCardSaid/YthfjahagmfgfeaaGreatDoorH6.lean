/- The walk of ValueParses. -/
import Derived.Test.YthfjahagmfgfeaaGreatDoorH4
namespace Go.Proofs.YthfjahagmfgfeaaGreatDoor.Wi
open Go Go.RowKit
set_option linter.unusedVariables false
set_option linter.unusedSimpArgs false
theorem cell0 {U : VT} : U.cells[0]? = some (.int .i64 U.kd) := by cases U; rfl
theorem nz_kd (U : VT) : U.nz.kd = U.kd := by cases U; rw [VT.nz]; rfl
set_option maxHeartbeats 8000000 in
set_option maxRecDepth 100000 in
theorem parses_any (s : ByteArray) (w : World) (hg : GB w.heap.size w) : Calls Tryz.prog 8 #[.string s] w fun e w' => e = .returned (.bool true) ∧ Below w.heap.size w w' := by
  have CH := Lib.hid (holds_any w hg)
  have G := Lib.hid hg
  obtain ⟨l, hl⟩ : ∃ l, l = s.data.toList := ⟨_, rfl⟩
  have hs : s = str l := by rw [hl]; simp [str]
  have hsz : s.size = l.length := by rw [hs]; exact str_sizeX l
  have HS := Lib.hid hs
  have HSZ := Lib.hid hsz
  clear hl hs hsz hg
  go_enter Tryz.func8, Tryz.ntmps8
  go_wp2_with fail
  refine CH.out.mono ?_
  rintro e w2 ⟨rfl, hb2⟩
  have HB2 := Lib.hid hb2
  clear hb2
  by_cases h2000 : (2000 : Int) < (s.size : Int)
  · go_wp2_with fail
    go_ret
    exact ⟨rfl, HB2.out⟩
  have h9 : l.length ≤ 2000 := by have := HSZ.out; omega
  have CD := vparse_any (w := w2) (l := l) (by omega) ((G.out.on HB2.out).base HB2.out.size)
  obtain ⟨X, hX⟩ : ∃ X, X = prV l := ⟨_, rfl⟩
  rw [← hX, ← HS.out] at CD
  obtain ⟨Xv, Xe⟩ := X
  have HX := Lib.hid hX
  have HCD := Lib.hid CD
  clear hX CD CH
  go_wp2_with fail
  refine HCD.out.mono ?_
  rintro e w3 ⟨U, rfl, hUz, hUa, _, hb3⟩
  dsimp only at hUz
  obtain ⟨w4, hw4⟩ : ∃ bx, bx = w3.alloc (.cells U.cells.toArray 24) := ⟨_, rfl⟩
  obtain ⟨g4, hg4⟩ : ∃ bx, bx = w3.heap.size := ⟨_, rfl⟩
  have bw4 : Below w3.heap.size w3 w4 := by rw [hw4]; exact (Below.refl _ _).alloc (Nat.le_refl _) _
  have nw4 : w4.heap[g4]? = some (.cells U.cells.toArray 24 (0, 0)) := by rw [hw4, hg4]; exact heap_alloc_new _ _
  have Kw4 := Lib.hid (rowK nw4)
  have Hw4 := Lib.hid hw4
  have Hg4 := Lib.hid hg4
  have Bw4 := Lib.hid bw4
  have Nw4 := Lib.hid nw4
  clear hw4 hg4 bw4 nw4
  have hb24 : Below w2.heap.size w2 w4 := hb3.trans (Bw4.out.mono hb3.size)
  have RL4 := Lib.hid (HB2.out.trans (hb24.mono HB2.out.size))
  by_cases he : Xe = 0
  · subst he
    obtain ⟨q1, q2, q3, q4, q5⟩ := prV_bwd HX.out.symm
    have hvE : U.vE = 0 := by rw [vE_nz (u := Xv) (by rw [hUz, q1]), q4]
    have hpv : U.pv = l := by rw [← nz_pv, hUz, q5]
    have hUa4 : U.At w4.heap.size w4 := (hUa.below Bw4.out).mono Bw4.out.size
    have HF := Lib.hid (fine hvE)
    have G4 := Lib.hid ((G.out.on RL4.out).base RL4.out.size)
    have HUA := Lib.hid hUa4
    have KU := Lib.hid (fun (W : World) (h : Below w4.heap.size w4 W) => rowB (v := U) Nw4.out h)
    have HRL := Lib.hid (fun (W : World) (h : Below w4.heap.size w4 W) => RL4.out.trans (h.mono RL4.out.size))
    have CG := Lib.hid (show Calls Tryz.prog 23 #[.agg U.cells.toArray] w4 fun e w' => e = .returned (.bool true) ∧ Below w4.heap.size w4 w' from by
      have h := good_any U w4.heap.size w4 hUa4 (Nat.le_refl _)
      rw [hvE] at h
      exact h)
    have CP := Lib.hid (fun (W : World) (h : Below w4.heap.size w4 W) => show Calls Tryz.prog 28 #[.agg U.cells.toArray] W fun e w' => e = .returned (.string s) ∧ Below W.heap.size W w' from by
      have h1 := vprint_any U HF.out.dpr w4.heap.size W (HUA.out.below h) h.size (by have := HF.out.pz; omega) ((G4.out.on h).base h.size).1
      rw [hpv, ← HS.out] at h1
      exact h1)
    have CR := Lib.hid (fun (W : World) (h : Below w4.heap.size w4 W) => show Calls Tryz.prog 30 #[.agg U.cells.toArray] W fun e w' => e = .returned (.string s) ∧ Below W.heap.size W w' from by
      have h1 := rprint_any U w4.heap.size W (HUA.out.below h) h.size (by have := HF.out.pz; omega)
      unfold StrI at h1
      rw [hpv, ← HS.out] at h1
      exact h1)
    clear hUz hUa hb3 hb24 q1 q2 q3 q4 q5 hvE hpv hUa4 HCD HF HUA G4 G
    go_wp2_with (first
      | (with_reducible show wpList _ _ _ _ _ _; refine wpList_store_newW rfl 24 (.tmp 3) (.tmp 13) rfl 24 _ U.cells.toArray rfl rfl (Tryz.valSize' U) (by with_unfolding_all exact VT.four U) U.cells_one ?_; rw [← Hw4.out, ← Hg4.out])
      | (with_reducible show wpList _ _ _ _ _ _; refine wpList_load_allW rfl 24 (.tmp 3) rfl ⟨g4,0,none⟩ rfl U.cells _ Kw4.out Tryz.underlying24 rfl (Tryz.valSize U) ?_))
    refine CG.out.mono ?_
    rintro e x1 ⟨rfl, hx1⟩
    have K1 := Lib.hid (KU.out x1 hx1)
    go_wp2_with (first
      | (with_reducible show wpList _ _ _ _ _ _; refine wpList_loadWanted (by with_unfolding_all rfl) 24 (.tmp 3) rfl ⟨g4,0,none⟩ (by with_unfolding_all rfl) U.cells _ K1.out Tryz.underlying24 rfl (Tryz.valSize U) ?_))
    refine (CP.out x1 hx1).mono ?_
    rintro e x2 ⟨rfl, hx12⟩
    have hx2 := hx1.trans (hx12.mono hx1.size)
    have K2 := Lib.hid (KU.out x2 hx2)
    clear hx12 hx1
    go_wp2_with (first
      | (with_reducible show wpList _ _ _ _ _ _; refine wpList_loadWanted (by with_unfolding_all rfl) 24 (.tmp 3) rfl ⟨g4,0,none⟩ (by with_unfolding_all rfl) U.cells _ K2.out Tryz.underlying24 rfl (Tryz.valSize U) ?_))
    refine (CR.out x2 hx2).mono ?_
    rintro e x3 ⟨rfl, hx23⟩
    have hx3 := hx2.trans (hx23.mono hx2.size)
    clear hx23 hx2
    go_wp2_with fail
    go_ret
    exact ⟨rfl, HRL.out x3 hx3⟩
  · have hq := prV_bad (l := l) (by rw [← HX.out]; exact he)
    rw [← HX.out] at hq
    dsimp only at hq
    have hkd : U.kd = 0 := by rw [← nz_kd, hUz, hq.1]; rfl
    have f0 : w4.cell? ⟨g4, 0, none⟩ = some (.int .i64 0) := by have h := Kw4.out 0 (.int .i64 0) (by rw [cell0, hkd]); rwa [Addr.add_mid] at h
    have he2 : (Xe != 0) = true := by simpa using he
    obtain ⟨_, hq⟩ := hq
    clear hUz hUa hb3 hb24 HCD hkd
    rcases hq with hq | hq | hq
    · subst hq
      clear HX
      go_wp2_with (first
        | (with_reducible show wpList _ _ _ _ _ _; refine wpList_store_newW rfl 24 (.tmp 3) (.tmp 13) rfl 24 _ U.cells.toArray rfl rfl (Tryz.valSize' U) (by with_unfolding_all exact VT.four U) U.cells_one ?_; rw [← Hw4.out, ← Hg4.out]))
      go_ret
      exact ⟨rfl, RL4.out⟩
    · subst hq
      clear HX
      go_wp2_with (first
        | (with_reducible show wpList _ _ _ _ _ _; refine wpList_store_newW rfl 24 (.tmp 3) (.tmp 13) rfl 24 _ U.cells.toArray rfl rfl (Tryz.valSize' U) (by with_unfolding_all exact VT.four U) U.cells_one ?_; rw [← Hw4.out, ← Hg4.out]))
      go_ret
      exact ⟨rfl, RL4.out⟩
    · subst hq
      clear HX
      go_wp2_with (first
        | (with_reducible show wpList _ _ _ _ _ _; refine wpList_store_newW rfl 24 (.tmp 3) (.tmp 13) rfl 24 _ U.cells.toArray rfl rfl (Tryz.valSize' U) (by with_unfolding_all exact VT.four U) U.cells_one ?_; rw [← Hw4.out, ← Hg4.out]))
      go_ret
      exact ⟨rfl, RL4.out⟩
end Go.Proofs.YthfjahagmfgfeaaGreatDoor.Wi
