/- The walk of CommandDecodes. -/
import Derived.Test.YtnfobnnbeefeeaaGreatDoorGX
import Derived.Test.YtnfobnnbeefeeaaGreatDoorFL
namespace Go.Proofs.YtnfobnnbeefeeaaGreatDoor.Wi
open Go Go.RowKit
set_option linter.unusedVariables false
set_option linter.unusedSimpArgs false
theorem cbL_nz : ∀ l : List Cm, cbL (l.map Cm.nz) = cbL l
  | [] => rfl
  | c :: t => by
    have h := cbL_nz t
    unfold cbL at h ⊢
    simp only [List.map_cons, List.flatten_cons, Cm.nz_cb, h]
theorem cbA_nz (l : List Cm) : cbA (l.map Cm.nz) = cbA l := by
  unfold cbA
  rw [List.length_map, cbL_nz]
theorem dcC_bad {xs : List UInt8} {X : List Cm × Int} (h : X = dcC xs) (he : X.2 ≠ 0) : X.1 = [] := by
  subst h
  unfold dcC at he ⊢
  dsimp only at he ⊢
  rw [if_neg he]
set_option maxHeartbeats 8000000 in
set_option maxRecDepth 100000 in
theorem cdecodes_any (ao : Option Addr) (c : Nat) (xs : List UInt8) (w : World) (hS : Sl w (.slice ao xs.length c) xs) (hg : CB w.heap.size w) : Calls Tryz.prog 5 #[.slice ao xs.length c] w fun e w' => e = .returned (.bool true) ∧ Below w.heap.size w w' := by
  have CH := Lib.hid (wants_any w hg)
  have SL := Lib.hid (fun (W : World) (h : Below w.heap.size w W) => hS.below h)
  have G := Lib.hid hg
  obtain ⟨n, hn⟩ : ∃ n, n = xs.length := ⟨_, rfl⟩
  rw [← hn] at SL ⊢
  have HN := Lib.hid hn
  clear hS hg hn
  go_enter Tryz.func5, Tryz.ntmps5
  go_wp2_with fail
  refine CH.out.mono ?_
  rintro e w2 ⟨rfl, hb2⟩
  have HB2 := Lib.hid hb2
  clear hb2
  by_cases h2000 : (1000 : Int) < (n : Int)
  · go_wp2_with fail
    go_ret
    exact ⟨rfl, HB2.out⟩
  have h47 : n ≤ 140737488355328 := by omega
  have CD := cdecode_any (w := w2) (ao := ao) (c := c) (xs := xs) (by have h := SL.out w2 HB2.out; rw [HN.out] at h; exact h) (by rw [← HN.out]; exact h47) ((G.out.on HB2.out).base HB2.out.size)
  obtain ⟨X, hX⟩ : ∃ X, X = dcC xs := ⟨_, rfl⟩
  rw [← hX, ← HN.out] at CD
  have hbad := dcC_bad hX
  obtain ⟨Xv, Xe⟩ := X
  have HX := Lib.hid hX
  have HCD := Lib.hid CD
  have HBAD := Lib.hid hbad
  clear hX CD CH hbad
  go_wp2_with fail
  refine HCD.out.mono ?_
  rintro e w3 ⟨ao3, c3, m, rfl, hm, hcl, hb3⟩
  dsimp only at hm
  have RL3 := Lib.hid (HB2.out.trans (hb3.mono HB2.out.size))
  by_cases he : Xe = 0
  · subst he
    obtain ⟨q1, q2, q3, q4⟩ := dcC_bwd HX.out.symm
    have hall : allE m = 0 := by rw [← allE_nz m, hm, q3]
    have hcb : cbA m = xs := by rw [← cbA_nz m, hm, q4]
    have HALL := Lib.hid hall
    have HCB := Lib.hid hcb
    have HCL := Lib.hid hcl
    have CE := Lib.hid (cencode_any ao3 c3 m w3.heap.size w3 hcl (Nat.le_refl _) ((G.out.on RL3.out).base RL3.out.size))
    clear hm hcl hb3 q1 q2 q3 q4 hall hcb HCD
    obtain ⟨ml, hml⟩ : ∃ ml, ml = m.length := ⟨_, rfl⟩
    rw [← hml] at CE ⊢
    have HML := Lib.hid hml
    clear hml
    go_wp2_with fail
    refine CE.out.mono ?_
    rintro e w5 ⟨hb5, hP⟩
    rw [if_pos HALL.out, HCB.out, ← HN.out] at hP
    obtain ⟨ao5, c5, rfl, own5⟩ := hP
    have RL5 := Lib.hid (RL3.out.trans (hb5.mono RL3.out.size))
    have CG := rcall_any ao3 c3 m w3.heap.size w5 (HCL.out.below hb5) hb5.size
    rw [HALL.out, ← HML.out] at CG
    have HCG := Lib.hid CG
    have OWN := Lib.hid own5
    obtain ⟨T, hT⟩ : ∃ T, T = str xs := ⟨_, rfl⟩
    have HT := Lib.hid hT
    have HRL := Lib.hid (fun (W : World) (h : Below w5.heap.size w5 W) => RL5.out.trans (h.mono RL5.out.size))
    clear CG own5 CE hT hb5
    go_wp2_with fail
    refine HCG.out.mono ?_
    rintro e w6 ⟨rfl, hb6⟩
    have RL6 := Lib.hid (HRL.out w6 hb6)
    have c1 : (convert 36 9 (.slice ao5 n c5)).run Tryz.prog w6 = .ok (.string T) w6 := by
      rw [HT.out]
      exact own_conv (own_belowK OWN.out hb6) HN.out.symm
    have c2 : (convert 36 9 (.slice ao n c)).run Tryz.prog w6 = .ok (.string T) w6 := by
      have h := SL.out w6 RL6.out
      rw [HT.out]
      exact (by rw [HN.out] at h ⊢; exact h.convert.1)
    clear hb6
    go_wp2_with fail
    go_ret
    exact ⟨rfl, RL6.out⟩
  · have hXv : Xv = [] := HBAD.out he
    have he2 : (Xe != 0) = true := by simpa using he
    have hm0 : m = [] := by rw [hXv] at hm; simpa using hm
    subst hm0
    clear hXv hm hcl hb3 HCD
    go_wp2_with fail
    go_ret
    exact ⟨rfl, RL3.out⟩
end Go.Proofs.YtnfobnnbeefeeaaGreatDoor.Wi
