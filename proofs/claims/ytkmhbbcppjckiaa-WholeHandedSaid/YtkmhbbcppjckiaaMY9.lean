/- Tasks wait for anybody again. -/
import Derived.Test.YtkmhbbcppjckiaaMY8
namespace Go.Proofs.Ytkmhbbcppjckiaa.Ma
open Go Go.RowKit Go.Proofs.Ytkmhbbcppjckiaa
open Go.Proofs.Ytkmhbbcppjckiaa.Hp (i64wf K3 wf3)
open Go.Proofs.Ytkmhbbcppjckiaa.Qu
open Go.Proofs.Ytkmhbbcppjckiaa.Dk (Frm below_drewN)
set_option linter.unusedVariables false
set_option linter.unusedSimpArgs false
set_option maxRecDepth 100000
variable {w w' wx : World} {X : Nat → Prop} {b gm c n : Nat} {M : MM} {now : Int} {S : Int → Bool} {D : Nat → Bool}
theorem wf_kh {i : Nat} (h : i ≤ 1000) : wf3 (kh i) := ⟨WalkArith.wf_i64 (n := (i : Int)) ⟨by omega, by omega⟩, rfl, rfl⟩
theorem KX.trans {w1 w2 w3 : World} (h : KX X w1 w2) (k : KX X w2 w3) : KX X w1 w3 := ⟨fun q hq => (k.keep q hq).trans (h.keep q hq), Nat.le_trans h.size k.size⟩
theorem KX.refl (w : World) : KX X w w := ⟨fun _ _ => rfl, Nat.le_refl _⟩
def agRel (w : World) (b gm : Nat) (X : Nat → Prop) (now : Int) (c : Nat) (S : Int → Bool) (n : Nat) (D : Nat → Bool) (F : List Ls) (MF : MM) (wx : World) (iv : Value) (wr : World) : Prop :=
  ∃ (i : Nat) (M : MM), i ≤ F.length ∧ iv = .int .i64 (i : Int) ∧ agn now (F.drop i) M = MF ∧ HJ n M D now (F.drop i) ∧ HX w b gm X M now c S wr ∧ KX X wx wr
theorem HX.lessK {X' : Nat → Prop} (h : KX X wx w') (hX : ∀ q, X' q → X q) : KX X' wx w' := ⟨fun q hq => h.keep q (hX q hq), h.size⟩
theorem hx_again (h : HX w b gm X M now c S wx) {F : List Ls} (hJ : HJ n M D now F) (hn : n ≤ 60) (hw : i64wf now) {B0 : Nat} {a1 : Option Addr} {c1 : Nat} (hR : LRow wx B0 a1 c1 F) (hXR : ∀ q, (Value.slice a1 F.length c1).ownBlock = some q → X q) (hF : F.length ≤ 1000) :
    Calls Try.prog 45 #[.pointer (some ⟨b, 0, none⟩), .slice a1 F.length c1] wx fun e w' => e = .returned (.tuple #[]) ∧ HX w b gm X (agn now F M) now c S w' ∧ KX X wx w' := by
  obtain ⟨MF, hMF⟩ : ∃ MF, MF = agn now F M := ⟨_, rfl⟩
  rw [← hMF]
  obtain ⟨m, hm⟩ : ∃ m, m = F.length := ⟨_, rfl⟩
  have hRm : wx.ownsRow B0 80 6 (.slice a1 m c1) m (lss F) := by rw [hm]; exact hR
  rw [← hm] at hXR hF ⊢
  have HH := Lib.hid h
  have HJ0 := Lib.hid hJ
  have HR := Lib.hid hRm
  have HXR := Lib.hid hXR
  have HMF := Lib.hid hMF
  have HM := Lib.hid hm
  have SL := Lib.hid (fun l : Ls => lsSizeA l)
  have OL := Lib.hid (fun l : Ls => l.oneA)
  clear h hJ hRm hXR hMF hm hR
  go_enter Try.func45, Try.ntmps45
  go_wp2_with fail
  go_loopw [8] (fun iv wr => agRel w b gm X now c S n D F MF wx iv wr) (fun iv _ => m - (intOf iv).toNat)
  case atStart => exact ⟨0, M, Nat.zero_le _, rfl, HMF.out.symm, HJ0.out, HH.out, KX.refl _⟩
  case round =>
    obtain ⟨wq, rfl⟩ : ∃ wq : World, wq = wr := ⟨_, rfl⟩
    obtain ⟨i, M1, hi, rfl, hag, hj, hx, hk⟩ := hrel
    by_cases hin : i < m
    · have hiF : i < F.length := by rw [← HM.out]; exact hin
      obtain ⟨l, hl⟩ : ∃ l, F[i]? = some l := ⟨_, List.getElem?_eq_getElem hiF⟩
      rw [dropK hl] at hag hj
      rw [agn] at hag
      have hkey : ∃ q, q < n ∧ l.key = kh q := by
        obtain ⟨q, hq, e, _⟩ := hj.key (x := l.key) (by
          have : 0 < ((l :: F.drop (i + 1)).map Ls.key).count l.key := by simp
          omega)
        exact ⟨q, hq, e⟩
      have hwf : wf3 l.key := by
        obtain ⟨q, hq, e⟩ := hkey
        rw [e]
        exact wf_kh (by omega)
      have hag2 := hj.again (by omega)
      obtain ⟨gp, hgp, _, hglt, _⟩ := own_cellK HR.out (lss_at F i l hl 0 _ rfl)
      subst hgp
      have gpX : X gp := HXR.out gp rfl
      have KXc : ∀ j v, l.cs[j]? = some v → wq.cell? ((⟨gp, i * 6, none⟩ : Addr).add j) = some v := by
        intro j v hj
        obtain ⟨g2, e2, _, hlt, hc⟩ := own_cellK HR.out (lss_at F i l hl j v hj)
        injection e2 with e2
        injection e2 with e2
        subst e2
        rw [Addr.add_mid, World.cell?_of_block (w := wx) (a := ⟨gp, i * 6 + j, none⟩) (hk.keep gp gpX)]
        exact hc
      obtain ⟨w5, hw5⟩ : ∃ w5, w5 = wq.alloc (.cells l.cs.toArray 80) := ⟨_, rfl⟩
      obtain ⟨g5, hg5⟩ : ∃ g, g = wq.heap.size := ⟨_, rfl⟩
      have b5 : Below wq.heap.size wq w5 := by rw [hw5]; exact (Below.refl _ _).alloc (Nat.le_refl _) _
      have n5 : w5.heap[g5]? = some (.cells l.cs.toArray 80 (0, 0)) := by rw [hw5, hg5]; exact heap_alloc_new _ _
      have KTf := Lib.hid (fun (W : World) (hW : W.heap[g5]? = some (.cells l.cs.toArray 80 (0, 0))) => show ∀ r v, (kcs l.key)[r]? = some v → W.cell? ((⟨g5, 1, none⟩ : Addr).add r) = some v from fun r v hr => by
        rw [Addr.add_mid, cell_of_row W g5 (1 + r) _ _ _ hW]
        match r, hr with
        | 0, hr => exact hr
        | 1, hr => exact hr
        | 2, hr => exact hr
        | r + 3, hr => simp [kcs] at hr)
      obtain ⟨hx5, hk5⟩ := hx.below b5
      obtain ⟨cn, fz, cm⟩ := hx5.cells
      have AD := Lib.hid (fun (W : World) (hW : Below w5.heap.size w5 W) => hx_add (hx5.below hW).1 l.key hwf 0 now hw (by have := hj.few; omega))
      have HN5 := Lib.hid n5
      have HW5 := Lib.hid hw5
      have HG5 := Lib.hid hg5
      have HAG := Lib.hid hag
      have HJ2 := Lib.hid hag2.2
      have HK5 := Lib.hid (hk.trans hk5)
      have hi2 : (i : Int) < (m : Int) := by omega
      have h0 : (0 : Int) ≤ (i : Int) := by omega
      clear hag hj hx hk hl hglt gpX hx5 hk5 b5 n5 hw5 hg5 hag2 fz cm hkey
      go_upto_region 3 with (first
        | ((with_reducible show wpList _ _ _ _ _ _); refine wpList_load_allW rfl 80 (.tmp 10) rfl ⟨gp, i * 6, none⟩ rfl l.cs _ KXc Try.underlying80 rfl (lsSize _) ?_)
        | ((with_reducible show wpList _ _ _ _ _ _); refine wpList_store_newW rfl 80 (.tmp 5) (.tmp 11) rfl 80 _ l.cs.toArray (by with_unfolding_all rfl) (by with_unfolding_all rfl) (SL.out l) rfl (OL.out l) ?_))
      rw [← HW5.out, ← HG5.out]
      simp only [Act.put, List.setIfInBounds_toArray, List.set_cons_zero, List.set_cons_succ, List.getElem_toArray, List.getElem_cons_zero, List.getElem_cons_succ]
      refine wp_region_quiet_tail 9 (by kernel_rfl) (by kernel_rfl) ?_
      simp only [List.take_succ_cons, List.take_zero, List.drop_succ_cons, List.drop_zero]
      repeat (go_big_quiet_step (fail))
      refine wpQuiet_loadG (by kernel_rfl) 32 (.tmp 15) rfl ⟨g5, 1, none⟩ rfl (kcs l.key) _ (fun w' hC => by obtain ⟨nl, rfl⟩ := hC; exact KTf.out _ HN5.out) Try.underlying32 rfl (tkSize _) ?_
      simp only [Act.put, List.setIfInBounds_toArray, List.set_cons_zero, List.set_cons_succ, List.getElem_toArray, List.getElem_cons_zero, List.getElem_cons_succ]
      repeat (go_big_quiet_step (fail))
      refine wpQuiet_nil ?_
      intro _ hw'
      obtain ⟨nq, hw''⟩ := hw'
      subst hw''
      have B6 := Lib.hid (below_drewN (Below.refl w5.heap.size w5) nq)
      obtain ⟨w6, hw6⟩ : ∃ x, x = w5.drewN nq := ⟨_, rfl⟩
      rw [← hw6] at B6 ⊢
      have K6 := Lib.hid (show KX X w5 w6 from by rw [hw6]; exact ⟨fun q _ => rfl, Nat.le_refl _⟩)
      clear hw6
      go_wp2_with (first
        | ((with_reducible refine (AD.out _ B6.out).mono ?_); rintro e w7 ⟨rfl, hx7, hk7⟩))
      exact ⟨⟨i + 1, _, by rw [← HM.out]; omega, rfl, HAG.out, HJ2.out, hx7, HK5.out.trans (K6.out.trans hk7)⟩, by simp [intOf]; omega⟩
    · have hin2 : ¬ (i : Int) < (m : Int) := by omega
      have hie : i = F.length := by have := HM.out; omega
      rw [hie, List.drop_length] at hag
      have hMM : M1 = MF := hag
      subst hMM
      have HXx := Lib.hid hx
      have HKx := Lib.hid hk
      clear hag hj hx hk hie
      go_wp2_with fail
      go_end0
      exact ⟨rfl, HXx.out, HKx.out⟩
end Go.Proofs.Ytkmhbbcppjckiaa.Ma
