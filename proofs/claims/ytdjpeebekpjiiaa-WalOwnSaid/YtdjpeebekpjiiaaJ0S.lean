/- WalOwn: what the caller holds is the caller's own. -/
import Derived.Test.YtdjpeebekpjiiaaJ0R
namespace Go.Proofs.Ytdjpeebekpjiiaa.Dk
open Go Go.RowKit
set_option linter.unusedVariables false
set_option linter.unusedSimpArgs false
/-- Numbers of one byte in a block of their own, of which the first n are read. -/
structure ByRow (w0 w : World) (g : Nat) (N n : Nat) : Prop where
  row : ∃ cur : Array Value, w.heap[g]? = some (.cells cur 5 (0, 0)) ∧ cur.size = N ∧ ∀ j, j < n → ∃ a : Int, cur[j]? = some (.int .u8 a)
  frm : Frm (fun q => q = g) w0 w
theorem LogS.frame {w w' : World} {B lg d r k g m n : Nat} {x : DS} {N count : Nat} {S : List UInt8} {T : List UInt8} {begin gr : Nat} {wv : Value} {W : List (List UInt8)} (h : LogS w B lg d r k g m n x N count S 112 T begin gr wv W) {gm : Nat} {cur : Array Value} (hg : w.heap[gm]? = some (.cells cur 5 (0, 0))) {B2 : Nat} (hW : WaitD w B2 wv W) (hB2 : gm < B2) (hf : Frm (fun q => q = gm) w w') : LogS w' B lg d r k g m n x N count S 112 T begin gr wv W := by
  have n1 : ¬ gm = lg := by
    rintro rfl
    have := h.lgat
    unfold LgAt at this
    rw [hg] at this
    injection this with this
    injection this with _ this _
    exact absurd this (by decide)
  have n2 : ¬ own3 d g m gm := own3_of h.disk hg (by decide) (by decide)
  have n3 : ¬ gm = r := by
    rintro rfl
    have := h.ring.blk
    rw [hg] at this
    injection this with this
    injection this with _ this _
    exact absurd this (by decide)
  have n4 : ¬ gm = k := by
    rintro rfl
    have := h.ring.row
    rw [hg] at this
    injection this with this
    injection this with _ this _
    exact absurd this (by decide)
  have hW' : WaitD w' B wv W := by
    obtain ⟨vs, h1, h2, h3⟩ := h.wait
    obtain ⟨vs2, e1, e2, e3⟩ := hW
    have keep : ∀ {e : TypeId} {v : Value} {nn : Nat} {xs ys : List Value}, w.ownsRow B e 1 v nn xs → w.ownsRow B2 e 1 v nn ys → w'.ownsRow B e 1 v nn xs := fun {e v nn xs ys} ha hb => own_keepK ha fun b hb2 hlt => hf.block b hlt fun e4 => by
      have e4 : b = gm := e4
      have := (hb.lt b hb2).1
      omega
    have hvv : vs2 = vs := by
      rcases h2.2 with ⟨rfl, h0⟩ | ⟨g1, cap1, cur1, rfl, _, hh1, _, _, _, ht1⟩
      · have a1 : vs.length = 0 := by omega
        have a2 : vs2.length = 0 := by omega
        rw [List.length_eq_zero_iff.1 a1, List.length_eq_zero_iff.1 a2]
      · rcases e2.2 with ⟨e5, _⟩ | ⟨g2, cap2, cur2, e5, _, hh2, _, _, _, ht2⟩
        · cases e5
        · cases e5
          rw [hh1] at hh2
          cases hh2
          rw [← ht1, ← ht2]
    subst hvv
    exact ⟨vs2, h1, keep h2 e2, fun j l u hl hu => ⟨keep (h3 j l u hl hu).1 (e3 j l u hl hu).1, (h3 j l u hl hu).2⟩⟩
  exact ⟨h.lgat.keep (hf.block lg h.lgat.lt (fun e => n1 e.symm)), h.ring.frame hf (fun e => n3 e.symm) (fun e => n4 e.symm), h.disk.frame hf (fun e => n2 (.inl e.symm)) (fun e => n2 (.inr (.inl e.symm))) (fun e => n2 (.inr (.inr e.symm))), h.logd, hW', h.bas, h.cnt, h.few, h.sep⟩
theorem ByRow.get {w0 w : World} {g N n j : Nat} (h : ByRow w0 w g N n) (hj : j < n) : ∃ a : Int, w.cell? ⟨g, j, none⟩ = some (.int .u8 a) ∧ w.frozen? ⟨g, j, none⟩ = false := by
  obtain ⟨cur, hr, hs, hc⟩ := h.row
  obtain ⟨a, ha⟩ := hc j hj
  exact ⟨a, by rw [cell_of_row w g j _ _ _ hr]; exact ha, frozen_of_row w g j _ _ hr⟩
theorem ByRow.set {w0 w : World} {g N n : Nat} (h : ByRow w0 w g N n) (j : Nat) (b : Int) : ByRow w0 (w.setCell ⟨g, j, none⟩ (.int .u8 b)) g N n := by
  obtain ⟨cur, hr, hs, hc⟩ := h.row
  refine ⟨⟨cur.setIfInBounds j (.int .u8 b), Go.Joins.block_setCell (i := j) hr _, by rw [Array.size_setIfInBounds]; exact hs, fun i hi => ?_⟩, h.frm.setCell (p := ⟨g, j, none⟩) (.inl rfl) _⟩
  rw [Array.getElem?_setIfInBounds]
  split
  · split
    · exact ⟨b, rfl⟩
    · obtain ⟨a, ha⟩ := hc i hi
      have := (Array.getElem?_eq_some_iff.1 ha).1
      omega
  · exact hc i hi
theorem wsubmit2 {w : World} {B lg d r k g m n : Nat} {x : DS} {N count : Nat} {S : List UInt8} {t : TypeId} {T : List UInt8} {begin gr : Nat} (h : LogS w B lg d r k g m n x N count S t T begin gr (.slice none 0 0) []) (hB : B ≤ w.heap.size) {gb off nb c : Nat} {l : List UInt8} (hn : l.length = nb) (hr : w.rangeAt gb off (bvs l)) (hn2 : nb ≤ 2039) :
    Calls Try.prog 24 #[.pointer (some ⟨lg, 0, none⟩), .slice (some ⟨gb, off, none⟩) nb c] w fun e w' => e = .returned (.int .i64 0) ∧ ∃ ao' pc', LogS w' B lg d r k g m n x N count S t T begin gr (.slice ao' 1 pc') [l] ∧ WaitD w' w.heap.size (.slice ao' 1 pc') [l] ∧ Frm (fun q => q = lg) w w' := by
  refine (wsubmit_any (W := []) (B := w.heap.size) h.lgat (WaitD.nil w w.heap.size) (Nat.le_refl _) hn hr hn2 (by decide)).mono ?_
  rintro e w' ⟨rfl, ao', pc', h1, h2, h3, h4⟩
  have hR := h.ring.frame h4 (h.free _ (.inr (.inl rfl))) (h.free _ (.inr (.inr rfl)))
  have hW : WaitD w' B (.slice ao' 1 pc') [l] := by
    obtain ⟨vs, e1, e2, e3⟩ := h2
    exact ⟨vs, e1, own_base e2 hB, fun j l u hl hu => ⟨own_base (e3 j l u hl hu).1 hB, (e3 j l u hl hu).2⟩⟩
  refine ⟨rfl, ao', pc', ⟨h1, hR, h.disk.frame h4 (h.free _ (.inl (.inl rfl))) (h.free _ (.inl (.inr (.inl rfl)))) (h.free _ (.inl (.inr (.inr rfl)))), h.logd, hW, h.bas, h.cnt, h.few, ⟨h.sep.1, sep_of hR hW (by simp)⟩⟩, h2, h4.mono fun q _ e => e.elim id (fun e => by cases e)⟩
set_option maxRecDepth 100000 in
set_option maxHeartbeats 8000000 in
theorem own_any {w : World} {ao : Option Addr} {cb : Nat} {F : List UInt8} (hF : Sl w (.slice ao F.length cb) F) : Calls Try.prog 7 #[.slice ao F.length cb] w fun e w' => e = .returned (.bool true) ∧ Below w.heap.size w w' := by
  obtain ⟨i0, hi0, hz0, hz1, hz2⟩ := info_parts Try.infoU8
  have LG := Lib.hid (logs_any w)
  have HF := Lib.hid hF
  clear hF
  by_cases hbig : 500 < F.length
  · have hbi : (500 : Int) < (F.length : Int) := by omega
    go_enter Try.func7, Try.ntmps7
    go_wp2_with fail
    refine LG.out.mono ?_
    rintro e w1 ⟨rfl, hb1⟩
    go_wp2_with fail
    go_ret
    exact ⟨rfl, hb1⟩
  · have hbi : ¬ (500 : Int) < (F.length : Int) := by omega
    go_enter Try.func7, Try.ntmps7
    go_wp2_with fail
    refine LG.out.mono ?_
    rintro e w1 ⟨rfl, hb1⟩
    have NW := Lib.hid (new_any 34 (by decide) (by decide) w1)
    have B1 := Lib.hid hb1
    clear hb1 LG
    go_wp2_with fail
    refine NW.out.mono ?_
    rintro e w2 ⟨d, g, m, rfl, hD2, hb2, hd, hg, hm⟩
    have hz := B1.out.size
    have hz2' := hb2.size
    have OP := wopen_any (B := w.heap.size) hD2 (logD_new (N := 34) (count := 32) (by decide) (by decide)) (by decide) (by decide) (by decide) (by decide) (fs := []) rfl (fun f hf => by cases hf) (by decide) (by omega) ⟨by omega, by omega, by omega⟩
    have HOP := Lib.hid OP
    have B2 := Lib.hid (B1.out.trans (hb2.mono hz))
    clear OP hD2 hb2 hd hg hm hz hz2' NW
    go_wp2_with fail
    refine HOP.out.mono ?_
    rintro e w3 ⟨lg, r, k, S, v, rfl, hL3, hF3, _, _, _, hb3⟩
    obtain ⟨vs3, f1, f2, f3⟩ := hF3
    obtain ⟨a3, c3, hv3⟩ := own_slK f2
    subst hv3
    have B3 := Lib.hid (B2.out.trans (hb3.mono B2.out.size))
    have L3 := Lib.hid hL3
    clear f1 f2 f3 hL3 hb3 HOP
    have b4 : Below w3.heap.size w3 (w3.alloc (.cells #[] 5)) := (Below.refl _ _).alloc (Nat.le_refl _) _
    have OWN0 := Lib.hid (show (w3.alloc (.cells #[] 5)).ownsRow w3.heap.size 5 1 (.slice (some ⟨w3.heap.size, 0, none⟩) 0 0) 0 [] from ⟨rfl, .inr ⟨w3.heap.size, 0, #[], rfl, Nat.le_refl _, heap_alloc_new _ _, Nat.le_refl _, Nat.zero_le _, rfl, rfl⟩⟩)
    have SRC := Lib.hid (show Src Try.prog 1 37 (.slice ao F.length cb) F.length (bvs F) (w3.alloc (.cells #[] 5)) from by
      obtain ⟨ao', c', e1, e2, e3⟩ := HF.out.below (B3.out.trans (b4.mono B3.out.size))
      cases e1
      exact Src.any (P := Try.prog) _ (e' := 5) (size := 1) Try.underlying37 ao F.length cb (bvs F) (by simp [bvs]) (fun h => by rw [e2 h]; rfl) e3 (bvs_one F))
    have B4 := Lib.hid (B3.out.trans (b4.mono B3.out.size))
    have Z4 := Lib.hid b4.size
    have L4 := Lib.hid (L3.out.low b4)
    clear b4
    go_upto_region 12 with (at_builtin; refine wpList_append_own_src _ rfl (.tmp 35) (.tmp 36) 37 37 rfl w3.heap.size 5 i0 _ 1 1 Try.underlying37 hi0 hz0 hz1 hz2 rfl _ _ _ rfl OWN0.out _ F.length (bvs F) rfl SRC.out (by unfold maxLen; omega) (by omega) Z4.out ?_)
    rintro v5 w5 ⟨ho5, hgr5, hat5⟩
    have b5 : Below w3.heap.size w3 w5 := ((Below.refl w3.heap.size w3).alloc (Nat.le_refl _) (.cells #[] 5)).grown hgr5 Z4.out (fun k e => by cases e; exact Nat.le_refl _)
    rcases ho5.2 with ⟨e5, _⟩ | ⟨gm, cm, cur, rfl, hgm, hrow5, hcm, _, hcs, htk⟩
    · rw [e5] at hat5
      rcases hat5 with e | e <;> cases e
    rw [Nat.mul_one] at htk hcs
    have B5 := Lib.hid (B3.out.trans (b5.mono B3.out.size))
    have L5 := L3.out.low b5
    have SB := Lib.hid (wsubmit2 L5 B5.out.size (c := cm) (nb := F.length) (l := F) rfl (fun i u hi => by
      rw [cell_of_row w5 gm (0 + i) _ _ _ hrow5, Nat.zero_add, ← hi, ← htk, List.getElem?_take_of_lt (by have := (List.getElem?_eq_some_iff.1 hi).1; simpa [bvs] using this), Array.getElem?_toList]) (by omega))
    have HROW := Lib.hid hrow5
    have HCS := Lib.hid hcs
    have HTK := Lib.hid htk
    have HGM := Lib.hid (show w.heap.size ≤ gm from Nat.le_trans B3.out.size hgm)
    have L5' := Lib.hid L5
    clear ho5 hgr5 hat5 b5 hrow5 hcs htk hgm L5 OWN0 SRC L4 B4 Z4
    go_wp2_with fail
    refine SB.out.mono ?_
    rintro e w6 ⟨rfl, ao6, pc6, hL6, hW6, hF6⟩
    have nlg : gm ≠ lg := by
      rintro rfl
      have := L5'.out.lgat
      unfold LgAt at this
      rw [HROW.out] at this
      injection this with this
      injection this with _ this _
      exact absurd this (by decide)
    have hrow6 : w6.heap[gm]? = some (.cells cur 5 (0, 0)) := (hF6.block gm (lt_of_row HROW.out) nlg).trans HROW.out
    have R0 := Lib.hid (show ByRow w6 w6 gm cm F.length from ⟨⟨cur, hrow6, HCS.out, fun j hj => by
      have h1 : (bvs F)[j]? = some (bv F[j]) := by simp [bvs, hj]
      rw [← HTK.out, List.getElem?_take_of_lt hj, Array.getElem?_toList] at h1
      exact ⟨_, h1⟩⟩, Frm.refl _ _⟩)
    have L6 := Lib.hid hL6
    have W6 := Lib.hid hW6
    have HR6 := Lib.hid hrow6
    have B6 := Lib.hid (B5.out.trans (hF6.below (B := w.heap.size) (fun i _ e => by rw [e]; exact hL6.bas.1) B5.out.size))
    have GL := Lib.hid (lt_of_row HROW.out)
    clear hL6 hW6 hF6 nlg hrow6 SB
    go_wp2_with fail
    go_loopw [43] (fun v wr => ∃ j, v = .int .i64 ((j : Nat) : Int) ∧ j ≤ F.length ∧ ByRow w6 wr gm cm F.length) (fun v _ => F.length - (intOf v).toNat)
    case atStart => exact ⟨0, rfl, Nat.zero_le _, R0.out⟩
    case round =>
      obtain ⟨wo, rfl⟩ : ∃ wo : World, wo = wr := ⟨_, rfl⟩
      obtain ⟨j, rfl, hjn, hby⟩ := hrel
      by_cases hj : j < F.length
      · have hji : (j : Int) < (F.length : Int) := by omega
        obtain ⟨a, hc, hfz⟩ := hby.get hj
        have HBY := Lib.hid hby
        clear hby
        go_wp2_with fail
        exact ⟨⟨j + 1, by rw [Int.natCast_add]; rfl, by omega, HBY.out.set j _⟩, by simp [intOf]; omega⟩
      · have hji : ¬ (j : Int) < (F.length : Int) := by omega
        have HBY := Lib.hid hby
        clear hby
        have L7 := L6.out.frame HR6.out W6.out GL.out HBY.out.frm
        have B7 := Lib.hid (B6.out.trans (HBY.out.frm.below (B := w.heap.size) (fun i _ e => by rw [e]; exact HGM.out) B6.out.size))
        have hr0 : restW 0 F.length = 0 := by unfold restW toSeg; rw [if_neg (by omega)]
        have hfit : fitN ([] : List UInt8).length (leftN 0 ([] : List UInt8).length 32) ([] : List UInt8).length [F] = 1 := by
          rw [show leftN 0 ([] : List UInt8).length 32 = 4096 by decide]
          simp only [List.length_nil]
          rw [fitN, hr0, if_pos (by omega)]
          rfl
        have CO := wcommit_any (W := [F]) L7 (by decide) (by decide) (by decide) B7.out.size (by simp) (fun l hl => by simp at hl; subst hl; omega)
        have HCO := Lib.hid CO
        have HR0 := Lib.hid hr0
        have HFIT := Lib.hid hfit
        clear CO L7 hr0 hfit
        go_wp2_with fail
        refine HCO.out.mono ?_
        rintro e w8 ⟨r8, k8, S8, t8, x8, n8, ao8, c8, he8, hL8, hn8, hb8⟩
        rw [HFIT.out] at he8 hL8
        subst he8
        obtain ⟨T1, hT1⟩ : ∃ T1, T1 = encW smW 0 [⟨1, F⟩] := ⟨_, rfl⟩
        have hl1 : T1.length = 9 + F.length := by
          have h1 := endW_eq smW [⟨1, F⟩] 0
          rw [← hT1, Nat.zero_add] at h1
          rw [← h1]
          simp only [endW, HR0.out]
          omega
        have hL8' : LogS w8 w.heap.size lg d r8 k8 g m n8 x8 34 32 S8 t8 T1 0 2 (.slice ao8 0 c8) [] := by rw [hT1]; exact hL8
        have L8 := Lib.hid hL8'
        have B8 := Lib.hid (B7.out.trans hb8)
        have OPN := Lib.hid (fun (wx : World) (hb : Below w8.heap.size w8 wx) => wopen_any (w := wx) (B := w.heap.size) (hL8'.low hb).disk hL8'.logd (by decide) (by decide) (by decide) (by omega) (fs := [⟨1, F⟩]) (by rw [hT1]; rfl) (fun f hf => by
          simp only [List.mem_cons, List.not_mem_nil, or_false] at hf
          subst hf
          exact ⟨by show 1 ≤ 1; decide, by show 1 ≤ 3; decide, by show F.length ≤ 2039; omega⟩) (by unfold thereN; split <;> omega) (Nat.le_trans (B7.out.trans hb8).size hb.size) ⟨hL8'.bas.2.1, hL8'.bas.2.2.1, hL8'.bas.2.2.2⟩)
        clear hL8 hL8' hn8 hb8 hT1 hl1 HCO
        go_wp2_with fail
        refine (OPN.out w8 (Below.refl _ _)).mono ?_
        rintro e w9 ⟨lg9, r9, k9, S9, v9, rfl, _, hF9, _, _, _, hb9⟩
        obtain ⟨vs9, e1, e2, e3⟩ := hF9
        obtain ⟨u, rfl⟩ : ∃ u, vs9 = [u] := List.length_eq_one_iff.1 e1
        have hu : w9.ownsRow w8.heap.size 5 1 u F.length (bvs F) := e3 0 ⟨1, F⟩ u rfl rfl
        rcases e2.2 with ⟨_, e0⟩ | ⟨gv, capv, curv, rfl, hgv, hrowv, hcv, _, hsv, htv⟩
        · cases e0
        have cv1 : w9.cell? ⟨gv, 1, none⟩ = some u := by
          have h1 : (fcs [⟨1, F⟩] [u])[1]? = some u := rfl
          rw [← htv, List.getElem?_take_of_lt (by simp), Array.getElem?_toList] at h1
          rw [cell_of_row w9 gv 1 _ _ _ hrowv]
          exact h1
        have hcvi : (1 : Int) ≤ (capv : Int) := by have : 1 ≤ capv := hcv; omega
        obtain ⟨gd, cd, uo, uc, rfl, hgd, hby9⟩ : ∃ gd cd uo uc, u = .slice uo F.length uc ∧ w8.heap.size ≤ gd ∧ (0 < F.length → uo = some ⟨gd, 0, none⟩ ∧ ByRow w9 w9 gd cd F.length) := by
          rcases hu.2 with ⟨rfl, h0⟩ | ⟨gd, cd, curd, rfl, hgd, hrd, hnd, _, hsd, htd⟩
          · exact ⟨w8.heap.size, 0, none, 0, by rw [h0], Nat.le_refl _, fun h => by omega⟩
          · refine ⟨gd, cd, _, cd, rfl, hgd, fun _ => ⟨rfl, ⟨⟨curd, hrd, by rw [hsd, Nat.mul_one], fun j hj => ?_⟩, Frm.refl _ _⟩⟩⟩
            have h1 : (bvs F)[j]? = some (bv F[j]) := by simp [bvs, hj]
            rw [← htd, List.getElem?_take_of_lt (by omega), Array.getElem?_toList] at h1
            exact ⟨_, h1⟩
        have HB9 := Lib.hid hb9
        have HGD := Lib.hid hgd
        have HBY9 := Lib.hid hby9
        have HRV := Lib.hid hrowv
        have CV1 := Lib.hid cv1
        clear e1 e2 e3 hu hgv hrowv hsv htv hb9 hgd hby9
        go_wp2_with fail
        go_loopw [69] (fun v wr => ∃ j, v = .int .i64 ((j : Nat) : Int) ∧ j ≤ F.length ∧ Frm (fun q => q = gd) w9 wr ∧ (0 < F.length → ByRow w9 wr gd cd F.length)) (fun v _ => F.length - (intOf v).toNat)
        case atStart => exact ⟨0, rfl, Nat.zero_le _, Frm.refl _ _, fun h => (HBY9.out h).2⟩
        case round =>
          obtain ⟨wp, rfl⟩ : ∃ wp : World, wp = wr := ⟨_, rfl⟩
          obtain ⟨j, rfl, hjn, hfr, hby⟩ := hrel
          by_cases hj : j < F.length
          · have hji : (j : Int) < (F.length : Int) := by omega
            obtain ⟨huo, hb0⟩ := HBY9.out (by omega)
            subst huo
            have hby' := hby (by omega)
            obtain ⟨a, hc, hfz⟩ := hby'.get hj
            have nvd : gv ≠ gd := by
              rintro rfl
              obtain ⟨cr, h1, _, _⟩ := hb0.row
              have h2 := HRV.out
              rw [h1] at h2
              injection h2 with h2
              injection h2 with _ h2 _
              exact absurd h2 (by decide)
            have cv2 : wp.cell? ⟨gv, 1, none⟩ = some (.slice (some ⟨gd, 0, none⟩) F.length uc) := (World.cell?_of_block (w := w9) (hfr.block gv (lt_of_row HRV.out) nvd)).trans CV1.out
            have HBY2 := Lib.hid hby'
            have HFR := Lib.hid hfr
            clear hby hby' hfr hb0 nvd
            go_wp2_with fail
            exact ⟨⟨j + 1, by rw [Int.natCast_add]; rfl, by omega, HFR.out.setCell (p := ⟨gd, j, none⟩) (.inl rfl) _, fun _ => HBY2.out.set j _⟩, by simp [intOf]; omega⟩
          · have hji : ¬ (j : Int) < (F.length : Int) := by omega
            have hbp : Below w8.heap.size w8 wp := HB9.out.trans (hfr.below (B := w8.heap.size) (fun i _ e => by rw [e]; exact HGD.out) HB9.out.size)
            have HBP := Lib.hid hbp
            have OP2 := Lib.hid (OPN.out wp hbp)
            clear hfr hby hbp
            go_wp2_with fail
            refine OP2.out.mono ?_
            rintro e w10 ⟨lg10, r10, k10, S10, v10, rfl, _, hF10, _, _, _, hb10⟩
            obtain ⟨vs10, e1, e2, e3⟩ := hF10
            obtain ⟨u, rfl⟩ : ∃ u, vs10 = [u] := List.length_eq_one_iff.1 e1
            have hu : w10.ownsRow wp.heap.size 5 1 u F.length (bvs F) := e3 0 ⟨1, F⟩ u rfl rfl
            rcases e2.2 with ⟨_, e0⟩ | ⟨gz, capz, curz, rfl, _, hrowz, hcz, _, _, htz⟩
            · cases e0
            have cz1 : w10.cell? ⟨gz, 1, none⟩ = some u := by
              have h1 : (fcs [⟨1, F⟩] [u])[1]? = some u := rfl
              rw [← htz, List.getElem?_take_of_lt (by simp), Array.getElem?_toList] at h1
              rw [cell_of_row w10 gz 1 _ _ _ hrowz]
              exact h1
            have hczi : (1 : Int) ≤ (capz : Int) := by have : 1 ≤ capz := hcz; omega
            obtain ⟨az, cz, rfl, hsl⟩ := PartW.sl (.inl hu)
            have B10 := Lib.hid (B8.out.trans ((HBP.out.mono B8.out.size).trans (hb10.mono (Nat.le_trans B8.out.size HBP.out.size))))
            have cA : ∀ q, (Go.convert 37 9 (.slice az F.length cz)).run Try.prog (w10.drewN q) = .ok (.string (str F)) (w10.drewN q) := fun q => (hsl.below (below_drewN (Below.refl _ _) q)).convert.1
            have cB : ∀ q, (Go.convert 37 9 (.slice ao F.length cb)).run Try.prog (w10.drewN q) = .ok (.string (str F)) (w10.drewN q) := fun q => (HF.out.below (below_drewN B10.out q)).convert.1
            clear e1 e2 e3 hu hrowz htz hb10
            go_wp2_with fail
            go_quiet (fail)
            go_wp2_with fail
            go_ret
            exact ⟨rfl, below_drewN B10.out _⟩
end Go.Proofs.Ytdjpeebekpjiiaa.Dk
