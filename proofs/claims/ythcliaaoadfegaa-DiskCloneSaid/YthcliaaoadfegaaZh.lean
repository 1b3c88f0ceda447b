/- The reference's disk: Crash. -/
import Derived.Test.YthcliaaoadfegaaZf
namespace Go.Proofs.Ythcliaaoadfegaa.Dk
open Go Go.RowKit
set_option linter.unusedVariables false
set_option linter.unusedSimpArgs false
theorem r5s_take (L : List UInt8) (n : Nat) : (str L).extract 0 n = str (L.take n) := by
  apply ByteArray.ext
  simp [str, ByteArray.data_extract]
theorem r5s_drop (L : List UInt8) (n : Nat) : (str L).extract n (str L).size = str (L.drop n) := by
  apply ByteArray.ext
  simp [str, ByteArray.data_extract, ByteArray.size]
  exact List.take_of_length_le (by simp)
set_option maxRecDepth 100000 in
set_option maxHeartbeats 3200000 in
theorem r5Crash_any {T : Nat → Prop} {w : World} {v : RV} {x : DS} {W : List (Int × List UInt8)} (hv : RVOf T w v x W) (hL : Link x W) (hT : ∀ k, T k → k < w.heap.size) (hW : W.length ≤ 1000000) (hn : x.s.length ≤ 4096)
    {ko : Option Addr} {kc : Nat} {K : List Int} (hK : Nums w (.slice ko K.length kc) K) (hKn : K.length ≤ 1000000) (t a : Int) (hat : wfi a) :
    Calls Try.prog 26 #[.agg v.cells.toArray, .slice ko K.length kc, .int .i64 t, .int .i64 a] w fun e w' => ∃ v', e = .returned (.agg v'.cells.toArray) ∧ RVOf T w' v' (x.crash K t a) [] ∧ Below w.heap.size w w' := by
  obtain ⟨h1, h2, hb, hsz⟩ := ent_spec w v
  obtain ⟨k1, hk1⟩ : ∃ k, k = w.heap.size := ⟨_, rfl⟩
  obtain ⟨k2, hk2⟩ : ∃ k, k = w.heap.size + 1 := ⟨_, rfl⟩
  obtain ⟨w2, hw2⟩ : ∃ w2, w2 = ent w v := ⟨_, rfl⟩
  rw [← hk1, ← hw2] at h1
  rw [← hk2, ← hw2] at h2
  rw [← hw2] at hb
  have hne : k1 ≠ k2 := by omega
  have hkb : w.heap.size ≤ k1 ∧ w.heap.size ≤ k2 := by omega
  have HKB := Lib.hid hkb
  have HNE := Lib.hid hne
  have H1 := Lib.hid h1
  have H2 := Lib.hid h2
  have HB := Lib.hid hb
  have HV := Lib.hid hv
  have HW2 := Lib.hid (ent_lit hw2)
  have HK1 := Lib.hid hk1
  have HK2 := Lib.hid hk2
  have HSZ := Lib.hid (Try.r5Size v)
  have HSZ' := Lib.hid (Try.r5Size' v)
  have HCS := Lib.hid h1.cs
  have HS0 := Lib.hid (h2.shape v)
  obtain ⟨L, hLL⟩ : ∃ L, L = (x.crash K t a).s := ⟨_, rfl⟩
  have hLn : L.length = x.s.length := by rw [hLL]; exact crash_len x K t a
  obtain ⟨q, hq⟩ : ∃ q, q = (min (max a 0) 128).toNat := ⟨_, rfl⟩
  have hqi : (q : Int) = min (max a 0) 128 := by omega
  have HLG := Lib.hid (show ∀ i, i < x.s.length → L.getD i [] = match lastW W (i : Int) with
      | some l => if (i : Int) ∈ K then l else if t = (i : Int) then l.take q ++ (x.s.getD i []).drop q else x.s.getD i []
      | none => x.s.getD i [] from fun i hi => by rw [hLL, hq, ← hL.S]; exact crash_get hL K t a hi)
  have HQI := Lib.hid hqi
  have HLEN := Lib.hid (show ∀ i, i < x.s.length → (x.s.getD i []).length = 128 ∧ ∀ l, lastW W (i : Int) = some l → l.length = 128 from fun i hi => ⟨hL.len _ (by simp [List.getD, hi]), fun l h => (hL.at (i := (i : Int)) (by rw [hL.S]; exact h)).2.2⟩)
  have HT := Lib.hid hT
  have HLN := Lib.hid hLn
  have HL6 := Lib.hid (show L.length ≤ 4096 by rw [hLn]; exact hn)
  have HWL := Lib.hid hW
  have HKN := Lib.hid (And.intro hK hKn)
  have HSA := Lib.hid hv.S
  have HUE := Lib.hid (show v.sn = L.length by rw [hv.sn, hLn])
  have FIN := Lib.hid (show ∀ wz (so' : Option Addr) (sc' : Nat), Below w.heap.size w wz → StrA T wz so' L → RVOf T wz { v with so := so', sn := L.length, sc := sc', wo := none, wn := 0, wc := 0, down := true, fuse := -1 } (x.crash K t a) [] from fun wz so' sc' hz hw => by
    have h := HV.out.below hz (Nat.le_refl _)
    have e1 : ∀ (K : List Int) (y : DS), (K.foldl (fun y j => y.settle j 128) y).wr = y.wr ∧ (K.foldl (fun y j => y.settle j 128) y).fl = y.fl := by
      intro K
      induction K with
      | nil => exact fun y => ⟨rfl, rfl⟩
      | cons k K ih =>
        intro y
        have h2 : (y.settle k 128).wr = y.wr ∧ (y.settle k 128).fl = y.fl := by unfold DS.settle; split <;> exact ⟨rfl, rfl⟩
        exact ⟨(ih _).1.trans h2.1, (ih _).2.trans h2.2⟩
    have e2 : ∀ (y : DS), (y.settle t a).wr = y.wr ∧ (y.settle t a).fl = y.fl := fun y => by unfold DS.settle; split <;> exact ⟨rfl, rfl⟩
    refine ⟨by rw [hLL], rfl, rfl, by show (-1 : Int) = max (-1) (-1); decide, ?_, ?_, by rw [← hLL]; exact hw, ⟨fun _ => rfl, fun a e => by cases e⟩⟩
    · show v.wr = ((K.foldl (fun y j => y.settle j 128) x).settle t a).wr
      rw [(e2 _).1, (e1 K x).1, h.wr]
    · show v.fl = ((K.foldl (fun y j => y.settle j 128) x).settle t a).fl
      rw [(e2 _).2, (e1 K x).2, h.fl])
  obtain ⟨i0, hi0, hz0, hz1, hz2⟩ := info_parts Try.infoStr
  obtain ⟨g2, hg2⟩ : ∃ g2, g2 = w2.heap.size := ⟨_, rfl⟩
  have HG2 := Lib.hid hg2
  have HG2' := Lib.hid (show k1 < g2 ∧ k2 < g2 ∧ w.heap.size ≤ g2 from by have := h1.lt; have := h2.lt; have := hb.size; omega)
  have A0 := Lib.hid (show AcRel L g2 w2 (.slice none 0 0) (.int .i64 0) w2 from ⟨0, rfl, Nat.zero_le _, World.ownsRow_nil w2 _ _ _, Below.refl _ _⟩)
  clear h1 h2 hb hsz hk1 hk2 hw2 hne hkb hv hT hL hn hLL hLn hq hqi hW hK hKn hg2
  go_enter Try.func26, Try.ntmps26
  go_upto_region 1 with fail
  rw [← HW2.out, ← HK2.out, ← HK1.out]
  go_upto_if 15 with fail
  go_cut [3] (fun s wx => s = .int .i64 (max a 0) ∧ wx = w2)
  case first =>
    by_cases ha0 : a < 0
    · have HM := Lib.hid (show max a 0 = 0 by omega)
      go_wp2_with fail
      go_meet
      exact ⟨by rw [HM.out], rfl⟩
    · have HM := Lib.hid (show max a 0 = a by omega)
      go_wp2_with fail
      go_meet
      exact ⟨by rw [HM.out], rfl⟩
  case rest =>
    obtain ⟨rfl, h7⟩ := hcut
    have h7' := h7.symm
    subst h7'
    go_upto_if 17 with fail
    go_cut [3] (fun s wx => s = .int .i64 (q : Int) ∧ wx = w2)
    case first =>
      obtain ⟨m, hm⟩ : ∃ m, m = max a 0 := ⟨_, rfl⟩
      have hqm := HQI.out
      rw [← hm] at hqm ⊢
      by_cases ha0 : 128 < m
      · have HQ1 := Lib.hid (show (q : Int) = 128 by omega)
        clear hqm hm
        go_wp2_with fail
        go_meet
        exact ⟨by rw [HQ1.out], rfl⟩
      · have HQ1 := Lib.hid (show (q : Int) = m by omega)
        clear hqm hm
        go_wp2_with fail
        go_meet
        exact ⟨by rw [HQ1.out], rfl⟩
    case rest =>
      obtain ⟨rfl, h7⟩ := hcut
      have h7' := h7.symm
      subst h7'
      go_wp2_with fail
      go_loopw [9, 10] (fun sv z wr => AcRel L g2 w2 sv z wr) (fun _ z _ => L.length - (intOf z).toNat)
      case atStart => exact A0.out
      case round =>
        obtain ⟨wq, rfl⟩ : ∃ wq : World, wq = wr := ⟨_, rfl⟩
        obtain ⟨i, rfl, hi, hown, hbr⟩ := hrel
        have hbw : Below w.heap.size w wq := HB.out.trans (hbr.mono HG2'.out.2.2)
        have r1 : RVB wq k1 v := (hbr.block k1 HG2'.out.1).trans H1.out
        have r2 : RVB wq k2 zeroR := (hbr.block k2 HG2'.out.2.1).trans H2.out
        have HOWN := Lib.hid hown
        have HBR := Lib.hid hbr
        have HBW := Lib.hid hbw
        have R1 := Lib.hid r1
        have R2 := Lib.hid r2
        have LC := Lib.hid r1.cs
        have c0 : wq.cell? ⟨k1, 0, none⟩ = some (.slice v.so L.length v.sc) := by have := r1.c0; rwa [HUE.out] at this
        clear hown hbr hbw r1 r2 A0
        by_cases hil : i < L.length
        · have hii : (i : Int) < (L.length : Int) := by omega
          have LA := Lib.hid (r5last_any (HV.out.below HBW.out (Nat.le_refl _)) HWL.out (i : Int))
          obtain ⟨ks, hso, hcell⟩ := HSA.out.at (i := i) (by rw [← HLN.out]; exact hil)
          have hks : ks < w.heap.size := World.block_lt_of_cell? w _ hcell
          have hg := HLG.out i (by rw [← HLN.out]; exact hil)
          have hlen := HLEN.out i (by rw [← HLN.out]; exact hil)
          rw [hso] at c0
          obtain ⟨sc, hsc⟩ : ∃ sc, sc = v.sc := ⟨_, rfl⟩
          rw [← hsc] at c0
          clear hso hsc
          go_wp2_with (with_reducible show wpList _ _ _ _ _ _; refine wpList_load_all rfl 32 (.tmp 4) rfl ⟨k1, 0, none⟩ rfl v.cells _ LC.out Try.underlying32 rfl HSZ.out ?_)
          refine LA.out.mono ?_
          rintro e w5 ⟨rfl, hb5⟩
          have d0 : w5.cell? ⟨k1, 0, none⟩ = some (.slice (some ⟨ks, 0, none⟩) L.length sc) := by rw [hb5.cell (p := ⟨k1, 0, none⟩) R1.out.lt]; exact c0
          have dk : w5.cell? ⟨ks, i, none⟩ = some (.string (str (x.s.getD i []))) := by
            have h := HBW.out.trans (hb5.mono HBW.out.size)
            rw [h.cell (p := ⟨ks, i, none⟩) hks]
            exact hcell
          obtain ⟨xs, hxs⟩ : ∃ xs : List Value, xs = (L.take i).map fun b => .string (str b) := ⟨_, rfl⟩
          have hw5 := ownsRow_below HOWN.out hb5
          rw [← hxs] at hw5
          have OW5 := Lib.hid hw5
          have HXS := Lib.hid hxs
          have HNK := Lib.hid (HKN.out.1.below (HBW.out.trans (hb5.mono HBW.out.size)) (Nat.le_refl _))
          have BR5 := Lib.hid (HBR.out.trans (hb5.mono (show g2 ≤ wq.heap.size by have := HBR.out.size; have := HG2.out; omega)))
          have hz5 : g2 ≤ w5.heap.size := by have := BR5.out.size; have := HG2.out; omega
          have HZ5 := Lib.hid hz5
          have L1 := Lib.hid (show i + 1 ≤ maxLen by have := HL6.out; unfold maxLen; omega)
          have L2 := Lib.hid (show (i + 1) * 16 ≤ 140737488355328 by have := HL6.out; omega)
          obtain ⟨b0, hb0⟩ : ∃ b0, b0 = x.s.getD i [] := ⟨_, rfl⟩
          rw [← hb0] at dk hg hlen
          clear hb5 c0 hcell LA hb0 hz5 hw5 hxs
          cases hlw : lastW W (i : Int) with
          | none =>
            rw [hlw] at hg
            have HGB := Lib.hid (show L.getD i [] = b0 from hg)
            clear hlw hg hlen
            go_wp2_with (at_builtin; refine wpList_append_own_src _ rfl (.tmp 56) (.tmp 58) 29 29 rfl g2 9 i0 (.string ⟨#[]⟩) 1 16 Try.underlying29 hi0 hz0 hz1 hz2 rfl _ i xs rfl (OW5.out.alloc _) _ 1 [.string (str b0)] rfl (src5_one w5 (str b0)) L1.out L2.out ?b3 ?next)
            case b3 => have := HZ5.out; rw [show (w5.alloc (.cells #[.string (str b0)] 9)).heap.size = w5.heap.size + 1 from Array.size_push _]; omega
            case next =>
              intro v6 w6 hG6
              have RL := Lib.hid (ac_step HG2.out hil HGB.out HXS.out OW5.out BR5.out (str b0) rfl hG6)
              have hl6 := HL6.out
              clear hG6
              go_wp2_with fail
              exact ⟨RL.out, by simp [intOf]; omega⟩
          | some l =>
            have hl128 := hlen.2 l hlw
            have hb128 := hlen.1
            rw [hlw] at hg
            replace hg : L.getD i [] = if (i : Int) ∈ K then l else if t = (i : Int) then l.take q ++ b0.drop q else b0 := hg
            clear hlw hlen
            have HA := Lib.hid (r5has_any HNK.out HKN.out.2 (i : Int))
            by_cases hin : (i : Int) ∈ K
            · rw [if_pos hin] at hg
              have hde : decide ((i : Int) ∈ K) = true := decide_eq_true hin
              rw [hde] at HA
              have HGB := Lib.hid hg
              clear hg hde hin
              go_wp2_with fail
              refine HA.out.mono ?_
              rintro e w5' ⟨rfl, hww⟩
              have hww' := hww.symm
              subst hww'
              go_wp2_with (at_builtin; refine wpList_append_own_src _ rfl (.tmp 56) (.tmp 58) 29 29 rfl g2 9 i0 (.string ⟨#[]⟩) 1 16 Try.underlying29 hi0 hz0 hz1 hz2 rfl _ i xs rfl (OW5.out.alloc _) _ 1 [.string (str l)] rfl (src5_one w5 (str l)) L1.out L2.out ?b3 ?next)
              case b3 => have := HZ5.out; rw [show (w5.alloc (.cells #[.string (str l)] 9)).heap.size = w5.heap.size + 1 from Array.size_push _]; omega
              case next =>
                intro v6 w6 hG6
                have RL := Lib.hid (ac_step HG2.out hil HGB.out HXS.out OW5.out BR5.out (str l) rfl hG6)
                have hl6 := HL6.out
                clear hG6
                go_wp2_with fail
                exact ⟨RL.out, by simp [intOf]; omega⟩
            · rw [if_neg hin] at hg
              have hde : decide ((i : Int) ∈ K) = false := decide_eq_false hin
              rw [hde] at HA
              clear hde hin
              by_cases ht : t = (i : Int)
              · rw [if_pos ht] at hg
                have HGB := Lib.hid hg
                have hq128 : q ≤ 128 := by have := HQI.out; omega
                have hsl : (str l).size = 128 := by rw [r5s_size, hl128]
                have hsb : (str b0).size = 128 := by rw [r5s_size, hb128]
                have e1 := r5s_take l q
                have e2 := r5s_drop b0 q
                rw [hsb] at e2
                have HCAT := Lib.hid (show (str l).extract 0 q ++ (str b0).extract q 128 = str (l.take q ++ b0.drop q) by rw [e1, e2, r5s_app])
                clear e1 e2
                obtain ⟨SB, hSB⟩ : ∃ SB, SB = str b0 := ⟨_, rfl⟩
                rw [← hSB] at hsb HCAT dk
                have HSB := Lib.hid hSB
                subst ht
                clear hg hSB
                go_wp2_with fail
                refine HA.out.mono ?_
                rintro e w5' ⟨rfl, hww⟩
                have hww' := hww.symm
                subst hww'
                go_upto_region 14 with fail
                go_quiet (fail)
                rw [HCAT.out]
                obtain ⟨wg, hwg⟩ : ∃ wg, wg = w5.drewN nq := ⟨_, rfl⟩
                rw [← hwg]
                have hbg : Below w5.heap.size w5 wg := by rw [hwg]; exact below_drewN (Below.refl _ _) nq
                have OWG := Lib.hid (ownsRow_below OW5.out hbg)
                have BRG := Lib.hid (BR5.out.trans (hbg.mono HZ5.out))
                have HZG := Lib.hid (Nat.le_trans HZ5.out hbg.size)
                obtain ⟨bb, hbb⟩ : ∃ bb, bb = l.take q ++ b0.drop q := ⟨_, rfl⟩
                have HGB2 := Lib.hid (show L.getD i [] = bb by rw [hbb]; exact HGB.out)
                rw [← hbb]
                clear hwg hbg hbb HCAT d0 dk
                go_wp2_with (at_builtin; refine wpList_append_own_src _ rfl (.tmp 56) (.tmp 58) 29 29 rfl g2 9 i0 (.string ⟨#[]⟩) 1 16 Try.underlying29 hi0 hz0 hz1 hz2 rfl _ i xs rfl (OWG.out.alloc _) _ 1 [.string (str bb)] rfl (src5_one wg (str bb)) L1.out L2.out ?b3 ?next)
                case b3 => have := HZG.out; rw [show (wg.alloc (.cells #[.string (str bb)] 9)).heap.size = wg.heap.size + 1 from Array.size_push _]; omega
                case next =>
                  intro v6 w6 hG6
                  have RL := Lib.hid (ac_step HG2.out hil HGB2.out HXS.out OWG.out BRG.out (str bb) rfl hG6)
                  have hl6 := HL6.out
                  clear hG6
                  go_wp2_with fail
                  go_roundw
                  case rel => exact RL.out
                  case measure => simp [intOf]; omega
              · rw [if_neg ht] at hg
                have HGB := Lib.hid hg
                have hti : ¬ (i : Int) = t := fun e => ht e.symm
                clear hg ht
                go_wp2_with fail
                refine HA.out.mono ?_
                rintro e w5' ⟨rfl, hww⟩
                have hww' := hww.symm
                subst hww'
                go_wp2_with (at_builtin; refine wpList_append_own_src _ rfl (.tmp 56) (.tmp 58) 29 29 rfl g2 9 i0 (.string ⟨#[]⟩) 1 16 Try.underlying29 hi0 hz0 hz1 hz2 rfl _ i xs rfl (OW5.out.alloc _) _ 1 [.string (str b0)] rfl (src5_one w5 (str b0)) L1.out L2.out ?b3 ?next)
                case b3 => have := HZ5.out; rw [show (w5.alloc (.cells #[.string (str b0)] 9)).heap.size = w5.heap.size + 1 from Array.size_push _]; omega
                case next =>
                  intro v6 w6 hG6
                  have RL := Lib.hid (ac_step HG2.out hil HGB.out HXS.out OW5.out BR5.out (str b0) rfl hG6)
                  have hl6 := HL6.out
                  clear hG6
                  go_wp2_with fail
                  exact ⟨RL.out, by simp [intOf]; omega⟩
        · obtain rfl : i = L.length := by omega
          have hii : ¬ (L.length : Int) < (L.length : Int) := by omega
          have hown := HOWN.out
          rw [List.take_length] at hown
          obtain ⟨ao, c, rfl⟩ := own_sl hown
          obtain ⟨so', c', e', hst⟩ := strA_of (w0 := w) (T := fun k => k < g2) hown (fun k hk => hk)
          injection e' with e1 e2 e3
          subst e1 e3
          have f0 := R1.out.f 0
          obtain ⟨w6, hw6⟩ : ∃ w6, w6 = wq.setCell ⟨k1, 0, none⟩ (.slice ao L.length c) := ⟨_, rfl⟩
          have g16 := R1.out.set0 ao L.length c
          rw [← hw6] at g16
          have c16 := g16.c1
          have f16 := g16.f 1
          obtain ⟨w7, hw7⟩ : ∃ w7, w7 = w6.setCell ⟨k1, 1, none⟩ (.slice none 0 0) := ⟨_, rfl⟩
          have g17 := g16.set1 none 0 0
          rw [← hw7] at g17
          have c27 := g17.c2
          have f27 := g17.f 2
          obtain ⟨w8, hw8⟩ : ∃ w8, w8 = w7.setCell ⟨k1, 2, none⟩ (.bool true) := ⟨_, rfl⟩
          have g18 := g17.set2 true
          rw [← hw8] at g18
          have c38 := g18.c3
          have f38 := g18.f 3
          obtain ⟨w9, hw9⟩ : ∃ w9, w9 = w8.setCell ⟨k1, 3, none⟩ (.int .i64 (-1)) := ⟨_, rfl⟩
          obtain ⟨z, hz⟩ : ∃ z : RV, z = { v with so := ao, sn := L.length, sc := c, wo := none, wn := 0, wc := 0, down := true, fuse := -1 } := ⟨_, rfl⟩
          have g19 : RVB w9 k1 z := by rw [hw9, hz]; exact g18.set3 _
          have g29 : RVB w9 k2 zeroR := by rw [hw9, hw8, hw7, hw6]; exact (((R2.out.other (fun e => HNE.out e.symm) _).other (fun e => HNE.out e.symm) _).other (fun e => HNE.out e.symm) _).other (fun e => HNE.out e.symm) _
          have gb9 : Below w.heap.size w w9 := by rw [hw9, hw8, hw7, hw6]; exact (((HBW.out.setCell (p := ⟨k1, 0, none⟩) HKB.out.1 _).setCell (p := ⟨k1, 1, none⟩) HKB.out.1 _).setCell (p := ⟨k1, 2, none⟩) HKB.out.1 _).setCell (p := ⟨k1, 3, none⟩) HKB.out.1 _
          have HWZ : StrA T (w9.setRow k2 z.cells.toArray) ao L := by
            have f : Frm (fun k => k = k1 ∨ k = k2) wq (w9.setRow k2 z.cells.toArray) := by
              rw [hw9, hw8, hw7, hw6]
              exact (((((Frm.refl (fun k => k = k1 ∨ k = k2) wq).setCell (p := ⟨k1, 0, none⟩) (.inl (.inl rfl)) _).setCell (p := ⟨k1, 1, none⟩) (.inl (.inl rfl)) _).setCell (p := ⟨k1, 2, none⟩) (.inl (.inl rfl)) _).setCell (p := ⟨k1, 3, none⟩) (.inl (.inl rfl)) _).setRow (.inl (.inr rfl)) _
            exact (hst.frame f (fun k _ hk => by have := HG2'.out; rcases hk with rfl | rfl <;> omega)).more (fun k _ hk => by have := HT.out k hk; have := HG2'.out; omega)
          have Z1 := Lib.hid g19.cs
          have Z2 := Lib.hid g29
          have ZS := Lib.hid (Try.r5Size z)
          have ZS' := Lib.hid (Try.r5Size' z)
          have Z0 := Lib.hid (g29.shape z)
          have ZR := Lib.hid (r5_ret (u := z) g29 gb9 HKB.out.2)
          have ZF := Lib.hid (show RVOf T (w9.setRow k2 z.cells.toArray) z (x.crash K t a) [] by
            have h := FIN.out _ ao c ZR.out.2 HWZ
            rw [← hz] at h
            exact h)
          have HW6 := Lib.hid hw6
          have HW7 := Lib.hid hw7
          have HW8 := Lib.hid hw8
          have HW9 := Lib.hid hw9
          clear hown hst g16 g17 g18 g19 g29 gb9 hw6 hw7 hw8 hw9 hz HWZ
          go_upto_region 17 with fail
          rw [← HW6.out]
          go_upto_region 18 with fail
          rw [← HW7.out]
          go_upto_region 19 with fail
          rw [← HW8.out]
          go_upto_region 20 with fail
          rw [← HW9.out]
          go_wp2_with (first
            | (with_reducible show wpList _ _ _ _ _ _; refine wpList_load_all rfl 32 (.tmp 4) rfl ⟨k1, 0, none⟩ rfl z.cells _ Z1.out Try.underlying32 rfl ZS.out ?_)
            | (with_reducible show wpList _ _ _ _ _ _; refine wpList_store_whole rfl 32 (.tmp 8) (.tmp 65) rfl k2 32 _ z.cells.toArray rfl rfl Z2.out.row ZS'.out Z0.out z.cells_one ?_))
          refine bodyPost_ret (results_cell_row rfl _ _ k2 32 z.cells.toArray (0, 0) _ rfl ZR.out.1 Try.underlying32 rfl ZS'.out) rfl ⟨z, rfl, ZF.out, ZR.out.2⟩
end Go.Proofs.Ythcliaaoadfegaa.Dk
