/- The laws' own same: a disk and the reference's. -/
import Derived.Test.YthcliaaoadfegaaZf
import Derived.Test.YthcliaaoadfegaaPn
import Derived.Test.YthcliaaoadfegaaIn
namespace Go.Proofs.Ythcliaaoadfegaa.Dk
open Go Go.RowKit
set_option linter.unusedVariables false
set_option linter.unusedSimpArgs false
def SmRel (n : Nat) (w1 : World) (u : Value) (wr : World) : Prop := ∃ i : Nat, u = .int .i64 (i : Int) ∧ i ≤ n ∧ Below w1.heap.size w1 wr
def SfRel (W : List (Int × List UInt8)) (n : Int) (w1 : World) (b u : Value) (wr : World) : Prop := ∃ k : Nat, b = .bool (lastW (W.take k) n).isSome ∧ u = .int .i64 (k : Int) ∧ k ≤ W.length ∧ Below w1.heap.size w1 wr
def SgRel (ss : List Int) (n : Int) (w1 : World) (b u : Value) (wr : World) : Prop := ∃ k : Nat, b = .bool (decide (n ∈ ss.take k)) ∧ u = .int .i64 (k : Int) ∧ k ≤ ss.length ∧ wr = w1
theorem in_take {ss : List Int} {n : Int} {k : Nat} (h : k < ss.length) : decide (n ∈ ss.take (k + 1)) = (decide (n ∈ ss.take k) || decide (ss.getD k 0 = n)) := by
  rw [List.take_add_one, List.getElem?_eq_getElem h, List.getD_eq_getElem?_getD, List.getElem?_eq_getElem h]
  simp only [Option.toList_some, List.mem_append, List.mem_singleton, Bool.decide_or, Option.getD_some]
  congr 1
  simp only [eq_comm]
theorem last_isSome {W : List (Int × List UInt8)} {k : Nat} (h : k < W.length) (n : Int) : (lastW (W.take (k + 1)) n).isSome = ((lastW (W.take k) n).isSome || decide ((W.getD k default).1 = n)) := by
  rw [lastW_take h]
  by_cases e : (W.getD k default).1 = n
  · rw [if_pos e, decide_eq_true e]; simp
  · rw [if_neg e, decide_eq_false e]; simp
theorem WrA.at {T : Nat → Prop} {w : World} {wo : Option Addr} {W : List (Int × List UInt8)} (h : WrA T w wo W) {k : Nat} (hk : k < W.length) : ∃ g, wo = some ⟨g, 0, none⟩ ∧ w.cell? ⟨g, k * 2, none⟩ = some (.int .i64 (W.getD k default).1) ∧ w.cell? ⟨g, k * 2 + 1, none⟩ = some (.string (str (W.getD k default).2)) := by
  cases wo with
  | none => have := h.1 rfl; rw [this] at hk; simp at hk
  | some a => obtain ⟨g, rfl, _, _, hc⟩ := h.2 a rfl; exact ⟨g, rfl, hc k hk⟩
theorem sure_in {x : DS} {i : Nat} (h : i < x.s.length) : x.sure (i : Int) = (x.s.getD i [], 0) := by
  unfold DS.sure
  rw [if_neg]
  · rw [Int.toNat_natCast]
  · simp [DS.has, h]
theorem sec_conv {w0 w : World} {v : Value} {l : List UInt8} (h : Sec w0 w v l) : ∃ g, v = .slice (some ⟨g, 0, none⟩) 128 128 ∧ (convert 34 9 (.slice (some ⟨g, 0, none⟩) 128 128)).run Try.prog w = .ok (.string (str l)) w := by
  obtain ⟨g, rfl, hg, hr, hl⟩ := h
  exact ⟨g, rfl, run_convert_sl hl (fun e => by cases e) (fun a ha j u hu => by
    cases ha
    rw [Addr.add_mid, cell_of_row w g (0 + j) _ _ _ hr, Nat.zero_add]
    simpa using hu)⟩
set_option maxRecDepth 100000 in
set_option maxHeartbeats 4000000 in
theorem same5_any {T : Nat → Prop} {w : World} {d g m n : Nat} {x : DS} {v : RV} {W : List (Int × List UInt8)} (hD : DiskAt Try.prog w d g m n x) (hv : RVOf T w v x W) (hL : Link x W) (hn : n ≤ 1000000000) (hW : W.length ≤ 1000000) :
    Calls Try.prog 13 #[.pointer (some ⟨d, 0, none⟩), .agg v.cells.toArray] w fun e w' => e = .returned (.bool true) ∧ Below w.heap.size w w' := by
  obtain ⟨k1, hk1⟩ : ∃ k, k = w.heap.size := ⟨_, rfl⟩
  obtain ⟨w1, hw1⟩ : ∃ w1, w1 = w.alloc (.cells v.cells.toArray 32) := ⟨_, rfl⟩
  have h1 : RVB w1 k1 v := by rw [hw1, hk1]; exact heap_alloc_new _ _
  have hb : Below w.heap.size w w1 := by rw [hw1]; exact (Below.refl _ _).alloc (Nat.le_refl _) _
  have hv1 := hv.below hb (Nat.le_refl _)
  have hD1 := hD.below hb (Nat.le_refl _)
  have c0 := h1.c0
  have c1 := h1.c1
  have c2 := h1.c2
  have c4 := h1.c4
  have c5 := h1.c5
  rw [hv1.sn] at c0
  rw [hv1.wn] at c1
  rw [hv1.dn] at c2
  rw [hv1.wr] at c4
  rw [hv1.fl] at c5
  obtain ⟨so, hso⟩ : ∃ so, so = v.so := ⟨_, rfl⟩
  obtain ⟨sc, hsc⟩ : ∃ sc, sc = v.sc := ⟨_, rfl⟩
  obtain ⟨wo, hwo⟩ : ∃ wo, wo = v.wo := ⟨_, rfl⟩
  obtain ⟨wc, hwc⟩ : ∃ wc, wc = v.wc := ⟨_, rfl⟩
  have HSA := Lib.hid (show StrA T w1 so x.s by rw [hso]; exact hv1.S)
  have HWA := Lib.hid (show WrA T w1 wo W by rw [hwo]; exact hv1.W)
  rw [← hso, ← hsc] at c0
  rw [← hwo, ← hwc] at c1
  have SE := Lib.hid (fun i => sectors_any (hD1.drewN i))
  have DO := Lib.hid (fun i => down_any (hD1.drewN i))
  have WS := Lib.hid (fun i => writes_any (hD1.drewN i))
  have FS := Lib.hid (fun i => flushes_any (hD1.drewN i))
  obtain ⟨dn, hdn⟩ : ∃ dn, dn = x.down := ⟨_, rfl⟩
  obtain ⟨cw, hcw⟩ : ∃ cw, cw = x.wr := ⟨_, rfl⟩
  obtain ⟨cf, hcf⟩ : ∃ cf, cf = x.fl := ⟨_, rfl⟩
  obtain ⟨N, hN⟩ : ∃ N, N = x.s.length := ⟨_, rfl⟩
  rw [← hdn] at c2 DO
  rw [← hcw] at c4 WS
  rw [← hcf] at c5 FS
  rw [← hN] at c0 SE
  have hN6 : N ≤ 4096 := by rw [hN]; exact hD1.few
  have HNN := Lib.hid hN
  have HD1 := Lib.hid hD1
  have H1 := Lib.hid h1
  have HB := Lib.hid hb
  have HL := Lib.hid hL
  have HW1 := Lib.hid hw1
  have HK1 := Lib.hid hk1
  have HWL := Lib.hid hW
  have PD := Lib.hid (fun (wz : World) (h : DiskAt Try.prog wz d g m n x) => pending_any h hn)
  clear h1 hb hv1 hv hD hD1 hw1 hk1 hso hsc hwo hwc hdn hcw hcf hN hL hW
  go_enter Try.func13, Try.ntmps13
  go_upto_region 1 with fail
  rw [← HW1.out, ← HK1.out]
  go_quiet (first
    | (go_at_call 14; refine Calls.quiet_of_same ((SE.out _).mono fun _ _ h => ⟨h.1, h.2.symm⟩))
    | (go_at_call 19; refine Calls.quiet_of_same ((DO.out _).mono fun _ _ h => ⟨h.1, h.2.symm⟩))
    | (go_at_call 11; refine Calls.quiet_of_same ((WS.out _).mono fun _ _ h => ⟨h.1, h.2.symm⟩))
    | (go_at_call 12; refine Calls.quiet_of_same ((FS.out _).mono fun _ _ h => ⟨h.1, h.2.symm⟩)))
  obtain ⟨w2, hw2⟩ : ∃ w2, w2 = w1.drewN nq := ⟨_, rfl⟩
  rw [← hw2]
  have hb2 : Below w1.heap.size w1 w2 := by rw [hw2]; exact below_drewN (Below.refl _ _) nq
  have c0' : w2.cell? ⟨k1, 0, none⟩ = some (.slice so N sc) := by rw [hb2.cell (p := ⟨k1, 0, none⟩) H1.out.lt]; exact c0
  have S0 := Lib.hid (show SmRel N w1 (.int .i64 0) w2 from ⟨0, rfl, Nat.zero_le _, hb2⟩)
  have HC1 := Lib.hid c1
  clear c0 c1 c2 c4 c5 SE DO WS FS hb2 hw2
  go_wp2_with fail
  go_loopw [54] (fun u wr => SmRel N w1 u wr) (fun u _ => N - (intOf u).toNat)
  case atStart => exact S0.out
  case round =>
    obtain ⟨wq, rfl⟩ : ∃ wq : World, wq = wr := ⟨_, rfl⟩
    obtain ⟨i, rfl, hi, hbq⟩ := hrel
    have HBQ := Lib.hid hbq
    clear hbq S0 c0'
    by_cases hil : i < N
    · have hii : (i : Int) < (N : Int) := by omega
      have hix : i < x.s.length := by rw [← HNN.out]; exact hil
      obtain ⟨ks, rfl, hcell⟩ := HSA.out.at hix
      have hks := World.block_lt_of_cell? w1 _ hcell
      have hcell' : wq.cell? ⟨ks, i, none⟩ = some (.string (str (x.s.getD i []))) := by rw [HBQ.out.cell (p := ⟨ks, i, none⟩) hks]; exact hcell
      have SU := Lib.hid (sure_any (HD1.out.below HBQ.out (Nat.le_refl _)) (i : Int))
      rw [sure_in hix] at SU
      obtain ⟨b, hb⟩ : ∃ b, b = x.s.getD i [] := ⟨_, rfl⟩
      rw [← hb] at SU hcell'
      obtain ⟨B, hB⟩ : ∃ B, B = str b := ⟨_, rfl⟩
      rw [← hB] at hcell'
      have HBB := Lib.hid hB
      clear hcell hks hix hb hB
      go_wp2_with fail
      refine SU.out.mono ?_
      rintro e w3 ⟨v3, rfl, hans, hb3⟩
      have hans' : Sec wq w3 v3 b := by unfold Ans at hans; rw [if_pos rfl] at hans; exact hans
      obtain ⟨g3, rfl, hcv⟩ := sec_conv hans'
      rw [← HBB.out] at hcv
      have RL := Lib.hid (show SmRel N w1 (.int .i64 ((i + 1 : Nat) : Int)) w3 from ⟨i + 1, rfl, by omega, HBQ.out.trans (hb3.mono HBQ.out.size)⟩)
      clear hans hans' hb3 SU hcell'
      go_wp2_with fail
      exact ⟨RL.out, by simp [intOf]; omega⟩
    · obtain rfl : i = N := by omega
      have hii : ¬ (i : Int) < (i : Int) := by omega
      have P1 := Lib.hid (PD.out wq (HD1.out.below HBQ.out (Nat.le_refl _)))
      go_wp2_with fail
      refine P1.out.mono ?_
      rintro e w3 ⟨v3, ss, rfl, hps, hrow, _, hb3⟩
      obtain ⟨ao, c, rfl, hlc, hI⟩ := intsA_of hrow
      have HB3 := Lib.hid (HBQ.out.trans (hb3.mono HBQ.out.size))
      have HI := Lib.hid hI
      have HPS := Lib.hid hps
      have hwo : ∀ i, x.S i = lastW W i := HL.out.S
      have HSS := Lib.hid (show ∀ j, j < ss.length → (lastW W (ss.getD j 0)).isSome = true ∧ wfi (ss.getD j 0) from fun j hj => by
        have h := (hps.2 (ss.getD j 0)).1 (by simp [List.getD, hj])
        exact ⟨by rw [← hwo]; exact h.2, h.1⟩)
      have HRS := Lib.hid (show ∀ j, j + 1 < ss.length → ss.getD j 0 < ss.getD (j + 1) 0 from fun j hj => by
        have := List.pairwise_iff_getElem.1 hps.1 j (j + 1) (by omega) hj (by omega)
        simpa [List.getD, hj, show j < ss.length by omega] using this)
      have HIN := Lib.hid (show ∀ p ∈ W, decide (p.1 ∈ ss) = true from fun p hp => decide_eq_true ((hps.2 p.1).2 ⟨(HL.out.inn p hp).1, by rw [hwo]; exact lastW_isSome.2 ⟨p, hp, rfl⟩⟩))
      have hsl : ss.length ≤ 9223372036854775807 := by
        rcases hrow.2 with ⟨_, h0⟩ | ⟨_, cap, _, _, _, _, h1, h2, _⟩
        · omega
        · unfold maxLen at h2; omega
      have A0 := Lib.hid (show SmRel ss.length w3 (.int .i64 0) w3 from ⟨0, rfl, Nat.zero_le _, Below.refl _ _⟩)
      clear hps hrow hb3 hlc hI hwo P1
      go_wp2_with fail
      go_loopw [78] (fun u wr => SmRel ss.length w3 u wr) (fun u _ => ss.length - (intOf u).toNat)
      case atStart => exact A0.out
      case round =>
        obtain ⟨wp, rfl⟩ : ∃ wp : World, wp = wr := ⟨_, rfl⟩
        obtain ⟨j, rfl, hj, hbp⟩ := hrel
        have HBP := Lib.hid hbp
        clear A0
        have hc1 : wp.cell? ⟨k1, 1, none⟩ = some (.slice wo W.length wc) := by rw [(HB3.out.trans (hbp.mono HB3.out.size)).cell (p := ⟨k1, 1, none⟩) H1.out.lt]; exact HC1.out
        clear hbp
        by_cases hjl : j < ss.length
        · have hjj : (j : Int) < (ss.length : Int) := by omega
          obtain ⟨gp, rfl, _, hgl, hcj⟩ := HI.out j hjl
          have hcj' : wp.cell? ⟨gp, j, none⟩ = some (.int .i64 (ss.getD j 0)) := by rw [HBP.out.cell (p := ⟨gp, j, none⟩) hgl]; exact hcj
          have HS := Lib.hid (HSS.out j hjl)
          have hprev : 0 < j → ∃ z, wp.cell? ⟨gp, j - 1, none⟩ = some (.int .i64 z) ∧ z < ss.getD j 0 := fun h0 => by
            obtain ⟨gp', e, _, hgl', hcp⟩ := HI.out (j - 1) (by omega)
            injection e with e
            injection e with e
            subst e
            refine ⟨ss.getD (j - 1) 0, by rw [HBP.out.cell (p := ⟨gp, j - 1, none⟩) hgl']; exact hcp, ?_⟩
            have := HRS.out (j - 1) (by omega)
            rwa [show j - 1 + 1 = j by omega] at this
          obtain ⟨nj, hnj⟩ : ∃ nj, nj = ss.getD j 0 := ⟨_, rfl⟩
          rw [← hnj] at hcj' HS hprev
          have HPV := Lib.hid hprev
          clear hcj hgl hnj hprev
          go_upto_region 14 with fail
          go_cut [93] (fun s wx => s = .bool false ∧ wx = wp)
          case first =>
            by_cases h0 : 0 < j
            · obtain ⟨z, hz, hlt⟩ := HPV.out h0
              have hji : (0 : Int) < (j : Int) := by omega
              have hnle : ¬ nj ≤ z := by omega
              have hidx : ((j : Int) - 1).toNat = j - 1 := by omega
              have hsub : wrap64 ((j : Int) - 1) = ((j - 1 : Nat) : Int) := by unfold wrap64; omega
              go_wp2_with fail
              go_meet
              exact ⟨rfl, rfl⟩
            · obtain rfl : j = 0 := by omega
              go_wp2_with fail
              go_meet
              exact ⟨rfl, rfl⟩
          case rest =>
            obtain ⟨rfl, h7⟩ := hcut
            have h7' := h7.symm
            subst h7'
            have F0 := Lib.hid (show SfRel W nj wp (.bool false) (.int .i64 0) wp from ⟨0, rfl, rfl, Nat.zero_le _, Below.refl _ _⟩)
            go_wp2_with fail
            go_loopw [12, 97] (fun b u wr => SfRel W nj wp b u wr) (fun _ u _ => W.length - (intOf u).toNat)
            case atStart => exact F0.out
            case round =>
              obtain ⟨wt, rfl⟩ : ∃ wt : World, wt = wr := ⟨_, rfl⟩
              obtain ⟨k, rfl, rfl, hk, hbt⟩ := hrel
              have HBT := Lib.hid hbt
              clear hbt F0
              have hwl := HWL.out
              by_cases hkl : k < W.length
              · have hkk : (k : Int) < (W.length : Int) := by omega
                have hb13 := HB3.out.trans (HBP.out.mono HB3.out.size)
                have hb1t := hb13.trans (HBT.out.mono hb13.size)
                obtain ⟨gw, hwo, d0, d1⟩ := (HWA.out.frame (Frm.of_below (T := fun _ => False) hb1t (Nat.le_refl _)) (fun _ _ e => e.elim)).at hkl
                have hsc := last_isSome hkl nj
                obtain ⟨f0, hf0⟩ : ∃ f0, f0 = (lastW (W.take k) nj).isSome := ⟨_, rfl⟩
                obtain ⟨p1, hp1⟩ : ∃ p1, p1 = (W.getD k default).1 := ⟨_, rfl⟩
                obtain ⟨p2, hp2⟩ : ∃ p2, p2 = str (W.getD k default).2 := ⟨_, rfl⟩
                rw [← hf0, ← hp1] at hsc
                rw [← hp1] at d0
                rw [← hp2] at d1
                rw [← hf0]
                have RL := Lib.hid (show SfRel W nj wp (.bool (f0 || decide (p1 = nj))) (.int .i64 ((k + 1 : Nat) : Int)) (wt.alloc (.cells #[.int .i64 p1, .string p2] 80)) from ⟨k + 1, by rw [hsc], rfl, by omega, HBT.out.alloc HBT.out.size _⟩)
                subst hwo
                clear hb13 hb1t hsc hf0 hp1 hp2
                cases f0
                · by_cases hq : p1 = nj
                  · subst hq
                    rw [decide_eq_true rfl] at RL
                    go_wp2_with fail
                    exact ⟨RL.out, by simp [intOf]; omega⟩
                  · rw [decide_eq_false hq] at RL
                    have HQ := Lib.hid (show (p1 == nj) = false by simpa using hq)
                    go_wp2_with fail
                    exact ⟨by rw [HQ.out]; exact RL.out, by simp [intOf]; omega⟩
                · have e1 : (true || decide (p1 = nj)) = true := rfl
                  rw [e1] at RL
                  go_wp2_with fail
                  exact ⟨RL.out, by simp [intOf]; omega⟩
              · obtain rfl : k = W.length := by omega
                have hkk : ¬ (W.length : Int) < (W.length : Int) := by omega
                rw [List.take_length, HS.out.1]
                have RL := Lib.hid (show SmRel ss.length w3 (.int .i64 ((j + 1 : Nat) : Int)) wt from ⟨j + 1, rfl, by omega, HBP.out.trans (HBT.out.mono HBP.out.size)⟩)
                go_wp2_with fail
                exact ⟨RL.out, by simp [intOf]; omega⟩
        · obtain rfl : j = ss.length := by omega
          have hjj : ¬ (ss.length : Int) < (ss.length : Int) := by omega
          have G0 := Lib.hid (show SmRel W.length wp (.int .i64 0) wp from ⟨0, rfl, Nat.zero_le _, Below.refl _ _⟩)
          have HBW := Lib.hid (HB3.out.trans (HBP.out.mono HB3.out.size))
          have hwl := HWL.out
          go_wp2_with fail
          go_loopw [115] (fun u wr => SmRel W.length wp u wr) (fun u _ => W.length - (intOf u).toNat)
          case atStart => exact G0.out
          case round =>
            obtain ⟨wt, rfl⟩ : ∃ wt : World, wt = wr := ⟨_, rfl⟩
            obtain ⟨k, rfl, hk, hbt⟩ := hrel
            have HBT := Lib.hid hbt
            clear hbt G0 hc1
            by_cases hkl : k < W.length
            · have hkk : (k : Int) < (W.length : Int) := by omega
              have hb1t := HBW.out.trans (HBT.out.mono HBW.out.size)
              obtain ⟨gw, hwo, d0, d1⟩ := (HWA.out.frame (Frm.of_below (T := fun _ => False) hb1t (Nat.le_refl _)) (fun _ _ e => e.elim)).at hkl
              have hin := HIN.out (W.getD k default) (by simp [List.getD, hkl])
              obtain ⟨p1, hp1⟩ : ∃ p1, p1 = (W.getD k default).1 := ⟨_, rfl⟩
              obtain ⟨p2, hp2⟩ : ∃ p2, p2 = str (W.getD k default).2 := ⟨_, rfl⟩
              rw [← hp1] at d0 hin
              rw [← hp2] at d1
              subst hwo
              obtain ⟨wv, hwv⟩ : ∃ wv, wv = wt.alloc (.cells #[.int .i64 p1, .string p2] 80) := ⟨_, rfl⟩
              obtain ⟨k16, hk16⟩ : ∃ k16, k16 = wt.heap.size := ⟨_, rfl⟩
              have hbv : Below wt.heap.size wt wv := by rw [hwv]; exact (Below.refl _ _).alloc (Nat.le_refl _) _
              have cv : wv.cell? ⟨k16, 0, none⟩ = some (.int .i64 p1) := by rw [hwv, hk16, cell_of_row _ _ 0 _ _ _ (heap_alloc_new _ _)]; rfl
              have HBV := Lib.hid (HBT.out.trans (hbv.mono HBT.out.size))
              have HIV := Lib.hid ((HI.out.below (HBP.out.trans (HBT.out.mono HBP.out.size)) (Nat.le_refl _)).below hbv (Nat.le_refl _))
              have J0 := Lib.hid (show SgRel ss p1 wv (.bool false) (.int .i64 0) wv from ⟨0, rfl, rfl, Nat.zero_le _, rfl⟩)
              have HWV := Lib.hid hwv
              have HK16 := Lib.hid hk16
              have HINN := Lib.hid hin
              clear hb1t hp1 hp2 hbv hwv hk16 hin
              go_upto_region 28 with fail
              rw [← HWV.out, ← HK16.out]
              go_wp2_with fail
              go_loopw [17, 121] (fun b u wr => SgRel ss p1 wv b u wr) (fun _ u _ => ss.length - (intOf u).toNat)
              case atStart => exact J0.out
              case round =>
                obtain ⟨j, rfl, rfl, hj, hwr⟩ := hrel
                obtain rfl := hwr.symm
                clear J0
                by_cases hjl : j < ss.length
                · have hjj2 : (j : Int) < (ss.length : Int) := by omega
                  obtain ⟨gp, rfl, _, hgl, hcj⟩ := HIV.out j hjl
                  have hst := in_take (n := p1) hjl
                  obtain ⟨f0, hf0⟩ : ∃ f0, f0 = decide (p1 ∈ ss.take j) := ⟨_, rfl⟩
                  obtain ⟨nj, hnj⟩ : ∃ nj, nj = ss.getD j 0 := ⟨_, rfl⟩
                  rw [← hf0, ← hnj] at hst
                  rw [← hnj] at hcj
                  rw [← hf0]
                  have RL := Lib.hid (show SgRel ss p1 wv (.bool (f0 || decide (nj = p1))) (.int .i64 ((j + 1 : Nat) : Int)) wv from ⟨j + 1, by rw [hst], rfl, by omega, rfl⟩)
                  clear hst hf0 hnj
                  cases f0
                  · by_cases hq : nj = p1
                    · subst hq
                      rw [decide_eq_true rfl] at RL
                      go_wp2_with fail
                      exact ⟨RL.out, by simp [intOf]; omega⟩
                    · rw [decide_eq_false hq] at RL
                      have HQ := Lib.hid (show (nj == p1) = false by simpa using hq)
                      go_wp2_with fail
                      exact ⟨by rw [HQ.out]; exact RL.out, by simp [intOf]; omega⟩
                  · have e1 : (true || decide (nj = p1)) = true := rfl
                    rw [e1] at RL
                    go_wp2_with fail
                    exact ⟨RL.out, by simp [intOf]; omega⟩
                · obtain rfl : j = ss.length := by omega
                  have hjj2 : ¬ (ss.length : Int) < (ss.length : Int) := by omega
                  rw [List.take_length, HINN.out]
                  have RL := Lib.hid (show SmRel W.length wp (.int .i64 ((k + 1 : Nat) : Int)) wv from ⟨k + 1, rfl, by omega, HBV.out⟩)
                  go_wp2_with fail
                  exact ⟨RL.out, by simp [intOf]; omega⟩
            · obtain rfl : k = W.length := by omega
              have hkk : ¬ (W.length : Int) < (W.length : Int) := by omega
              have FIN := Lib.hid (HB.out.trans ((HBW.out.trans (HBT.out.mono HBW.out.size)).mono HB.out.size))
              go_wp2_with fail
              go_ret
              exact ⟨rfl, FIN.out⟩
end Go.Proofs.Ythcliaaoadfegaa.Dk
