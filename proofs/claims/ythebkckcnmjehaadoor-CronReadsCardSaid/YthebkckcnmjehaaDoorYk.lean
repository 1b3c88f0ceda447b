/- The reference's Parse: its walk. -/
import Derived.Test.YthebkckcnmjehaaDoorYc
namespace Go.Proofs.YthebkckcnmjehaaDoor
open Go Go.RowKit
set_option linter.unusedVariables false
set_option linter.unusedSimpArgs false
set_option maxHeartbeats 8000000 in
set_option maxRecDepth 100000 in
theorem refParse_any (l : List UInt8) (hl : l.length ≤ 1000000) (w : World) : Calls Tryd.prog 12 #[.string (str l)] w (RpPost w (parseM l)) := by
  obtain ⟨R, hR⟩ : ∃ R, R = parseM l := ⟨_, rfl⟩
  rw [← hR]
  unfold parseM at hR
  have hs := str_size l
  have SP := refSplit_any 32 l hl w
  rw [show ((32 : UInt8).toNat : Int) = 32 from rfl] at SP
  have hmem := splitL_mem 32 l
  obtain ⟨P, hP⟩ : ∃ P, P = splitL 32 l := ⟨_, rfl⟩
  rw [← hP] at hR SP hmem
  obtain ⟨S, hS⟩ : ∃ S, S = str l := ⟨_, rfl⟩
  rw [← hS] at hs SP ⊢
  have HSP := Lib.hid SP
  have HMEM := Lib.hid hmem
  clear SP hS hP hmem
  by_cases h1 : 128 < l.length
  · rw [if_pos h1] at hR
    have HR := Lib.hid hR
    have d1 : (128 : Int) < (S.size : Int) := by omega
    clear hR hs
    go_enter Tryd.func12, Tryd.ntmps12
    go_wp2_with fail
    go_ret2
    exact RpPost.bad (by rw [HR.out]) (by decide) (Below.refl _ _)
  rw [if_neg h1] at hR
  have hl8 : l.length ≤ 128 := by omega
  have d1 : ¬ (128 : Int) < (S.size : Int) := by omega
  by_cases h2 : P.length ≠ 5
  · rw [if_pos h2] at hR
    have HR := Lib.hid hR
    have d2 : ¬ (P.length : Int) = 5 := by omega
    clear hR hs
    go_enter Tryd.func12, Tryd.ntmps12
    go_wp2_with fail
    refine HSP.out.mono ?_
    rintro e w1 ⟨ao, cp, rfl, blk, hb⟩
    have HB := Lib.hid hb
    clear blk hb
    go_wp2_with fail
    go_ret2
    exact RpPost.bad (by rw [HR.out]) (by decide) HB.out
  rw [if_neg h2] at hR
  have hP5 : P.length = 5 := by omega
  have d2 : (P.length : Int) = 5 := by omega
  have HR := Lib.hid hR
  have HP5 := Lib.hid hP5
  obtain ⟨i0, hi0, hz0, hz1, hz2⟩ := info_parts Tryd.infoRF
  have HI := Lib.hid (And.intro hi0 (And.intro hz0 (And.intro hz1 hz2)))
  obtain ⟨n0, hn0, hy0, hy1, hy2⟩ := info_parts Tryd.infoInt
  have HN := Lib.hid (And.intro hn0 (And.intro hy0 (And.intro hy1 hy2)))
  clear hR hs h1 h2 hi0 hz0 hz1 hz2 hn0 hy0 hy1 hy2 hP5
  go_enter Tryd.func12, Tryd.ntmps12
  go_wp2_with fail
  refine HSP.out.mono ?_
  rintro e w1 ⟨ao, cp, rfl, blk, hb⟩
  have hgS := blk.cell (strVs_get (P := P) (k := 0) (by rw [HP5.out]; decide))
  obtain ⟨gS, rfl, _⟩ := hgS
  have HB := Lib.hid hb
  have BL := Lib.hid blk
  clear blk hb
  go_wp2_with fail
  go_loopw [5, 6] (fun out i wr => rpRel w gS P out i wr) (fun _ i _ => 5 - (intOf i).toNat)
  case atStart => exact ⟨0, [], zF, rfl, rfl, PsSt.zero HP5.out, World.ownsRow_nil _ _ _ _, fun x hx => (by cases hx), BL.out, HB.out⟩
  case round =>
    obtain ⟨wo, rfl⟩ : ∃ wo : World, wo = wr := ⟨_, rfl⟩
    obtain ⟨k, E, F, rfl, hEk, hst, own, rows, blk, hb⟩ := hrel
    have q0 : (0 : Int) ≤ (k : Int) := by omega
    have hk5 := hst.1
    have HEK := Lib.hid hEk
    have ST := Lib.hid hst
    have OWN := Lib.hid own
    have ROWS := Lib.hid rows
    have BLK := Lib.hid blk
    have HB2 := Lib.hid hb
    obtain ⟨oo, oc, rfl⟩ := own_slK own
    clear HB BL hst rows blk hb own hEk
    by_cases hk : k < 5
    · have q1 : (k : Int) < 5 := by omega
      have hkP : k < P.length := by rw [HP5.out]; exact hk
      have q2 : (k : Int) < (P.length : Int) := by omega
      obtain ⟨p, hp⟩ : ∃ p, p = P.getD k [] := ⟨_, rfl⟩
      have hc1 := BLK.out.at (strVs_get hkP)
      have hgS2 := (BLK.out.cell (strVs_get hkP))
      have hpl : p.length ≤ 128 := by rw [hp]; exact Nat.le_trans (HMEM.out _ (getD_mem hkP)) hl8
      rw [← hp] at hc1
      obtain ⟨st, hst2⟩ : ∃ st : Bool, st = decide (p = [42]) := ⟨_, rfl⟩
      have hs2 : ((str p).toList == [42]) = st := by rw [ByteArray.toList_eq, str_data, hst2, Bool.eq_iff_iff, beq_iff_eq, decide_eq_true_eq]
      have SQ := fun W => refSplit_any 44 p (by omega) W
      rw [show ((44 : UInt8).toNat : Int) = 44 from rfl] at SQ
      have hmem := splitL_mem 44 p
      have hql : (splitL 44 p).length ≤ 129 := by
        rw [splitL_len]
        have := List.count_le_length (a := (44 : UInt8)) (l := p)
        omega
      have hfR : fieldR p (loK k) (hiK k) = pfR (splitL 44 p) (loK k) (hiK k) := rfl
      obtain ⟨Q, hQ⟩ : ∃ Q, Q = splitL 44 p := ⟨_, rfl⟩
      rw [← hQ] at SQ hmem hfR hql
      obtain ⟨SK, hSK⟩ : ∃ SK, SK = str p := ⟨_, rfl⟩
      rw [← hSK] at hc1 hs2 SQ
      have HSQ := Lib.hid SQ
      have HMQ := Lib.hid hmem
      have HFR := Lib.hid hfR
      have HP := Lib.hid hp
      have HST := Lib.hid hst2
      obtain ⟨w2, hw2⟩ : ∃ w2, w2 = wo.alloc (.cells #[.slice none 0 0, .bool st] 67) := ⟨_, rfl⟩
      obtain ⟨fB, hfB⟩ : ∃ fB, fB = wo.heap.size := ⟨_, rfl⟩
      have hb2 : Below wo.heap.size wo w2 := by rw [hw2]; exact (Below.refl _ _).alloc (Nat.le_refl _) _
      have nf : w2.heap[fB]? = some (.cells #[.slice none 0 0, .bool st] 67 (0, 0)) := by rw [hw2, hfB]; exact heap_alloc_new _ _
      have BLK2 := Lib.hid (BLK.out.below hb2)
      have hc2 := BLK2.out.at (strVs_get hkP)
      rw [← hp, ← hSK] at hc2
      have NF := Lib.hid nf
      have HW2 := Lib.hid hw2
      have HFB := Lib.hid hfB
      have HB3 := Lib.hid hb2
      clear SQ hmem hfR hQ hSK hp hst2 hw2 hfB hb2 nf hgS2
      go_upto_region 11 with fail
      rw [← HW2.out, ← HFB.out]
      go_wp2_with fail
      refine (HSQ.out _).mono ?_
      rintro e w3 ⟨qo, qc, rfl, qblk, hb3⟩
      have hQ0 : 0 < Q.length ∨ Q.length = 0 := by omega
      have QB := Lib.hid qblk
      have HB4 := Lib.hid hb3
      obtain ⟨BJ, hBJ⟩ : ∃ BJ, BJ = w3.heap.size := ⟨_, rfl⟩
      have nf3 := (hb3.block fB (lt_of_rowK NF.out)).trans NF.out
      have R0 := Lib.hid (show rpIn w3 fB BJ (loK k) (hiK k) Q st (.int .i64 0) w3 from ⟨0, [], none, 0, rfl, PfSt.zero _ _ _, Nat.le_refl _, nf3, World.ownsRow_nil _ _ _ _, rfl, rfl, rfl, by omega, fun _ _ _ => rfl⟩)
      have HBJ := Lib.hid (show fB < BJ by rw [hBJ]; exact lt_of_rowK nf3)
      have HBJ2 := Lib.hid hBJ
      clear qblk hb3 nf3 hBJ hc1 hc2
      go_wp2_with fail
      go_loopw [9] (fun i wr => rpIn w3 fB BJ (loK k) (hiK k) Q st i wr) (fun i _ => Q.length - (intOf i).toNat)
      case atStart => exact R0.out
      case round =>
        obtain ⟨wj, rfl⟩ : ∃ wj : World, wj = wr := ⟨_, rfl⟩
        obtain ⟨j, L, ao, c, rfl, pst, hLn, row, own2, rw3⟩ := hrel
        have p0 : (0 : Int) ≤ (j : Int) := by omega
        have hjQ := pst.1
        have PST := Lib.hid pst
        have ROW := Lib.hid row
        have OWN2 := Lib.hid own2
        have RW3 := Lib.hid rw3
        have qb := QB.out.keep (w' := wj) (fun gp cur e => rw3.block gp (by rw [HBJ2.out]; exact lt_of_rowK e) (fun e2 => by
          rw [e2, HB4.out.block fB (lt_of_rowK NF.out), NF.out] at e
          injection e with e
          injection e with _ e
          exact absurd e (by decide)))
        have QB2 := Lib.hid qb
        clear R0 pst row own2 rw3 qb
        by_cases hj : j < Q.length
        · have p1 : (j : Int) < (Q.length : Int) := by omega
          obtain ⟨y, hy⟩ : ∃ y, y = Q.getD j [] := ⟨_, rfl⟩
          obtain ⟨gq, rfl, hgq, hcq⟩ := QB2.out.cell (strVs_get hj)
          have hyl : y.length ≤ 1000000 := by have := HMQ.out _ (getD_mem hj); rw [hy]; omega
          rw [← hy] at hcq
          have PC := refPart_any k hk y hyl wj
          have hlen := ppR_len y (loK k) (hiK k) (hiK_le hk)
          obtain ⟨A, hA⟩ : ∃ A, A = ppR y (loK k) (hiK k) := ⟨_, rfl⟩
          rw [← hA] at PC hlen
          have HPC := Lib.hid PC
          have HY := Lib.hid hy
          have HA := Lib.hid hA
          clear PC hy hA hgq
          obtain ⟨ec, N⟩ := A
          dsimp only at hlen
          go_wp2_with fail
          refine HPC.out.mono ?_
          rintro e w4 ⟨no, nc, rfl, nblk, hb5⟩
          dsimp only at nblk ⊢
          have NB := Lib.hid nblk
          have HB5 := Lib.hid hb5
          clear nblk hb5
          by_cases he : ec = 0
          · subst he
            have e0 : (ppR (Q.getD j []) (loK k) (hiK k)).1 = 0 := by rw [← HY.out, ← HA.out]
            have e1 : (ppR (Q.getD j []) (loK k) (hiK k)).2 = N := by rw [← HY.out, ← HA.out]
            have nx := PST.out.next (hiK_le hk) hj e0
            rw [e1] at nx
            have PST2 := Lib.hid nx
            have row4 := (HB5.out.block fB (lt_of_rowK ROW.out)).trans ROW.out
            have k0 : w4.cell? ⟨fB, 0, none⟩ = some (.slice ao L.length c) := by rw [cell_of_rowW w4 fB 0 _ _ _ row4]; rfl
            have OWN4 := Lib.hid (own_belowK OWN2.out HB5.out)
            have ROW4 := Lib.hid row4
            have hL0 : L.length ≤ 64 * Q.length := by omega
            clear nx e0 e1 row4
            go_wp2_with (at_builtin; refine wpList_append_own_src _ rfl (.tmp 54) (.tmp 55) 65 65 rfl BJ 3 n0 (.int .i64 0) 1 8 Tryd.underlying65 HN.out.1 HN.out.2.1 HN.out.2.2.1 HN.out.2.2.2 rfl _ L.length (numVs L) rfl OWN4.out _ N.length (numVs N) rfl (NB.out.src Tryd.underlying65 (by simp [numVs]) (by decide) (numVs_one N)) ?b1 ?b2 ?b3 ?next)
            case b1 => unfold maxLen; omega
            case b2 => omega
            case b3 => exact Nat.le_trans RW3.out.size HB5.out.size
            case next =>
              intro v5 w5 g5
              obtain ⟨a5, c5, rfl, own5, hb6, blk5⟩ := grew_zeroK OWN4.out (Nat.le_trans RW3.out.size HB5.out.size) (Nat.le_refl _) g5
              have row5 := (blk5 fB (lt_of_rowK ROW4.out) (own_neK OWN4.out ROW4.out (by decide))).trans ROW4.out
              have k5 : w5.cell? ⟨fB, 0, none⟩ = some (.slice ao L.length c) := by rw [cell_of_rowW w5 fB 0 _ _ _ row5]; rfl
              have f5 : w5.frozen? ⟨fB, 0, none⟩ = false := frozen_of_rowK w5 fB 0 _ _ row5
              have RL := Lib.hid (show rpIn w3 fB BJ (loK k) (hiK k) Q st (.int .i64 ((j + 1 : Nat) : Int)) (w5.setCell ⟨fB, 0, none⟩ (.slice a5 (L.length + N.length) c5)) from by
                have row6 : (w5.setCell ⟨fB, 0, none⟩ (.slice a5 (L.length + N.length) c5)).heap[fB]? = some (.cells #[.slice a5 (L.length + N.length) c5, .bool st] 67 (0, 0)) := Go.Joins.block_setCell (i := 0) row5 _
                have own6 := own_keepK (w' := w5.setCell ⟨fB, 0, none⟩ (.slice a5 (L.length + N.length) c5)) own5 (fun b hb hlt => Below.heap_setCell w5 ⟨fB, 0, none⟩ _ b (fun e => own_neK own5 row5 (by decide) (by have e2 : b = fB := e; rw [← e2]; exact hb.symm)))
                have z := (Below.refl 0 w5).setCell (p := ⟨fB, 0, none⟩) (Nat.zero_le _) (.slice a5 (L.length + N.length) c5)
                refine ⟨j + 1, L ++ N, a5, c5, rfl, PST2.out, by rw [List.length_append]; omega, by rw [List.length_append]; exact row6, ?_, ?_⟩
                · rw [List.length_append]
                  have : numVs (L ++ N) = numVs L ++ numVs N := by simp [numVs]
                  rw [this]
                  exact own6
                · have h1 := RW3.out
                  have h2 := HB5.out
                  refine ⟨z.os.trans (hb6.os.trans (h2.os.trans h1.os)), z.tape.trans (hb6.tape.trans (h2.tape.trans h1.tape)), z.output.trans (hb6.output.trans (h2.output.trans h1.output)), Nat.le_trans h1.size (Nat.le_trans h2.size (Nat.le_trans hb6.size z.size)), fun q hq hne => ?_⟩
                  exact (Below.heap_setCell w5 ⟨fB, 0, none⟩ _ q hne).trans ((hb6.block q hq).trans ((h2.block q (Nat.lt_of_lt_of_le hq h1.size)).trans (h1.block q hq hne))))
              clear own5 hb6 blk5 row5 g5
              go_wp2_with fail
              exact ⟨RL.out, by simp [intOf]; omega⟩
          · have hz : (pfR Q (loK k) (hiK k)).1 = ec := by
              have e0 : (ppR (Q.getD j []) (loK k) (hiK k)).1 = ec := by rw [← HY.out, ← HA.out]
              rw [PST.out.bad hj (by rw [e0]; exact he)]
              exact e0
            have hR1 : R.1 = ec := by
              rw [HR.out, ST.out.bad hk (by rw [← HP.out, reach_lohi hk, HFR.out, hz]; exact he), ← HP.out, reach_lohi hk, HFR.out]
              exact hz
            have RL := Lib.hid (RpPost.bad (w' := w4) hR1 he (HB2.out.trans ((HB3.out.trans ((HB4.out.mono HB3.out.size).trans ((RW3.out.below (B := wo.heap.size) (by rw [HFB.out]; exact Nat.le_refl _) (by have := HBJ.out; have := HFB.out; omega) HBJ2.out).trans (HB5.out.mono (Nat.le_trans (by have := HBJ.out; have := HFB.out; omega) RW3.out.size))))).mono HB2.out.size)))
            clear hz hR1
            go_wp2_with fail
            go_ret2
            exact RL.out
        · have p1 : ¬ (j : Int) < (Q.length : Int) := by omega
          obtain rfl : j = Q.length := by omega
          have hf : fieldR p (loK k) (hiK k) = (0, L) := HFR.out.trans PST.out.done
          have nx := ST.out.next hk (by rw [← HP.out, reach_lohi hk, hf])
          rw [← HP.out, reach_lohi hk, hf] at nx
          dsimp only at nx
          rw [← HST.out] at nx
          have hbj : Below wo.heap.size wo wj := HB3.out.trans ((HB4.out.mono HB3.out.size).trans (RW3.out.below (B := wo.heap.size) (by rw [HFB.out]; exact Nat.le_refl _) (by have := HBJ.out; have := HFB.out; omega) HBJ2.out))
          have k0 : wj.cell? ⟨fB, 0, none⟩ = some (.slice ao L.length c) := by rw [cell_of_rowW wj fB 0 _ _ _ ROW.out]; rfl
          have k1 : wj.cell? ⟨fB, 1, none⟩ = some (.bool st) := by rw [cell_of_rowW wj fB 1 _ _ _ ROW.out]; rfl
          have NX := Lib.hid nx
          have OWNJ := Lib.hid (own_belowK OWN.out hbj)
          have HBO := Lib.hid hbj
          have hL0 : L.length ≤ 64 * Q.length := hLn
          clear hf nx hbj
          go_wp2_with (at_builtin; refine wpList_append_own_src _ rfl (.tmp 58) (.tmp 60) 28 28 rfl w.heap.size 67 i0 (.agg #[.slice none 0 0, .bool false]) 2 32 Tryd.underlying28 HI.out.1 HI.out.2.1 HI.out.2.2.1 HI.out.2.2.2 rfl _ k (fcs E) rfl (OWNJ.out.alloc _) _ 1 [.slice ao L.length c, .bool st] rfl (src_oneK Tryd.underlying28 wj _ rfl (fun u hu => by simp at hu; rcases hu with rfl | rfl <;> rfl)) ?b4 ?b5 ?b6 ?next2)
          case b4 => unfold maxLen; omega
          case b5 => omega
          case b6 => have := HB2.out.size; have := HBO.out.size; simp; omega
          case next2 =>
            intro v5 w5 g5
            obtain ⟨a5, c5, rfl, own5, hb6, blk5⟩ := grew_oneK OWNJ.out (Nat.le_trans HB2.out.size HBO.out.size) (Nat.le_refl _) g5
            have RL := Lib.hid (show rpRel w gS P (.slice a5 (k + 1) c5) (.int .i64 ((k + 1 : Nat) : Int)) w5 from by
              have fE : fcs (E ++ [(ao, c, L, st)]) = fcs E ++ [.slice ao L.length c, .bool st] := by rw [fcs_app]; rfl
              have dE : fdD (E ++ [(ao, c, L, st)]) = fdD E ++ [(L, st)] := by simp [fdD]
              refine ⟨k + 1, E ++ [(ao, c, L, st)], _, rfl, by simp; exact HEK.out, by rw [dE]; exact NX.out, by rw [fE]; exact own5, fun x hx => ?_, ?_, HB2.out.trans ((HBO.out.mono HB2.out.size).trans hb6)⟩
              · rcases List.mem_append.1 hx with hx | hx
                · refine ⟨(ROWS.out x hx).1, ((ROWS.out x hx).2.below HBO.out).keep (fun gp cur e => blk5 gp (lt_of_rowK e) (own_neK OWNJ.out e (by decide)))⟩
                · obtain rfl := List.mem_singleton.1 hx
                  refine ⟨by dsimp only; omega, ?_⟩
                  exact (Blk.own OWN2.out).keep (fun gp cur e => blk5 gp (lt_of_rowK e) (own_neK OWNJ.out e (by decide)))
              · exact (BLK.out.below HBO.out).keep (fun gp cur e => blk5 gp (lt_of_rowK e) (own_neK OWNJ.out e (by decide))))
            clear own5 hb6 blk5 g5
            go_wp2_with fail
            exact ⟨RL.out, by simp [intOf]; omega⟩
    · have q1 : ¬ (k : Int) < 5 := by omega
      obtain rfl : k = 5 := by omega
      have hdn := ST.out.done.1
      have hR2 : R = (0, fdD E) := HR.out.trans hdn
      obtain ⟨x0, h1, h2, h3⟩ := fcs_at E 0 (by rw [HEK.out]; decide)
      obtain ⟨gF, rfl, _, _, _⟩ := own_cellK OWN.out h2
      have RL := Lib.hid (show RpPost w R (.returned (.tuple #[.slice (some ⟨gF, 0, none⟩) 5 oc, .int .i64 0])) wo from by
        refine ⟨HB2.out, ?_⟩
        rw [hR2, if_pos rfl]
        exact ⟨gF, oc, rfl, fldAt_of HEK.out OWN.out ROWS.out⟩)
      clear hdn hR2 h1 h2 h3
      go_wp2_with fail
      go_ret2
      exact RL.out
end Go.Proofs.YthebkckcnmjehaaDoor
