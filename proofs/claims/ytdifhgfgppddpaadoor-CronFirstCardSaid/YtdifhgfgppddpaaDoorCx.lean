/- CronFirst's walk. -/
import Derived.Test.YtdifhgfgppddpaaDoorCw
import Derived.Test.YtdifhgfgppddpaaDoorCv
namespace Go.Proofs.YtdifhgfgppddpaaDoor
open Go Go.RowKit
set_option linter.unusedVariables false
set_option linter.unusedSimpArgs false
/-- A slice of numbers that came in. -/
def Look (w : World) (ao : Option Addr) (zs : List Int) : Prop := (ao = none → zs.length = 0) ∧ ∀ ad, ao = some ad → ∀ j z, zs[j]? = some z → w.cell? (ad.add j) = some (.int .i64 z)
def lkRel (w : World) (n : Nat) (u : Value) (wr : World) : Prop := ∃ k : Nat, u = .int .i64 (k : Int) ∧ k ≤ n ∧ Below w.heap.size w wr
theorem date_some (n : Nat) (h : n ≤ 4294967296) (w : World) (hT : CT w) : Calls Tryd.prog 13 #[.int .i64 (n : Int)] w fun e w' => e = .returned (.tuple #[.agg (dateN n).list.toArray, .int .i64 0]) ∧ Below w.heap.size w w' := by
  have hc := dateOf_any (n : Int) (by omega) w hT
  rw [show dateL (n : Int) = (dateN n).list by unfold dateL; rw [if_neg (by omega), Int.toNat_natCast], show dateE (n : Int) = 0 by unfold dateE; rw [if_neg (by omega)]] at hc
  exact hc
set_option maxHeartbeats 16000000 in
set_option maxRecDepth 100000 in
theorem cronFirst_any (s : List UInt8) (t : Int) (ht : -9223372036854775808 ≤ t ∧ t ≤ 9223372036854775807) (hs : s.length ≤ 9223372036854775807) (ao : Option Addr) (c : Nat) (zs : List Int) (w : World) (hT : CT w) (hL : Look w ao zs) :
    Calls Tryd.prog 6 #[.string (str s), .int .i64 t, .slice ao zs.length c] w fun e w' => e = .returned (.bool true) ∧ Below w.heap.size w w' := by
  have FA := Lib.hid (finds_any w hT)
  have HT := Lib.hid hT
  have HL := Lib.hid hL
  have hsa := str_size s
  obtain ⟨SA, hSA⟩ : ∃ SA, SA = str s := ⟨_, rfl⟩
  rw [← hSA] at hsa ⊢
  clear hT hL
  by_cases hbad : (128 < s.length ∨ 30 < zs.length) ∨ (t < -1 ∨ 2147483648 < t)
  · have i1 : (128 : Int) < (SA.size : Int) ∨ ¬ (128 : Int) < (SA.size : Int) := by omega
    have i2 : (30 : Int) < (zs.length : Int) ∨ ¬ (30 : Int) < (zs.length : Int) := by omega
    have i3 : t < -1 ∨ ¬ t < -1 := by omega
    have hbad' : (128 : Int) < (SA.size : Int) ∨ (30 : Int) < (zs.length : Int) ∨ t < -1 ∨ (2147483648 : Int) < t := by omega
    clear hSA hbad hsa hs
    rcases i1 with j1 | j1
    · go_enter Tryd.func6, Tryd.ntmps6
      go_wp2_with fail
      refine FA.out.mono ?_
      rintro e w1 ⟨rfl, hb1⟩
      have HB1 := Lib.hid hb1
      clear hb1
      go_wp2_with fail
      go_ret
      exact ⟨rfl, HB1.out⟩
    · rcases i2 with j2 | j2
      · go_enter Tryd.func6, Tryd.ntmps6
        go_wp2_with fail
        refine FA.out.mono ?_
        rintro e w1 ⟨rfl, hb1⟩
        have HB1 := Lib.hid hb1
        clear hb1
        go_wp2_with fail
        go_ret
        exact ⟨rfl, HB1.out⟩
      · rcases i3 with j3 | j3
        · go_enter Tryd.func6, Tryd.ntmps6
          go_wp2_with fail
          refine FA.out.mono ?_
          rintro e w1 ⟨rfl, hb1⟩
          have HB1 := Lib.hid hb1
          clear hb1
          go_wp2_with fail
          go_ret
          exact ⟨rfl, HB1.out⟩
        · have j4 : (2147483648 : Int) < t := by omega
          go_enter Tryd.func6, Tryd.ntmps6
          go_wp2_with fail
          refine FA.out.mono ?_
          rintro e w1 ⟨rfl, hb1⟩
          have HB1 := Lib.hid hb1
          clear hb1
          go_wp2_with fail
          go_ret
          exact ⟨rfl, HB1.out⟩
  have a30 : s.length ≤ 128 := by omega
  have z30 : zs.length ≤ 30 := by omega
  have j1 : ¬ (128 : Int) < (SA.size : Int) := by omega
  have j2 : ¬ (30 : Int) < (zs.length : Int) := by omega
  have j3 : ¬ t < -1 := by omega
  have j4 : ¬ (2147483648 : Int) < t := by omega
  have lS : s.length < 4294967281 := by omega
  have PS := Lib.hid (fun W (h : CT W) D (hD : parseM s = (0, D)) => by have := parse_ok hD lS W h; rw [← hSA] at this; exact this)
  have NS := Lib.hid (fun W (h : CT W) (v : Int) (h0 : v ≠ 0) (hD : (parseM s).1 = v) => by have := parse_bad hD h0 lS W h; rw [← hSA] at this; exact this)
  have TS := Lib.hid (parse_two s)
  have D0 := Lib.hid date_some
  have SZX := Lib.hid (show ∀ x : DateD, (Tryd.prog.info? 32).map (·.size) = some x.list.toArray.size from fun x => by show _ = some 6; kernel_rfl)
  have S66 := Lib.hid (show ∀ x : DateD, 6 = x.list.toArray.size from fun x => rfl)
  clear hbad hSA lS hsa hs
  go_enter Tryd.func6, Tryd.ntmps6
  go_wp2_with fail
  refine FA.out.mono ?_
  rintro e w1 ⟨rfl, hb1⟩
  have HB1 := Lib.hid hb1
  clear hb1
  go_wp2_with fail
  rcases TS.out with ⟨D, hD⟩ | ⟨v, v0, hD⟩
  · refine (PS.out w1 (HT.out.below HB1.out (Nat.le_refl _)) D hD).mono ?_
    rintro e w2 ⟨hb, g, rfl, hg, hs2⟩
    have HB2 := Lib.hid (HB1.out.trans (hb.mono HB1.out.size))
    have HS := Lib.hid (show ∀ W, Below w2.heap.size w2 W → SpecAt W g s D from fun W h => hs2.below h)
    clear hb hg hs2
    go_wp2_with fail
    have NX := Lib.hid (fun (tt : Int) (h : -9223372036854775808 ≤ tt ∧ tt ≤ 9223372036854775807) W (hW : Below w2.heap.size w2 W) => next_any g s D tt h W (HT.out.below (HB2.out.trans (hW.mono HB2.out.size)) (Nat.le_refl _)) (HS.out W hW))
    rcases nextV_first D t (by omega) (by omega) with ⟨hV, hno⟩ | ⟨m, hV, m1, m2, hfit, hno, hV2⟩
    · refine (NX.out t ht w2 (Below.refl _ _)).mono ?_
      rw [hV]
      rintro e w3 ⟨rfl, hb3⟩
      have B3 := Lib.hid hb3
      clear hb3 hV
      have HNO := trivial
      go_wp2_with fail
      go_loopw [60] (fun i wr => lkRel w2 zs.length i wr) (fun i _ => zs.length - (intOf i).toNat)
      case atStart => exact ⟨0, rfl, Nat.zero_le _, B3.out⟩
      case round =>
        obtain ⟨wq, rfl⟩ : ∃ wq : World, wq = wr := ⟨_, rfl⟩
        obtain ⟨k, rfl, hk, hb⟩ := hrel
        have HB := Lib.hid hb
        clear hb
        have q0 : (0 : Int) ≤ (k : Int) := by omega
        by_cases hkl : k < zs.length
        · obtain ⟨ad, rfl⟩ : ∃ ad, ao = some ad := by
            cases ao with
            | none => have := HL.out.1 rfl; omega
            | some ad => exact ⟨ad, rfl⟩
          obtain ⟨z, hz⟩ : ∃ z, z = zs[k] := ⟨_, rfl⟩
          have cell : wq.cell? (ad.add k) = some (.int .i64 z) := by
            have h := HL.out.2 ad rfl k z (by rw [hz]; exact List.getElem?_eq_getElem hkl)
            have hb2 := HB2.out.trans (HB.out.mono HB2.out.size)
            rw [hb2.cell (World.block_lt_of_cell? w _ h)]
            exact h
          have q1 : (k : Int) < (zs.length : Int) := by omega
          clear hz
          by_cases g1 : t < z
          · by_cases g2 : z < t + 527040 + 1
            · obtain ⟨xz, rfl⟩ : ∃ n : Nat, z = (n : Int) := ⟨z.toNat, by omega⟩
              have hf0 : fitsN D (dateN xz) = false := hno xz g1 (by omega)
              have hsm := date_small xz
              have dc := date_some xz (by omega) wq (HT.out.below (HB2.out.trans (HB.out.mono HB2.out.size)) (Nat.le_refl _))
              obtain ⟨x, hx⟩ : ∃ x, x = dateN xz := ⟨_, rfl⟩
              rw [← hx] at hf0 hsm dc
              have DC := Lib.hid dc
              have FC := Lib.hid (show ∀ W, Below w2.heap.size w2 W → Calls Tryd.prog 14 #[.pointer (some ⟨g, 0, none⟩), .agg x.list.toArray] W fun e w' => e = .returned (.bool false) ∧ Below W.heap.size W w' from fun W hW => by
                have := fits_any g s D x hsm W (HS.out W hW)
                rwa [hf0] at this)
              clear hf0 hsm dc hx hno HNO
              go_wp2_with fail
              refine DC.out.mono ?_
              rintro e wa ⟨rfl, hba⟩
              have Ba := Lib.hid (HB.out.trans (hba.mono HB.out.size))
              clear hba
              obtain ⟨wb, hwb⟩ : ∃ wb, wb = wa.alloc (.cells x.list.toArray 32) := ⟨_, rfl⟩
              obtain ⟨d, hd⟩ : ∃ d, d = wa.heap.size := ⟨_, rfl⟩
              have hbb : Below wa.heap.size wa wb := by rw [hwb]; exact (Below.refl _ _).alloc (Nat.le_refl _) _
              have nk : wb.heap[d]? = some (.cells x.list.toArray 32 (0, 0)) := by rw [hwb, hd]; exact heap_alloc_new _ _
              have Bb := Lib.hid (Ba.out.trans (hbb.mono Ba.out.size))
              have NK := Lib.hid nk
              have HWB := Lib.hid hwb
              have HDD := Lib.hid hd
              clear hwb hd hbb nk
              have KD := Lib.hid (show ∀ W : World, Below wb.heap.size wb W → ∀ j v, x.list[j]? = some v → W.cell? ((⟨d, 0, none⟩ : Addr).add j) = some v from fun W hW j v hj => by
                rw [Addr.add_mid, Nat.zero_add, cell_of_rowW W d j _ _ _ ((hW.block d (lt_of_rowW NK.out)).trans NK.out)]
                simpa using hj)
              go_wp2_with (first
                | (with_reducible show wpList _ _ _ _ _ _; refine wpList_store_newW rfl 32 (.tmp 13) (.tmp 75) rfl 32 _ x.list.toArray rfl rfl (SZX.out x) (by with_unfolding_all exact S66.out x) (DateD.one x) ?_; rw [← HWB.out, ← HDD.out])
                | (with_reducible show wpList _ _ _ _ _ _; refine wpList_load_allW rfl 32 (.tmp 13) rfl ⟨d, 0, none⟩ rfl x.list _ (KD.out _ (Below.refl _ _)) Tryd.underlying32 rfl (by rw [SZX.out x, List.size_toArray]) ?_))
              refine (FC.out wb Bb.out).mono ?_
              rintro e wc ⟨rfl, hbc⟩
              have BB := Lib.hid (Bb.out.trans (hbc.mono Bb.out.size))
              clear hbc
              go_wp2_with fail
              first
                | exact ⟨⟨k + 1, by go_num, by omega, BB.out⟩, by simp [intOf]; omega⟩
                | (go_roundw; case rel => exact ⟨k + 1, by go_num, by omega, BB.out⟩)
            · clear hno HNO
              have BB := HB
              go_wp2_with fail
              first
                | exact ⟨⟨k + 1, by go_num, by omega, BB.out⟩, by simp [intOf]; omega⟩
                | (go_roundw; case rel => exact ⟨k + 1, by go_num, by omega, BB.out⟩)
          · clear hno HNO
            have BB := HB
            go_wp2_with fail
            first
              | exact ⟨⟨k + 1, by go_num, by omega, BB.out⟩, by simp [intOf]; omega⟩
              | (go_roundw; case rel => exact ⟨k + 1, by go_num, by omega, BB.out⟩)
        · have q1 : ¬ (k : Int) < (zs.length : Int) := by omega
          obtain rfl : k = zs.length := by omega
          clear hno HNO
          go_wp2_with fail
          go_ret
          exact ⟨rfl, HB2.out.trans (HB.out.mono HB2.out.size)⟩
    · refine (NX.out t ht w2 (Below.refl _ _)).mono ?_
      rw [hV]
      rintro e w3 ⟨rfl, hb3⟩
      have B3 := Lib.hid hb3
      clear hb3 hV
      have HNO := trivial
      go_wp2_with fail
      go_loopw [60] (fun i wr => lkRel w2 zs.length i wr) (fun i _ => zs.length - (intOf i).toNat)
      case atStart => exact ⟨0, rfl, Nat.zero_le _, B3.out⟩
      case round =>
        obtain ⟨wq, rfl⟩ : ∃ wq : World, wq = wr := ⟨_, rfl⟩
        obtain ⟨k, rfl, hk, hb⟩ := hrel
        have HB := Lib.hid hb
        clear hb
        have q0 : (0 : Int) ≤ (k : Int) := by omega
        by_cases hkl : k < zs.length
        · obtain ⟨ad, rfl⟩ : ∃ ad, ao = some ad := by
            cases ao with
            | none => have := HL.out.1 rfl; omega
            | some ad => exact ⟨ad, rfl⟩
          obtain ⟨z, hz⟩ : ∃ z, z = zs[k] := ⟨_, rfl⟩
          have cell : wq.cell? (ad.add k) = some (.int .i64 z) := by
            have h := HL.out.2 ad rfl k z (by rw [hz]; exact List.getElem?_eq_getElem hkl)
            have hb2 := HB2.out.trans (HB.out.mono HB2.out.size)
            rw [hb2.cell (World.block_lt_of_cell? w _ h)]
            exact h
          have q1 : (k : Int) < (zs.length : Int) := by omega
          clear hz
          by_cases g1 : t < z
          · by_cases g2 : z < (m : Int)
            · obtain ⟨xz, rfl⟩ : ∃ n : Nat, z = (n : Int) := ⟨z.toNat, by omega⟩
              have hf0 : fitsN D (dateN xz) = false := hno xz g1 (by omega)
              have hsm := date_small xz
              have dc := date_some xz (by omega) wq (HT.out.below (HB2.out.trans (HB.out.mono HB2.out.size)) (Nat.le_refl _))
              obtain ⟨x, hx⟩ : ∃ x, x = dateN xz := ⟨_, rfl⟩
              rw [← hx] at hf0 hsm dc
              have DC := Lib.hid dc
              have FC := Lib.hid (show ∀ W, Below w2.heap.size w2 W → Calls Tryd.prog 14 #[.pointer (some ⟨g, 0, none⟩), .agg x.list.toArray] W fun e w' => e = .returned (.bool false) ∧ Below W.heap.size W w' from fun W hW => by
                have := fits_any g s D x hsm W (HS.out W hW)
                rwa [hf0] at this)
              clear hf0 hsm dc hx hno HNO
              go_wp2_with fail
              refine DC.out.mono ?_
              rintro e wa ⟨rfl, hba⟩
              have Ba := Lib.hid (HB.out.trans (hba.mono HB.out.size))
              clear hba
              obtain ⟨wb, hwb⟩ : ∃ wb, wb = wa.alloc (.cells x.list.toArray 32) := ⟨_, rfl⟩
              obtain ⟨d, hd⟩ : ∃ d, d = wa.heap.size := ⟨_, rfl⟩
              have hbb : Below wa.heap.size wa wb := by rw [hwb]; exact (Below.refl _ _).alloc (Nat.le_refl _) _
              have nk : wb.heap[d]? = some (.cells x.list.toArray 32 (0, 0)) := by rw [hwb, hd]; exact heap_alloc_new _ _
              have Bb := Lib.hid (Ba.out.trans (hbb.mono Ba.out.size))
              have NK := Lib.hid nk
              have HWB := Lib.hid hwb
              have HDD := Lib.hid hd
              clear hwb hd hbb nk
              have KD := Lib.hid (show ∀ W : World, Below wb.heap.size wb W → ∀ j v, x.list[j]? = some v → W.cell? ((⟨d, 0, none⟩ : Addr).add j) = some v from fun W hW j v hj => by
                rw [Addr.add_mid, Nat.zero_add, cell_of_rowW W d j _ _ _ ((hW.block d (lt_of_rowW NK.out)).trans NK.out)]
                simpa using hj)
              go_wp2_with (first
                | (with_reducible show wpList _ _ _ _ _ _; refine wpList_store_newW rfl 32 (.tmp 13) (.tmp 75) rfl 32 _ x.list.toArray rfl rfl (SZX.out x) (by with_unfolding_all exact S66.out x) (DateD.one x) ?_; rw [← HWB.out, ← HDD.out])
                | (with_reducible show wpList _ _ _ _ _ _; refine wpList_load_allW rfl 32 (.tmp 13) rfl ⟨d, 0, none⟩ rfl x.list _ (KD.out _ (Below.refl _ _)) Tryd.underlying32 rfl (by rw [SZX.out x, List.size_toArray]) ?_))
              refine (FC.out wb Bb.out).mono ?_
              rintro e wc ⟨rfl, hbc⟩
              have BB := Lib.hid (Bb.out.trans (hbc.mono Bb.out.size))
              clear hbc
              go_wp2_with fail
              first
                | exact ⟨⟨k + 1, by go_num, by omega, BB.out⟩, by simp [intOf]; omega⟩
                | (go_roundw; case rel => exact ⟨k + 1, by go_num, by omega, BB.out⟩)
            · clear hno HNO
              have BB := HB
              go_wp2_with fail
              first
                | exact ⟨⟨k + 1, by go_num, by omega, BB.out⟩, by simp [intOf]; omega⟩
                | (go_roundw; case rel => exact ⟨k + 1, by go_num, by omega, BB.out⟩)
          · clear hno HNO
            have BB := HB
            go_wp2_with fail
            first
              | exact ⟨⟨k + 1, by go_num, by omega, BB.out⟩, by simp [intOf]; omega⟩
              | (go_roundw; case rel => exact ⟨k + 1, by go_num, by omega, BB.out⟩)
        · have q1 : ¬ (k : Int) < (zs.length : Int) := by omega
          obtain rfl : k = zs.length := by omega
          clear hno HNO
          have hsm := date_small m
          have dc := date_some m (by omega) wq (HT.out.below (HB2.out.trans (HB.out.mono HB2.out.size)) (Nat.le_refl _))
          obtain ⟨x, hx⟩ : ∃ x, x = dateN m := ⟨_, rfl⟩
          rw [← hx] at hfit hsm dc
          have DC := Lib.hid dc
          have FC := Lib.hid (show ∀ W, Below w2.heap.size w2 W → Calls Tryd.prog 14 #[.pointer (some ⟨g, 0, none⟩), .agg x.list.toArray] W fun e w' => e = .returned (.bool true) ∧ Below W.heap.size W w' from fun W hW => by
            have := fits_any g s D x hsm W (HS.out W hW)
            rwa [hfit] at this)
          have mm : (m : Int) - t ≤ 527040 := by omega
          clear hfit hsm dc hx
          go_wp2_with fail
          refine DC.out.mono ?_
          rintro e wa ⟨rfl, hba⟩
          have Ba := Lib.hid (HB.out.trans (hba.mono HB.out.size))
          clear hba
          obtain ⟨wb, hwb⟩ : ∃ wb, wb = wa.alloc (.cells x.list.toArray 32) := ⟨_, rfl⟩
          obtain ⟨d, hd⟩ : ∃ d, d = wa.heap.size := ⟨_, rfl⟩
          have hbb : Below wa.heap.size wa wb := by rw [hwb]; exact (Below.refl _ _).alloc (Nat.le_refl _) _
          have nk : wb.heap[d]? = some (.cells x.list.toArray 32 (0, 0)) := by rw [hwb, hd]; exact heap_alloc_new _ _
          have Bb := Lib.hid (Ba.out.trans (hbb.mono Ba.out.size))
          have NK := Lib.hid nk
          have HWB := Lib.hid hwb
          have HDD := Lib.hid hd
          clear hwb hd hbb nk
          have KD := Lib.hid (show ∀ W : World, Below wb.heap.size wb W → ∀ j v, x.list[j]? = some v → W.cell? ((⟨d, 0, none⟩ : Addr).add j) = some v from fun W hW j v hj => by
            rw [Addr.add_mid, Nat.zero_add, cell_of_rowW W d j _ _ _ ((hW.block d (lt_of_rowW NK.out)).trans NK.out)]
            simpa using hj)
          have NC := NX.out ((m : Int) - 1) (by omega) wb Bb.out
          rw [hV2] at NC
          have NC := Lib.hid NC
          clear hV2
          go_wp2_with (with_reducible show wpList _ _ _ _ _ _; refine wpList_store_newW rfl 32 (.tmp 15) (.tmp 86) rfl 32 _ x.list.toArray rfl rfl (SZX.out x) (by with_unfolding_all exact S66.out x) (DateD.one x) ?_; rw [← HWB.out, ← HDD.out])
          refine NC.out.mono ?_
          rintro e wc ⟨rfl, hbc⟩
          have Bc := Lib.hid (Bb.out.trans (hbc.mono Bb.out.size))
          have KC := Lib.hid hbc
          clear hbc NC
          have cs := KD.out wc KC.out
          have c0 : wc.cell? ⟨d, 0, none⟩ = some (.int .i64 (x.y : Int)) := by have h := cs 0 _ rfl; rwa [Addr.add_mid] at h
          have c1 : wc.cell? ⟨d, 1, none⟩ = some (.int .i64 (x.m : Int)) := by have h := cs 1 _ rfl; rwa [Addr.add_mid] at h
          have c2 : wc.cell? ⟨d, 2, none⟩ = some (.int .i64 (x.d : Int)) := by have h := cs 2 _ rfl; rwa [Addr.add_mid] at h
          have c3 : wc.cell? ⟨d, 3, none⟩ = some (.int .i64 (x.h : Int)) := by have h := cs 3 _ rfl; rwa [Addr.add_mid] at h
          have c4 : wc.cell? ⟨d, 4, none⟩ = some (.int .i64 (x.mi : Int)) := by have h := cs 4 _ rfl; rwa [Addr.add_mid] at h
          have c5 : wc.cell? ⟨d, 5, none⟩ = some (.int .i64 (x.w : Int)) := by have h := cs 5 _ rfl; rwa [Addr.add_mid] at h
          have FC2 : Calls Tryd.prog 14 #[.pointer (some ⟨g, 0, none⟩), .agg #[.int .i64 (x.y : Int), .int .i64 (x.m : Int), .int .i64 (x.d : Int), .int .i64 (x.h : Int), .int .i64 (x.mi : Int), .int .i64 (x.w : Int)]] wc fun e w' => e = .returned (.bool true) ∧ Below wc.heap.size wc w' := FC.out wc Bc.out
          have FC2 := Lib.hid FC2
          clear cs
          go_wp2_with fail
          refine FC2.out.mono ?_
          rintro e w9 ⟨rfl, hb9⟩
          have B9 := Lib.hid (Bc.out.trans (hb9.mono Bc.out.size))
          clear hb9
          go_wp2_with fail
          go_ret
          exact ⟨rfl, HB2.out.trans (B9.out.mono HB2.out.size)⟩
  · refine (NS.out w1 (HT.out.below HB1.out (Nat.le_refl _)) v v0 hD).mono ?_
    rintro e w2 ⟨hb, rfl⟩
    have HB2 := Lib.hid (HB1.out.trans (hb.mono HB1.out.size))
    clear hb
    go_wp2_with fail
    go_ret
    exact ⟨rfl, HB2.out⟩
end Go.Proofs.YtdifhgfgppddpaaDoor
