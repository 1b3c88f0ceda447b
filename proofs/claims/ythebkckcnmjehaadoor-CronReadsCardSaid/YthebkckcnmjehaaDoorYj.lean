/- CronReads' walk. -/
import Derived.Test.YthebkckcnmjehaaDoorYi
namespace Go.Proofs.YthebkckcnmjehaaDoor
open Go Go.RowKit
set_option linter.unusedVariables false
set_option linter.unusedSimpArgs false
/-- A slice of numbers that came in. -/
def Lok (w : World) (ao : Option Addr) (zs : List Int) : Prop := (ao = none → zs.length = 0) ∧ ∀ ad, ao = some ad → ∀ j z, zs[j]? = some z → w.cell? (ad.add j) = some (.int .i64 z)
def loRel (w : World) (n : Nat) (u : Value) (wr : World) : Prop := ∃ k : Nat, u = .int .i64 (k : Int) ∧ k ≤ n ∧ Below w.heap.size w wr
theorem dateY_some (n : Nat) (h : n ≤ 4294967296) (w : World) (hT : CT w) : Calls Tryd.prog 13 #[.int .i64 (n : Int)] w fun e w' => e = .returned (.tuple #[.agg (dateN n).list.toArray, .int .i64 0]) ∧ Below w.heap.size w w' := by
  have hc := dateOf_any (n : Int) (by omega) w hT
  rw [show dateL (n : Int) = (dateN n).list by unfold dateL; rw [if_neg (by omega), Int.toNat_natCast], show dateE (n : Int) = 0 by unfold dateE; rw [if_neg (by omega)]] at hc
  exact hc
theorem dateY_none (z : Int) (hz : -9223372036854775808 ≤ z ∧ z ≤ 9223372036854775807) (h : z < 0 ∨ 4294967296 < z) (w : World) (hT : CT w) : Calls Tryd.prog 13 #[.int .i64 z] w fun e w' => e = .returned (.tuple #[.agg zDate.toArray, .int .i64 1]) ∧ Below w.heap.size w w' := by
  have hc := dateOf_any z hz w hT
  rw [show dateL z = zDate by unfold dateL; rw [if_pos h], show dateE z = 1 by unfold dateE; rw [if_pos h]] at hc
  exact hc
set_option maxHeartbeats 16000000 in
set_option maxRecDepth 100000 in
theorem cronReads_any (s : List UInt8) (hs : s.length ≤ 9223372036854775807) (ao : Option Addr) (c : Nat) (zs : List Int) (hzs : ∀ z ∈ zs, -9223372036854775808 ≤ z ∧ z ≤ 9223372036854775807) (w : World) (hT : CT w) (hL : Lok w ao zs) :
    Calls Tryd.prog 3 #[.string (str s), .slice ao zs.length c] w fun e w' => e = .returned (.bool true) ∧ Below w.heap.size w w' := by
  have FA := Lib.hid (finds_any w hT)
  have HT := Lib.hid hT
  have HL := Lib.hid hL
  have HZ := Lib.hid hzs
  have hsa := str_size s
  obtain ⟨SA, hSA⟩ : ∃ SA, SA = str s := ⟨_, rfl⟩
  have hSA2 := hSA
  rw [← hSA] at hsa ⊢
  clear hT hL hzs
  by_cases hl : 300 < s.length
  · have d1 : (300 : Int) < (SA.size : Int) := by omega
    clear hsa hSA hSA2
    go_enter Tryd.func3, Tryd.ntmps3
    go_wp2_with fail
    refine FA.out.mono ?_
    rintro e w1 ⟨rfl, hb1⟩
    have HB1 := Lib.hid hb1
    clear hb1
    go_wp2_with fail
    go_ret
    exact ⟨rfl, HB1.out⟩
  have d1 : ¬ (300 : Int) < (SA.size : Int) := by omega
  by_cases hz : 20 < zs.length
  · have d2 : (20 : Int) < (zs.length : Int) := by omega
    clear hsa hSA hSA2
    go_enter Tryd.func3, Tryd.ntmps3
    go_wp2_with fail
    refine FA.out.mono ?_
    rintro e w1 ⟨rfl, hb1⟩
    have HB1 := Lib.hid hb1
    clear hb1
    go_wp2_with fail
    go_ret
    exact ⟨rfl, HB1.out⟩
  have d2 : ¬ (20 : Int) < (zs.length : Int) := by omega
  have PA := fun W h => parse_any s (by omega) W h
  have PR := fun W => refParse_any s (by omega) W
  rw [← hSA] at PA PR
  obtain ⟨X, hX⟩ : ∃ X, X = parseM s := ⟨_, rfl⟩
  rw [← hX] at PA PR
  have HPA := Lib.hid PA
  have HPR := Lib.hid PR
  have HSA := Lib.hid hSA2
  clear hsa hSA hSA2 PA PR hX hl hz
  obtain ⟨ec, D⟩ := X
  go_enter Tryd.func3, Tryd.ntmps3
  go_wp2_with fail
  refine FA.out.mono ?_
  rintro e w1 ⟨rfl, hb1⟩
  have HB1 := Lib.hid hb1
  clear hb1
  go_wp2_with fail
  refine (HPA.out w1 (HT.out.below HB1.out (Nat.le_refl _))).mono ?_
  rintro e w2 ⟨hb2, hp⟩
  have HB2 := Lib.hid (HB1.out.trans (hb2.mono HB1.out.size))
  have RP := HPR.out w2
  clear hb2
  by_cases he : ec = 0
  · subst he
    rw [if_pos rfl] at hp
    obtain ⟨g, rfl, hg, hS⟩ := hp
    have HS := Lib.hid hS
    have HRP := Lib.hid RP
    clear hS RP hg
    go_wp2_with fail
    refine HRP.out.mono ?_
    rintro e w3 ⟨hb3, hp⟩
    rw [if_pos rfl] at hp
    obtain ⟨gF, cp, rfl, hF⟩ := hp
    have HB3 := Lib.hid (HB2.out.trans (hb3.mono HB2.out.size))
    have HF := Lib.hid (fun W (h : Below w3.heap.size w3 W) => hF.below h (Nat.le_refl _))
    have HS3 := Lib.hid (fun W (h : Below w3.heap.size w3 W) => (HS.out.below hb3).below h)
    have HT3 := Lib.hid (fun W (h : Below w3.heap.size w3 W) => HT.out.below (HB3.out.trans (h.mono HB3.out.size)) (Nat.le_refl _))
    clear hb3 hF
    go_wp2_with fail
    go_loopw [47] (fun i wr => loRel w3 zs.length i wr) (fun i _ => zs.length - (intOf i).toNat)
    case atStart => exact ⟨0, rfl, Nat.zero_le _, Below.refl _ _⟩
    case round =>
      obtain ⟨wq, rfl⟩ : ∃ wq : World, wq = wr := ⟨_, rfl⟩
      obtain ⟨k, rfl, hk, hb⟩ := hrel
      have HB := Lib.hid hb
      clear hb
      have q0 : (0 : Int) ≤ (k : Int) := by omega
      by_cases hkl : k < zs.length
      · obtain ⟨ad, rfl⟩ : ∃ ad, ao = some ad := by
          cases ao with
          | none => have := HL.out.1 rfl; omega
          | some ad => exact ⟨ad, rfl⟩
        obtain ⟨z, hz⟩ : ∃ z, z = zs[k] := ⟨_, rfl⟩
        have hzb := HZ.out z (by rw [hz]; exact List.getElem_mem _)
        have cell : wq.cell? (ad.add k) = some (.int .i64 z) := by
          have h := HL.out.2 ad rfl k z (by rw [hz]; exact List.getElem?_eq_getElem hkl)
          have hb2 := HB3.out.trans (HB.out.mono HB3.out.size)
          rw [hb2.cell (World.block_lt_of_cell? w _ h)]
          exact h
        have q1 : (k : Int) < (zs.length : Int) := by omega
        have SZX := Lib.hid (show ∀ x : DateD, (Tryd.prog.info? 32).map (·.size) = some x.list.toArray.size from fun x => by show _ = some 6; kernel_rfl)
        have S66 := Lib.hid (show ∀ x : DateD, 6 = x.list.toArray.size from fun x => rfl)
        clear hz
        by_cases hin : z < 0 ∨ 4294967296 < z
        · have DN := Lib.hid (dateY_none z hzb hin wq (HT3.out wq HB.out))
          have SZ0 := Lib.hid (show (Tryd.prog.info? 32).map (·.size) = some zDate.toArray.size from by show _ = some 6; kernel_rfl)
          have S60 := Lib.hid (show 6 = zDate.toArray.size from rfl)
          rcases (show z < 0 ∨ (¬ z < 0 ∧ 4294967296 < z) by omega) with c1 | ⟨c0, c1⟩
          · have c2 : ¬ 0 ≤ z := by omega
            clear hin
            go_wp2_with fail
            refine DN.out.mono ?_
            rintro e wa ⟨rfl, hba⟩
            have Ba := Lib.hid (HB.out.trans ((hba.alloc hba.size (.cells zDate.toArray 32)).mono HB.out.size))
            clear hba
            go_wp2_with (with_reducible show wpList _ _ _ _ _ _; refine wpList_store_newW rfl 32 (.tmp 11) (.tmp 54) rfl 32 _ zDate.toArray rfl rfl SZ0.out (by with_unfolding_all exact S60.out) (by kernel_rfl) ?_)
            first
              | exact ⟨⟨k + 1, by go_num, by omega, Ba.out⟩, by simp [intOf]; omega⟩
              | (go_roundw; case rel => exact ⟨k + 1, by go_num, by omega, Ba.out⟩)
          · have c2 : 0 ≤ z := by omega
            have c3 : ¬ z ≤ 4294967296 := by omega
            clear hin
            go_wp2_with fail
            refine DN.out.mono ?_
            rintro e wa ⟨rfl, hba⟩
            have Ba := Lib.hid (HB.out.trans ((hba.alloc hba.size (.cells zDate.toArray 32)).mono HB.out.size))
            clear hba
            go_wp2_with (with_reducible show wpList _ _ _ _ _ _; refine wpList_store_newW rfl 32 (.tmp 11) (.tmp 54) rfl 32 _ zDate.toArray rfl rfl SZ0.out (by with_unfolding_all exact S60.out) (by kernel_rfl) ?_)
            first
              | exact ⟨⟨k + 1, by go_num, by omega, Ba.out⟩, by simp [intOf]; omega⟩
              | (go_roundw; case rel => exact ⟨k + 1, by go_num, by omega, Ba.out⟩)
        · obtain ⟨n, rfl⟩ : ∃ n : Nat, z = (n : Int) := ⟨z.toNat, by omega⟩
          have cc1 : 0 ≤ (n : Int) := by omega
          have cc2 : (n : Int) ≤ 4294967296 := by omega
          have DN := dateY_some n (by omega) wq (HT3.out wq HB.out)
          have RD := fun W => refDate_any n (by omega) W
          have hsm := date_small n
          obtain ⟨x, hx⟩ : ∃ x, x = dateN n := ⟨_, rfl⟩
          rw [← hx] at DN RD hsm
          have FC := fun W (h : Below w3.heap.size w3 W) => fits_any g s D x hsm W (HS3.out W h)
          have RF := fun W (h : Below w3.heap.size w3 W) => refFits_any gF cp D x hsm W (HF.out W h)
          obtain ⟨b, hb⟩ : ∃ b, b = fitsN D x := ⟨_, rfl⟩
          rw [← hb] at FC RF
          have HDN := Lib.hid DN
          have HRD := Lib.hid RD
          have HFC := Lib.hid FC
          have HRF := Lib.hid RF
          clear hin DN RD hsm hx FC RF hb
          go_wp2_with fail
          refine HDN.out.mono ?_
          rintro e wa ⟨rfl, hba⟩
          obtain ⟨wb, hwb⟩ : ∃ wb, wb = wa.alloc (.cells x.list.toArray 32) := ⟨_, rfl⟩
          obtain ⟨d, hd⟩ : ∃ d, d = wa.heap.size := ⟨_, rfl⟩
          have nk : wb.heap[d]? = some (.cells x.list.toArray 32 (0, 0)) := by rw [hwb, hd]; exact heap_alloc_new _ _
          have Bb := Lib.hid (show Below w3.heap.size w3 wb by rw [hwb]; exact HB.out.trans ((hba.alloc hba.size _).mono HB.out.size))
          have NK := Lib.hid nk
          have HWB := Lib.hid hwb
          have HDD := Lib.hid hd
          clear hwb hd nk hba
          have KD := Lib.hid (show ∀ j v, x.list[j]? = some v → wb.cell? ((⟨d, 0, none⟩ : Addr).add j) = some v from fun j v hj => by
            rw [Addr.add_mid, Nat.zero_add, cell_of_rowW wb d j _ _ _ NK.out]
            simpa using hj)
          have c0 : wb.cell? ⟨d, 0, none⟩ = some (.int .i64 (x.y : Int)) := by have h := KD.out 0 _ rfl; rwa [Addr.add_mid] at h
          have c1 : wb.cell? ⟨d, 1, none⟩ = some (.int .i64 (x.m : Int)) := by have h := KD.out 1 _ rfl; rwa [Addr.add_mid] at h
          have c2 : wb.cell? ⟨d, 2, none⟩ = some (.int .i64 (x.d : Int)) := by have h := KD.out 2 _ rfl; rwa [Addr.add_mid] at h
          have c3 : wb.cell? ⟨d, 3, none⟩ = some (.int .i64 (x.h : Int)) := by have h := KD.out 3 _ rfl; rwa [Addr.add_mid] at h
          have c4 : wb.cell? ⟨d, 4, none⟩ = some (.int .i64 (x.mi : Int)) := by have h := KD.out 4 _ rfl; rwa [Addr.add_mid] at h
          have c5 : wb.cell? ⟨d, 5, none⟩ = some (.int .i64 (x.w : Int)) := by have h := KD.out 5 _ rfl; rwa [Addr.add_mid] at h
          have FC2 := Lib.hid (show Calls Tryd.prog 14 #[.pointer (some ⟨g, 0, none⟩), .agg #[.int .i64 (x.y : Int), .int .i64 (x.m : Int), .int .i64 (x.d : Int), .int .i64 (x.h : Int), .int .i64 (x.mi : Int), .int .i64 (x.w : Int)]] wb fun e w' => e = .returned (.bool b) ∧ Below wb.heap.size wb w' from HFC.out wb Bb.out)
          go_wp2_with (with_reducible show wpList _ _ _ _ _ _; refine wpList_store_newW rfl 32 (.tmp 11) (.tmp 54) rfl 32 _ x.list.toArray rfl rfl (SZX.out x) (by with_unfolding_all exact S66.out x) (DateD.one x) ?_; rw [← HWB.out, ← HDD.out])
          refine FC2.out.mono ?_
          rintro e w6 ⟨rfl, hb6⟩
          have B6 := Lib.hid (Bb.out.trans (hb6.mono Bb.out.size))
          clear hb6 c0 c1 c2 c3 c4 c5 FC2 KD
          go_wp2_with fail
          refine (HRD.out w6).mono ?_
          rintro e w7 ⟨rfl, hb7⟩
          have B7 := Lib.hid (B6.out.trans (hb7.mono B6.out.size))
          clear hb7
          go_wp2_with fail
          refine (HRF.out w7 B7.out).mono ?_
          rintro e w8 ⟨rfl, hb8⟩
          have B8 := Lib.hid (B7.out.trans (hb8.mono B7.out.size))
          clear hb8
          cases b
          · go_wp2_with fail
            first
              | exact ⟨⟨k + 1, by go_num, by omega, B8.out⟩, by simp [intOf]; omega⟩
              | (go_roundw; case rel => exact ⟨k + 1, by go_num, by omega, B8.out⟩)
          · go_wp2_with fail
            first
              | exact ⟨⟨k + 1, by go_num, by omega, B8.out⟩, by simp [intOf]; omega⟩
              | (go_roundw; case rel => exact ⟨k + 1, by go_num, by omega, B8.out⟩)
      · have q1 : ¬ (k : Int) < (zs.length : Int) := by omega
        have TX := Lib.hid (text_any g s D wq (HS3.out wq HB.out))
        rw [← HSA.out] at TX
        go_wp2_with fail
        refine TX.out.mono ?_
        rintro e w5 ⟨rfl, h5⟩
        have h6 := h5.symm
        subst h6
        clear h5
        go_wp2_with fail
        go_ret
        exact ⟨rfl, HB3.out.trans (HB.out.mono HB3.out.size)⟩
  · rw [if_neg he] at hp
    subst hp
    have HRP := Lib.hid RP
    clear RP
    go_wp2_with fail
    refine HRP.out.mono ?_
    rintro e w3 ⟨hb3, hp⟩
    rw [if_neg he] at hp
    subst hp
    have he2 : (ec != 0) = true := by simpa using he
    have HB3 := Lib.hid (HB2.out.trans (hb3.mono HB2.out.size))
    clear hb3
    go_wp2_with fail
    go_ret
    exact ⟨rfl, HB3.out⟩
end Go.Proofs.YthebkckcnmjehaaDoor
