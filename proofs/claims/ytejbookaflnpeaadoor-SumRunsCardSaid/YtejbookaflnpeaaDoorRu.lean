/- The law SumRuns: its walk. -/
import Derived.Test.YtejbookaflnpeaaDoorOl
import Derived.Deep.RegionHeld3
namespace Go.Proofs.YtejbookaflnpeaaDoor
open Go Go.RowKit
set_option linter.unusedVariables false

theorem Tryd.infoU8 : (Tryd.prog.info? 5).map (fun i => (i.zero, i.size, i.bytes)) = some (some (.int .u8 0), 1, 1) := by kernel_rfl
theorem make_bytes (n : Nat) (hn : n ≤ 1000000) (w : World) : (Instr.makeSlice 22 (.int .i64 (n : Int)) (.int .i64 (n : Int))).run Tryd.prog w = .ok (.slice (some ⟨w.heap.size, 0, none⟩) n n) (w.alloc (.cells (bvs (List.replicate n 0)).toArray 5)) := by
  obtain ⟨i, hi, hz, hs, hb⟩ := info_parts Tryd.infoU8
  have h := run_make (P := Tryd.prog) w 22 5 i _ Tryd.underlying22 hi hz .i64 .i64 n n (by omega) (Int.le_refl _) (by rw [hb]; omega) (by omega)
  simp only [Int.toNat_natCast, hs, Nat.mul_one] at h
  have hm : madeCells #[Value.int .u8 0] n = (bvs (List.replicate n 0)).toArray := by
    apply Array.toList_inj.1
    rw [toList_madeCells_one]
    simp [bvs]
    exact Or.inr rfl
  rw [h, ← hm]
  rfl
def runs (b : UInt8) (n i : Nat) : List UInt8 := List.replicate i b ++ List.replicate (n - i) 0
theorem runs_length (b : UInt8) (n i : Nat) (h : i ≤ n) : (runs b n i).length = n := by simp [runs]; omega
theorem runs_succ (b : UInt8) (n i : Nat) (h : i < n) : (runs b n i).set i b = runs b n (i + 1) := by
  unfold runs
  obtain ⟨r, hr⟩ : ∃ r, n - i = r + 1 := ⟨n - i - 1, by omega⟩
  have hr' : n - (i + 1) = r := by omega
  rw [hr, hr', List.set_append_right _ _ (by simp), List.length_replicate, Nat.sub_self, List.replicate_succ, List.set_cons_zero, List.replicate_succ', List.append_assoc]
  rfl
def RuRel (wq : World) (b : UInt8) (n : Nat) (u : Value) (wr : World) : Prop :=
  ∃ i : Nat, u = .int .i64 (i : Int) ∧ i ≤ n ∧ wr.heap[wq.heap.size]? = some (.cells (bvs (runs b n i)).toArray 5 (0, 0)) ∧ Below wq.heap.size wq wr
set_option maxRecDepth 100000 in
set_option maxHeartbeats 1000000 in
theorem runs_out {w : World} {b : UInt8} {z : Int} (ht : Tables w S0 K0) (hz : -9223372036854775808 ≤ z ∧ z ≤ 9223372036854775807) (hL : z < 0 ∨ 200 < z) :
    Calls Tryd.prog 9 #[.int .u8 ((b.toNat : Nat) : Int), .int .i64 z] w fun e w' => e = .returned (.bool true) ∧ Below w.heap.size w w' := by
  have HK := Lib.hid (known_any ht)
  have hb8 := b.toNat_lt
  clear ht
  rcases hL with hL | hL
  · go_enter Tryd.func9, Tryd.ntmps9
    go_wp2_with fail
    refine HK.out.mono ?_
    rintro e w0 ⟨rfl, hB0⟩
    go_wp2_with fail
    go_ret
    exact ⟨rfl, hB0⟩
  · have h0 : ¬ z < 0 := by omega
    go_enter Tryd.func9, Tryd.ntmps9
    go_wp2_with fail
    refine HK.out.mono ?_
    rintro e w0 ⟨rfl, hB0⟩
    go_wp2_with fail
    go_ret
    exact ⟨rfl, hB0⟩
set_option maxRecDepth 100000 in
set_option maxHeartbeats 3000000 in
theorem runs_in {w : World} {b : UInt8} {n : Nat} (ht : Tables w S0 K0) (hn : n ≤ 200) :
    Calls Tryd.prog 9 #[.int .u8 ((b.toNat : Nat) : Int), .int .i64 (n : Int)] w fun e w' => e = .returned (.bool true) ∧ Below w.heap.size w w' := by
  have hi : (n : Int) ≤ 200 := by omega
  have hb8 := b.toNat_lt
  have HK := Lib.hid (known_any ht)
  have HT := Lib.hid ht
  clear ht
  go_enter Tryd.func9, Tryd.ntmps9
  go_wp2_with fail
  refine HK.out.mono ?_
  rintro e wq ⟨rfl, hB0⟩
  have mk := make_bytes n (by omega) wq
  have n0 := heap_alloc_new wq (.cells (bvs (List.replicate n 0)).toArray 5)
  have NB := Lib.hid n0
  have HB0 := Lib.hid hB0
  clear n0 hB0 HK
  go_wp2_with fail
  go_loopw [6, 19] (fun _ u wr => RuRel wq b n u wr) (fun _ u _ => n - (intOf u).toNat)
  case atStart => exact ⟨0, rfl, Nat.zero_le _, by simpa [runs] using NB.out, (Below.refl _ _).alloc (Nat.le_refl _) _⟩
  case round =>
    obtain ⟨wr0, rfl⟩ : ∃ wr0 : World, wr0 = wr := ⟨_, rfl⟩
    obtain ⟨i, rfl, hin, hrow, hBr⟩ := hrel
    by_cases hlt : i < n
    · have hltI : (i : Int) < (n : Int) := by omega
      have gf := frozen_of_row wr0 wq.heap.size i _ _ hrow
      have hrl := runs_length b n i hin
      have gc : wr0.cell? ⟨wq.heap.size, i, none⟩ = some (.int .u8 ((((runs b n i).getD i 0).toNat : Nat) : Int)) := by
        rw [cell_of_row wr0 _ _ _ _ _ hrow]
        simp [bvs, List.getD, hrl, hlt]
        rfl
      generalize (runs b n i).getD i 0 = b0 at *
      have hs := runs_succ b n i hlt
      have HS := Lib.hid hs
      have HROW := Lib.hid hrow
      have HBR := Lib.hid hBr
      clear hs hrow hBr hrl
      go_wp2_with fail
      all_goals refine ⟨⟨i + 1, by go_num, by omega, ?_, HBR.out.setCell (by simp) _⟩, by simp [intOf]; omega⟩
      all_goals rw [heap_setCell_same wr0 wq.heap.size i _ _ _ HROW.out, ← HS.out]
      all_goals simp [bvs, List.map_set]
      all_goals rfl
    · obtain rfl : i = n := by omega
      obtain ⟨xs, hxs⟩ : ∃ xs, xs = runs b i i := ⟨_, rfl⟩
      have hxl : xs.length = i := by rw [hxs]; exact runs_length b i i (Nat.le_refl _)
      rw [← hxs] at hrow
      have HB := Lib.hid (Bs.ofRow hxl (Nat.le_refl _) hrow)
      have HBW := Lib.hid (HB0.out.trans (hBr.mono HB0.out.size))
      have HTT := Lib.hid (HT.out.below HBW.out (Nat.le_refl _))
      obtain ⟨D, hD⟩ : ∃ D, D = shaR S0 K0 xs := ⟨_, rfl⟩
      have hD2 : shaL S0 K0 xs = D := by rw [hD]; exact sha_R S0 K0 rfl S0_lt xs
      have hDl : D.length = 32 := by rw [← hD2]; exact shaL_length _ _ _
      generalize wq.heap.size = g at *
      have ofA : ∀ W k, Below wr0.heap.size wr0 W → W.heap[k]? = some (.cells #[.slice (some ⟨g, 0, none⟩) i i] 22 (0, 0)) → Calls Tryd.prog 18 #[.slice (some ⟨k, 0, none⟩) 1 1] W fun e w' => e = .returned (.agg (bvs D).toArray) ∧ Below W.heap.size W w' := by
        intro W k hW hk
        have o := of_any (Pt.one hk (HB.out.below hW (Nat.le_refl _))) (HT.out.below (HBW.out.trans (hW.mono HBW.out.size)) (Nat.le_refl _)) (by simp [bytesOf]; omega) (by simp)
        rw [show bytesOf [(Value.slice (some ⟨g, 0, none⟩) i i, xs)] = xs by simp [bytesOf], hD2] at o
        exact o
      have crcA : ∀ W k, Below wr0.heap.size wr0 W → W.heap[k]? = some (.cells #[.slice (some ⟨g, 0, none⟩) i i] 22 (0, 0)) → Calls Tryd.prog 16 #[.slice (some ⟨k, 0, none⟩) 1 1] W fun e w' => e = .returned (.int .u32 ((crcOf xs : Nat) : Int)) ∧ W = w' := by
        intro W k hW hk
        have o := crc_any (Pt.one hk (HB.out.below hW (Nat.le_refl _))) (by simp) (by simp; omega)
        rwa [show bytesOf [(Value.slice (some ⟨g, 0, none⟩) i i, xs)] = xs by simp [bytesOf]] at o
      have refA : ∀ W, Calls Tryd.prog 19 #[.string (str xs)] W fun e w' => e = .returned (.agg (bvs D).toArray) ∧ Below W.heap.size W w' := fun W =>
        (refOf_any W (str xs) (by rw [str_size]; omega)).mono fun _ _ h' => ⟨by rw [h'.1, str_list, ← hD], h'.2⟩
      have refC : ∀ W, Calls Tryd.prog 17 #[.string (str xs)] W fun e w' => e = .returned (.int .u32 ((crcOf xs : Nat) : Int)) ∧ Below W.heap.size W w' := fun W =>
        (refCRC_any W (str xs) (by rw [str_size]; omega)).mono fun _ _ h' => ⟨by rw [h'.1, str_list, crcRef_eq], h'.2⟩
      have ee : ∀ W, (binOp .eql 29 (.agg (bvs D).toArray) (.agg (bvs D).toArray)).run Tryd.prog W = .ok (.bool true) W := fun W => by
        rw [eql_sum D D hDl hDl]; simp
      have kp : ∀ W, Below wr0.heap.size wr0 W → Below wr0.heap.size wr0 W ∧ (convert 22 9 (.slice (some ⟨g, 0, none⟩) i i)).run Tryd.prog W = .ok (.string (str xs)) W := fun W hW => ⟨hW, (HB.out.below hW (Nat.le_refl _)).str⟩
      have KP := Lib.hid kp
      have OFA := Lib.hid ofA
      have CRCA := Lib.hid crcA
      have REFA := Lib.hid refA
      have REFC := Lib.hid refC
      have R0 := Lib.hid (Below.refl wr0.heap.size wr0)
      have R1 := Lib.hid (fun o => (Below.refl wr0.heap.size wr0).alloc (Nat.le_refl _) o)
      clear ofA refA crcA refC kp HB HT HTT hD hD2 hDl hrow hBr hxs hxl HB0
      generalize crcOf xs = q at *
      generalize (bvs D).toArray = DD at *
      go_wp2_with fail
      go_region_held3 (fun w' => Below wr0.heap.size wr0 w' ∧ (convert 22 9 (.slice (some ⟨g, 0, none⟩) i i)).run Tryd.prog w' = .ok (.string (str xs)) w')
        (first
          | exact KP.out _ R0.out.drew
          | exact KP.out _ (R1.out _).drew
          | exact KP.out _ bB
          | exact KP.out _ bA
          | exact KP.out _ (bB.alloc bB.size _)
          | exact KP.out _ bE
          | exact KP.out _ (bE.alloc bE.size _)
          | exact KP.out _ bF
          | exact KP.out _ (bF.alloc bF.size _))
        (first
          | (go_at_call 18; (with_reducible refine (OFA.out _ _ (R1.out _).drew (heap_alloc_new wr0 _)).mono ?_); rintro e wA ⟨rfl, hA⟩; have bA := (R1.out _).drew.trans (hA.mono (R1.out _).drew.size))
          | (go_at_call 18; (with_reducible refine (OFA.out _ _ bB cB).mono ?_); rintro e wE ⟨rfl, hE⟩; have bE := bB.trans (hE.mono bB.size))
          | (go_at_call 18; (with_reducible refine (OFA.out _ _ (bB.alloc bB.size _) (heap_alloc_new wB _)).mono ?_); rintro e wE ⟨rfl, hE⟩; have bE := (bB.alloc bB.size _).trans (hE.mono (bB.alloc bB.size _).size))
          | (go_at_call 19; (with_reducible refine (REFA.out wr0.drew).mono ?_); rintro e wB ⟨rfl, hB⟩; have bB := R0.out.drew.trans (hB.mono R0.out.drew.size))
          | (go_at_call 19; (with_reducible refine (REFA.out wA).mono ?_); rintro e wE ⟨rfl, hE⟩; have bE := bA.trans (hE.mono bA.size))
          | (go_at_call 19; (with_reducible refine (REFA.out (wr0.alloc _).drew).mono ?_); rintro e wB ⟨rfl, hB⟩; have bB := (R1.out _).drew.trans (hB.mono (R1.out _).drew.size); have cB := (hB.block wr0.heap.size (by simp)).trans (heap_alloc_new wr0 _))
          | (go_at_call 16; (with_reducible refine (CRCA.out _ _ (bE.alloc bE.size _) (heap_alloc_new wE _)).mono ?_); rintro e wC ⟨rfl, rfl⟩)
          | (go_at_call 16; (with_reducible refine (CRCA.out _ _ (bF.alloc bF.size _) (heap_alloc_new wF _)).mono ?_); rintro e wC ⟨rfl, rfl⟩)
          | (go_at_call 16; (with_reducible refine (CRCA.out _ _ bF cF).mono ?_); rintro e wC ⟨rfl, rfl⟩)
          | (go_at_call 17; (with_reducible refine (REFC.out wE).mono ?_); rintro e wF ⟨rfl, hF⟩; have bF := bE.trans (hF.mono bE.size))
          | (go_at_call 17; (with_reducible refine (REFC.out (wE.alloc _)).mono ?_); rintro e wF ⟨rfl, hF⟩; have bF := (bE.alloc bE.size _).trans (hF.mono (bE.alloc bE.size _).size); have cF := (hF.block wE.heap.size (by simp)).trans (heap_alloc_new wE _)))
      all_goals
        go_wp2_with fail
        go_ret
        first
          | exact ⟨rfl, HBW.out.trans (bF.mono HBW.out.size)⟩
          | exact ⟨rfl, HBW.out.trans ((bF.alloc bF.size _).mono HBW.out.size)⟩
theorem runs_any {w : World} {b : UInt8} {z : Int} (ht : Tables w S0 K0) (hz : -9223372036854775808 ≤ z ∧ z ≤ 9223372036854775807) :
    Calls Tryd.prog 9 #[.int .u8 ((b.toNat : Nat) : Int), .int .i64 z] w fun e w' => e = .returned (.bool true) ∧ Below w.heap.size w w' := by
  by_cases hL : z < 0 ∨ 200 < z
  · exact runs_out ht hz hL
  · obtain ⟨n, rfl⟩ : ∃ n : Nat, z = (n : Int) := ⟨z.toNat, by omega⟩
    exact runs_in ht (by omega)
end Go.Proofs.YtejbookaflnpeaaDoor
