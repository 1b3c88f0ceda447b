/- The law DiskOwn: its walk. -/
import Derived.Test.YtecjhhljjddcmaaDq
import Derived.Deep.RegionWith
namespace Go.Proofs.Ytecjhhljjddcmaa.Dk
open Go Go.RowKit
set_option linter.unusedVariables false
set_option linter.unusedSimpArgs false

/-- Numbers of a byte's size as cells. -/
def bis (zs : List Int) : List Value := zs.map (Value.int .u8)
theorem bvs_bis (l : List UInt8) : bvs l = bis (l.map fun b => (b.toNat : Int)) := by simp [bvs, bis, bv, Function.comp_def]
/-- Where a loop stands that raises each byte of a block. -/
def IncRel (w : World) (d g m n : Nat) (x : DS) (k : Nat) (t : TypeId) (u : Value) (wr : World) : Prop :=
  ∃ (j : Nat) (zs : List Int), u = .int .i64 (j : Int) ∧ j ≤ 128 ∧ zs.length = 128 ∧ wr.heap[k]? = some (.cells (bis zs).toArray t (0, 0)) ∧ DiskAt Try.prog wr d g m n x ∧ Below w.heap.size w wr
theorem inc_start {w wr : World} {d g m n : Nat} {x : DS} {k : Nat} {t : TypeId} {l : List UInt8} (h : wr.heap[k]? = some (.cells (bvs l).toArray t (0, 0))) (hl : l.length = 128) (hD : DiskAt Try.prog wr d g m n x) (hB : Below w.heap.size w wr) :
    IncRel w d g m n x k t (.int .i64 0) wr := ⟨0, l.map fun b => (b.toNat : Int), rfl, by omega, by simp [hl], by rw [bvs_bis] at h; exact h, hD, hB⟩
theorem inc_step {w wr : World} {d g m n : Nat} {x : DS} {k j : Nat} {t : TypeId} {zs : List Int} (hj : j < 128) (hz : zs.length = 128) (h : wr.heap[k]? = some (.cells (bis zs).toArray t (0, 0))) (hD : DiskAt Try.prog wr d g m n x) (hB : Below w.heap.size w wr) (hk : ¬ own3 d g m k) (hw : w.heap.size ≤ k) :
    wr.cell? ⟨k, j, none⟩ = some (.int .u8 (zs.getD j 0)) ∧ wr.frozen? ⟨k, j, none⟩ = false ∧ ∀ z : Int, IncRel w d g m n x k t (.int .i64 ((j + 1 : Nat) : Int)) (wr.setCell ⟨k, j, none⟩ (.int .u8 z)) := by
  refine ⟨?_, frozen_of_row wr k j _ _ h, fun z => ⟨j + 1, zs.set j z, rfl, by omega, by simp [hz], ?_, ?_, hB.setCell hw _⟩⟩
  · rw [cell_of_row wr k j _ _ _ h]
    simp [bis, List.getD, hz, hj]
  · have := Go.Joins.block_setCell (i := j) h (.int .u8 z)
    simpa [bis, List.map_set] using this
  · have hne : ∀ i, own3 d g m i → i ≠ k := fun i hi e => hk (e ▸ hi)
    exact hD.keep (Below.heap_setCell wr ⟨k, j, none⟩ _ d (hne d (.inl rfl))) (Below.heap_setCell wr ⟨k, j, none⟩ _ g (hne g (.inr (.inl rfl)))) (Below.heap_setCell wr ⟨k, j, none⟩ _ m (hne m (.inr (.inr rfl))))
def oA (p : List UInt8) : DS := ⟨[zeros], upd (fun _ => none) 0 p, -1, false, 1, 0⟩
def oB (p : List UInt8) : DS := ⟨[p], fun _ => none, -1, false, 1, 1⟩
theorem own_a {p : List UInt8} (hp : p.length = 128) : (DS.new 1).write 0 p = oA p ∧ (DS.new 1).wcode 0 128 = 0 := by
  constructor
  · simp [DS.write, DS.new, DS.has, DS.spend, oA, hp, wrap64]
  · simp [DS.wcode, DS.new, DS.has]
theorem own_b {p : List UInt8} : (oA p).flush = oB p ∧ (oA p).fcode = 0 := by
  constructor
  · simp [DS.flush, DS.spend, oA, oB, wrap64, laid, upd]
  · simp [DS.fcode, oA]
theorem own_r {p : List UInt8} : (oA p).read 0 = (p, 0) ∧ (oB p).read 0 = (p, 0) ∧ (oB p).sure 0 = (p, 0) := by
  refine ⟨?_, ?_, ?_⟩
  · simp [DS.read, oA, upd]
  · simp [DS.read, DS.sure, DS.has, oB]
  · simp [DS.sure, DS.has, oB]
theorem own_in {p : List UInt8} : ∀ i l, wfi i → (oA p).S i = some l → (oA p).has i = true := by
  intro i l _ h
  simp [oA, upd] at h
  simp [DS.has, oA, h.1]
theorem sl_row {w : World} {k n c : Nat} {t : TypeId} {l : List UInt8} (h : w.heap[k]? = some (.cells (bvs l).toArray t (0, 0))) (hl : l.length = n) : Sl w (.slice (some ⟨k, 0, none⟩) n c) l := by
  refine ⟨some ⟨k, 0, none⟩, c, (by rw [hl]), (fun e => by cases e), fun a ha j u hu => ?_⟩
  cases ha
  rw [Addr.add_mid, cell_of_row w k (0 + j) _ _ _ h, Nat.zero_add]
  simpa using hu
theorem own_long (ao : Option Addr) (c : Nat) (xs : List UInt8) (w : World) (h : 128 < xs.length) :
    Calls Try.prog 9 #[.slice ao xs.length c] w fun e w' => e = .returned (.bool true) ∧ Below w.heap.size w w' := by
  have hi : (128 : Int) < (xs.length : Int) := by omega
  go_enter Try.func9, Try.ntmps9
  go_wp2_with fail
  refine (works_any w).mono ?_
  rintro e w0 ⟨rfl, hB0⟩
  go_wp2_with fail
  go_ret
  exact ⟨rfl, hB0⟩
set_option maxRecDepth 100000 in
set_option maxHeartbeats 4000000 in
theorem own_short (ao : Option Addr) (c : Nat) (xs : List UInt8) (w : World) (hS : Sl w (.slice ao xs.length c) xs) (h : xs.length ≤ 128) :
    Calls Try.prog 9 #[.slice ao xs.length c] w fun e w' => e = .returned (.bool true) ∧ Below w.heap.size w w' := by
  have hi : ¬ (128 : Int) < (xs.length : Int) := by omega
  have HS := Lib.hid hS
  clear hS
  obtain ⟨p, hp⟩ : ∃ p, p = pad xs := ⟨_, rfl⟩
  have hpl : p.length = 128 := by rw [hp]; exact pad_length xs
  have HP := Lib.hid hp
  have PL := Lib.hid hpl
  clear hp hpl
  go_enter Try.func9, Try.ntmps9
  go_wp2_with fail
  refine (works_any w).mono ?_
  rintro e w0 ⟨rfl, hB0⟩
  have HB0 := Lib.hid hB0
  clear hB0
  go_wp2_with fail
  refine (new_any 1 (by decide) (by decide) w0).mono ?_
  rintro e w1 ⟨d, g, m, rfl, hD1, hb1, hd, hg, hm⟩
  have HD1 := Lib.hid hD1
  have HB1 := Lib.hid (HB0.out.trans (hb1.mono HB0.out.size))
  have OWN := Lib.hid (show ∀ i, own3 d g m i → w.heap.size ≤ i from fun i h => by have := HB0.out.size; rcases h with h | h | h <;> omega)
  have OLT := Lib.hid (show ∀ i, own3 d g m i → i < w1.heap.size from fun i h => h.elim (fun h => h ▸ HD1.out.dlt) (fun h => h.elim (fun h => h ▸ HD1.out.glt) (fun h => h ▸ HD1.out.mlt)))
  clear hD1 hb1 hd hg hm
  go_wp2_with fail
  refine (sector_any (HS.out.below HB1.out)).mono ?_
  rintro e w2 ⟨v, rfl, ⟨k, rfl, hk, hrow, _⟩, hb2⟩
  rw [← HP.out] at hrow
  have hD2 := HD1.out.below hb2 (Nat.le_refl _)
  have hk3 : ¬ own3 d g m k := fun h => by have := OLT.out k h; omega
  have W1 := Lib.hid (write_own hD2 (by unfold maxLen; decide) 0 (by unfold wfi; decide) ⟨k, rfl, hrow, PL.out, hk3⟩)
  rw [(own_a PL.out).1, (own_a PL.out).2] at W1
  have HB2 := Lib.hid (HB1.out.trans (hb2.mono HB1.out.size))
  have HR2 := Lib.hid hrow
  have K3 := Lib.hid hk3
  have WK := Lib.hid (show w.heap.size ≤ k from by have := HB1.out.size; omega)
  clear hD2 hb2 hrow hk3 HD1
  go_wp2_with fail
  refine W1.out.mono ?_
  rintro e w3 ⟨rfl, hD3, hF3⟩
  have hr3 := (hF3.block k (lt_of_row HR2.out) K3.out).trans HR2.out
  have HB3 := Lib.hid (HB2.out.trans (hF3.below (fun i _ h => OWN.out i h) HB2.out.size))
  have I1 := Lib.hid (inc_start hr3 PL.out hD3 HB3.out)
  clear hr3 hD3 hF3 W1
  go_wp2_with fail
  go_loopw [36] (fun u wr => IncRel w d g m (0 + 1) (oA p) k 5 u wr) (fun u _ => 128 - (intOf u).toNat)
  case atStart => exact I1.out
  case round =>
    obtain ⟨wo, rfl⟩ : ∃ wo : World, wo = wr := ⟨_, rfl⟩
    obtain ⟨j, zs, rfl, hj, hz, hrow, hD, hB⟩ := hrel
    by_cases hjl : j < 128
    · have hji : (j : Int) < 128 := by omega
      obtain ⟨hc, hf, hst⟩ := inc_step hjl hz hrow hD hB K3.out WK.out
      have ST := Lib.hid hst
      clear hst hrow hD hB
      go_wp2_with fail
      exact ⟨ST.out _, by simp [intOf]; omega⟩
    · obtain rfl : j = 128 := by omega
      have HD := Lib.hid hD
      have HB := Lib.hid hB
      have RD := Lib.hid (read_any hD 0 (by unfold wfi; decide))
      rw [own_r.1] at RD
      clear hD hB hrow I1
      rw [show ((128 : Nat) : Int) = 128 from rfl]
      go_wp2_with fail
      refine RD.out.mono ?_
      rintro e w4 ⟨v, rfl, ha, hb4⟩
      unfold Ans at ha
      rw [if_pos rfl] at ha
      obtain ⟨k4, rfl, hk4, hr4, _⟩ := ha
      dsimp only at hr4
      have hk4' : ¬ own3 d g m k4 := fun h => by have := h.elim (fun h => h ▸ HD.out.dlt) (fun h => h.elim (fun h => h ▸ HD.out.glt) (fun h => h ▸ HD.out.mlt)); omega
      have hD4 := HD.out.below hb4 (Nat.le_refl _)
      have hB4 := HB.out.trans (hb4.mono HB.out.size)
      have I2 := Lib.hid (inc_start hr4 PL.out hD4 hB4)
      have K4 := Lib.hid hk4'
      have WK4 := Lib.hid (show w.heap.size ≤ k4 from by have := HB.out.size; omega)
      clear hk4' hD4 hB4 hr4 hb4 RD HD HB hk4
      go_wp2_with fail
      go_loopw [53] (fun u wr => IncRel w d g m (0 + 1) (oA p) k4 150 u wr) (fun u _ => 128 - (intOf u).toNat)
      case atStart => exact I2.out
      case round =>
        obtain ⟨wp, rfl⟩ : ∃ wo : World, wo = wr := ⟨_, rfl⟩
        obtain ⟨j, zs, rfl, hj, hz, hrow, hD, hB⟩ := hrel
        by_cases hjl : j < 128
        · have hji : (j : Int) < 128 := by omega
          obtain ⟨hc, hf, hst⟩ := inc_step hjl hz hrow hD hB K4.out WK4.out
          have ST := Lib.hid hst
          clear hst hrow hD hB
          go_wp2_with fail
          exact ⟨ST.out _, by simp [intOf]; omega⟩
        · obtain rfl : j = 128 := by omega
          have HB := Lib.hid hB
          have FL := Lib.hid (flush_any hD own_in)
          rw [own_b.1, own_b.2] at FL
          clear hD hB hrow I2
          rw [show ((128 : Nat) : Int) = 128 from rfl]
          go_wp2_with fail
          refine FL.out.mono ?_
          rintro e w5 ⟨rfl, hD5, hF5⟩
          have HB5 := Lib.hid (HB.out.trans (hF5.below (fun i _ h => OWN.out i h) HB.out.size))
          have HD5 := Lib.hid hD5
          have RD := Lib.hid (read_any hD5 0 (by unfold wfi; decide))
          rw [own_r.2.1] at RD
          clear hD5 hF5 FL HB
          go_wp2_with fail
          refine RD.out.mono ?_
          rintro e w6 ⟨v, rfl, ha, hb6⟩
          unfold Ans at ha
          rw [if_pos rfl] at ha
          obtain ⟨k6, rfl, hk6, hr6, _⟩ := ha
          dsimp only at hr6
          have hk6' : ¬ own3 d g m k6 := fun h => by have := h.elim (fun h => h ▸ HD5.out.dlt) (fun h => h.elim (fun h => h ▸ HD5.out.glt) (fun h => h ▸ HD5.out.mlt)); omega
          have hD6 := HD5.out.below hb6 (Nat.le_refl _)
          have hB6 := HB5.out.trans (hb6.mono HB5.out.size)
          have J6 := Lib.hid (inc_start hr6 PL.out hD6 hB6)
          have K6 := Lib.hid hk6'
          have WK6 := Lib.hid (show w.heap.size ≤ k6 from by have := HB5.out.size; omega)
          clear hk6' hD6 hB6 hr6 hb6 RD HD5 HB5 hk6
          go_wp2_with fail
          go_loopw [72] (fun u wr => IncRel w d g m (0 + 1) (oB p) k6 150 u wr) (fun u _ => 128 - (intOf u).toNat)
          case atStart => exact J6.out
          case round =>
            obtain ⟨wr3, rfl⟩ : ∃ wo : World, wo = wr := ⟨_, rfl⟩
            obtain ⟨j, zs, rfl, hj, hz, hrow, hD, hB⟩ := hrel
            by_cases hjl : j < 128
            · have hji : (j : Int) < 128 := by omega
              obtain ⟨hc, hf, hst⟩ := inc_step hjl hz hrow hD hB K6.out WK6.out
              have ST := Lib.hid hst
              clear hst hrow hD hB
              go_wp2_with fail
              exact ⟨ST.out _, by simp [intOf]; omega⟩
            · obtain rfl : j = 128 := by omega
              have HBx := Lib.hid hB
              have HDx := Lib.hid hD
              have RD := Lib.hid (sure_any hD 0)
              rw [own_r.2.2] at RD
              clear hD hB hrow J6
              rw [show ((128 : Nat) : Int) = 128 from rfl]
              go_wp2_with fail
              refine RD.out.mono ?_
              rintro e w7 ⟨v, rfl, ha, hb7⟩
              unfold Ans at ha
              rw [if_pos rfl] at ha
              obtain ⟨k7, rfl, hk7, hr7, _⟩ := ha
              dsimp only at hr7
              have hk7' : ¬ own3 d g m k7 := fun h => by have := h.elim (fun h => h ▸ HDx.out.dlt) (fun h => h.elim (fun h => h ▸ HDx.out.glt) (fun h => h ▸ HDx.out.mlt)); omega
              have hD7 := HDx.out.below hb7 (Nat.le_refl _)
              have hB7 := HBx.out.trans (hb7.mono HBx.out.size)
              have J7 := Lib.hid (inc_start hr7 PL.out hD7 hB7)
              have K7 := Lib.hid hk7'
              have WK7 := Lib.hid (show w.heap.size ≤ k7 from by have := HBx.out.size; omega)
              clear hk7' hD7 hB7 hr7 hb7 RD HDx HBx hk7
              go_wp2_with fail
              go_loopw [89] (fun u wr => IncRel w d g m (0 + 1) (oB p) k7 150 u wr) (fun u _ => 128 - (intOf u).toNat)
              case atStart => exact J7.out
              case round =>
                obtain ⟨wr4, rfl⟩ : ∃ wo : World, wo = wr := ⟨_, rfl⟩
                obtain ⟨j, zs, rfl, hj, hz, hrow, hD, hB⟩ := hrel
                by_cases hjl : j < 128
                · have hji : (j : Int) < 128 := by omega
                  obtain ⟨hc, hf, hst⟩ := inc_step hjl hz hrow hD hB K7.out WK7.out
                  have ST := Lib.hid hst
                  clear hst hrow hD hB
                  go_wp2_with fail
                  exact ⟨ST.out _, by simp [intOf]; omega⟩
                · obtain rfl : j = 128 := by omega
                  have HBx := Lib.hid hB
                  have HDx := Lib.hid hD
                  have RD := Lib.hid (read_any hD 0 (by unfold wfi; decide))
                  rw [own_r.2.1] at RD
                  clear hD hB hrow J7
                  rw [show ((128 : Nat) : Int) = 128 from rfl]
                  go_wp2_with fail
                  refine RD.out.mono ?_
                  rintro e w8 ⟨v, rfl, ha, hb8⟩
                  unfold Ans at ha
                  rw [if_pos rfl] at ha
                  obtain ⟨k8, rfl, hk8, hr8, _⟩ := ha
                  dsimp only at hr8
                  have hB8 := HBx.out.trans (hb8.mono HBx.out.size)
                  have SN : Sl w8 (.slice (some ⟨k8, 0, none⟩) 128 128) p := sl_row hr8 PL.out
                  have SND : Sl w8.drew (.slice (some ⟨k8, 0, none⟩) 128 128) p := SN
                  have SA := HS.out.below hB8.drew
                  have cv0 := SND.convert.1
                  have N8 := Lib.hid SN
                  have A8 := Lib.hid SA
                  have B8 := Lib.hid hB8
                  have KL := Lib.hid (lt_of_row hr8)
                  clear SN SND SA hB8 hb8 hr8 RD HBx HDx
                  go_wp2_with fail
                  go_region_with (first
                    | (go_at_call 50; refine (sector_any A8.out).mono ?_; rintro e w9 ⟨v9, rfl, ⟨k9, rfl, hk9, hr9, _⟩, hb9⟩; rw [← HP.out] at hr9; have cv9 := (sl_row (n := 128) (c := 128) hr9 PL.out).convert.1; have cv8 := (Sl.below (w' := w9) (show Sl w8.drew (.slice (some ⟨k8, 0, none⟩) 128 128) p from N8.out) hb9).convert.1; have B9 := Lib.hid (B8.out.drew.trans (hb9.mono B8.out.drew.size)); clear hr9 hb9))
                  all_goals
                    go_wp2_with fail
                    go_ret
                    first | exact ⟨rfl, B9.out⟩ | exact ⟨by simp, B9.out⟩
theorem own_any (ao : Option Addr) (c : Nat) (xs : List UInt8) (w : World) (hS : Sl w (.slice ao xs.length c) xs) :
    Calls Try.prog 9 #[.slice ao xs.length c] w fun e w' => e = .returned (.bool true) ∧ Below w.heap.size w w' := by
  by_cases h : 128 < xs.length
  · exact own_long ao c xs w h
  · exact own_short ao c xs w hS (by omega)
end Go.Proofs.Ytecjhhljjddcmaa.Dk
