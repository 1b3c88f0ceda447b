/- MarkTorn's walk. -/
import Derived.Test.YtgbmkolpdnenlaaMt
import Derived.Test.YtgbmkolpdnenlaaIn
import Derived.Test.YtgbmkolpdnenlaaDu
import Derived.Test.YtgbmkolpdnenlaaDc
import Derived.Test.YtgbmkolpdnenlaaTr
import Derived.Test.YtgbmkolpdnenlaaMr
import Derived.Test.YtgbmkolpdnenlaaMl
import Derived.Deep.DeepCutAuto
namespace Go.Proofs.Ytgbmkolpdnenlaa.Dk
open Go Go.RowKit
set_option linter.unusedVariables false
set_option linter.unusedSimpArgs false
/-- Where the loop stands: i of the marks have been tried. -/
structure TnSt (w wr : World) (d g m k5 : Nat) (x : DS) (lm : MkD) (i n : Nat) : Prop where
  E : DiskAt Try.prog wr d g m n x
  R : Rest x
  top : x.great 0 ≤ 2 * i
  last : x.lastMark 0 = lm
  ok : lm.Ok
  zero : lm.seq = 0 → lm = noM
  row : wr.heap[k5]? = some (.cells lm.cells.toArray 34 (0, 0))
  n : n ≤ i
  be : Below w.heap.size w wr
def TnRel (w : World) (d g m k5 N : Nat) (u : Value) (wr : World) : Prop :=
  ∃ (i : Nat) (x : DS) (lm : MkD) (n : Nat), u = .int .i64 (i : Int) ∧ i ≤ N ∧ TnSt w wr d g m k5 x lm i n
theorem rest_new : Rest (DS.new 2) := ⟨calm_new 2, rfl, fun b hb => by rw [List.eq_of_mem_replicate hb]; exact zeros_length⟩
theorem new_last : (DS.new 2).lastMark 0 = noM := by decide +kernel
theorem last_le (a b : List UInt8) : (lastM a b 2).seq ≤ max (topAt a) (topAt b) := by
  have h0 := seqAt_top a 0
  have h1 := seqAt_top b 1
  have e2 : lastM a b 2 = if isM b 1 ∧ (lastM a b 1).seq < (readM b).seq then readM b else lastM a b 1 := rfl
  have e1 : lastM a b 1 = if isM a 0 ∧ noM.seq < (readM a).seq then readM a else noM := rfl
  rw [e2]
  split
  · rename_i h
    unfold seqAt at h1
    rw [if_pos h.1] at h1
    omega
  · rw [e1]
    split
    · rename_i h
      unfold seqAt at h0
      rw [if_pos h.1] at h0
      omega
    · show (0 : Nat) ≤ _
      omega
theorem noM_small {l : MkD} (h : l = noM) : l.seq = 0 := by rw [h]; rfl
theorem tn_store {w wz : World} {d g m k5 i n : Nat} {z : DS} {lm l : MkD} (hE : DiskAt Try.prog wz d g m n z) (hR : Rest z) (ht : z.great 0 ≤ 2 * i) (hl : z.lastMark 0 = l) (ok : l.Ok) (hz : l.seq = 0 → l = noM)
    (row : wz.heap[k5]? = some (.cells lm.cells.toArray 34 (0, 0))) (hn : n ≤ i) (hk : ¬ own3 d g m k5) (hkw : w.heap.size ≤ k5) (be : Below w.heap.size w wz) : TnSt w (wz.setRow k5 l.cells.toArray) d g m k5 z l i n :=
  ⟨hE.keep (setRow_other wz k5 d _ (fun e => hk (.inl e.symm))) (setRow_other wz k5 g _ (fun e => hk (.inr (.inl e.symm)))) (setRow_other wz k5 m _ (fun e => hk (.inr (.inr e.symm)))), hR, ht, hl, ok, hz, setRow_heap _ _ _ _ _ (0, 0) row, hn, below_setRow be hkw _⟩
set_option maxRecDepth 100000 in
set_option maxHeartbeats 8000000 in
theorem torn_main {w : World} {ao : Option Addr} {c : Nat} {L : List TrD} (hL : Tries w (.slice ao L.length c) L) :
    Calls Try.prog 5 #[.slice ao L.length c] w fun e w' => e = .returned (.bool true) ∧ Below w.heap.size w w' := by
  have HL := Lib.hid hL
  have MK := Lib.hid (marks_any w)
  clear hL
  by_cases c16 : (16 : Int) < (L.length : Int)
  · go_enter Try.func5, Try.ntmps5
    go_wp2_with fail
    refine MK.out.mono ?_
    rintro e w1 ⟨rfl, hb1⟩
    have HB1 := Lib.hid hb1
    clear hb1 MK
    go_wp2_with fail
    go_ret
    exact ⟨rfl, HB1.out⟩
  go_enter Try.func5, Try.ntmps5
  go_wp2_with fail
  refine MK.out.mono ?_
  rintro e w1 ⟨rfl, hb1⟩
  have HB1 := Lib.hid hb1
  have N := Lib.hid (new_any 2 (by decide) (by decide) w1)
  clear hb1 MK
  go_wp2_with fail
  refine N.out.mono ?_
  rintro e w2 ⟨d, g, m, rfl, hD2, hb2, hd, hg, hm⟩
  have HO := Lib.hid (show ∀ i, own3 d g m i → w.heap.size ≤ i from fun i e => by have := HB1.out.size; rcases e with e | e | e <;> omega)
  have HB2 := Lib.hid (HB1.out.trans (hb2.mono HB1.out.size))
  have HD2 := Lib.hid hD2
  clear hD2 hb2 N hd hg hm HB1
  go_wp2_with fail
  have HS0 := Lib.hid (show (Try.prog.info? 34).map (·.size) = some noM.cells.toArray.size by rw [List.size_toArray]; exact Try.markSize noM_ok)
  obtain ⟨k5, hk5⟩ : ∃ k, k = w2.heap.size := ⟨_, rfl⟩
  obtain ⟨w3, hw3⟩ : ∃ w3, w3 = w2.alloc (.cells #[.int .u64 0, .int .u64 0, .int .u64 0, .int .u64 0, .int .u64 0, .int .u64 0, .int .u64 0] 34) := ⟨_, rfl⟩
  have b3 : Below w2.heap.size w2 w3 := by rw [hw3]; exact (Below.refl _ _).alloc (Nat.le_refl _) _
  have r3 : w3.heap[k5]? = some (.cells noM.cells.toArray 34 (0, 0)) := by rw [hw3, hk5]; exact heap_alloc_new _ _
  have HNO := Lib.hid (show ¬ own3 d g m k5 ∧ w.heap.size ≤ k5 from ⟨fun e => by have h1 := HD2.out.dlt; have h2 := HD2.out.glt; have h3 := HD2.out.mlt; rcases e with e | e | e <;> omega, by rw [hk5]; exact HB2.out.size⟩)
  have J0 := Lib.hid (show TnRel w d g m k5 L.length (.int .i64 0) w3 from ⟨0, DS.new 2, noM, 0, rfl, Nat.zero_le _, ⟨HD2.out.below b3 (Nat.le_refl _), rest_new, by rw [new_great]; omega, new_last, noM_ok, fun _ => rfl, r3, Nat.le_refl _, HB2.out.trans (b3.mono HB2.out.size)⟩⟩)
  rw [← hk5, ← hw3]
  clear hk5 hw3 b3 r3 HB2 HD2
  go_wp2_with fail
  go_loopw [29] (fun u wr => TnRel w d g m k5 L.length u wr) (fun u _ => L.length - (intOf u).toNat)
  case atStart => exact J0.out
  case round =>
    obtain ⟨wo, rfl⟩ : ∃ wo : World, wo = wr := ⟨_, rfl⟩
    obtain ⟨i, x, lm, n, rfl, hi, ST⟩ := hrel
    have HST := Lib.hid ST
    clear ST J0
    by_cases hil : i < L.length
    · have hii : (i : Int) < (L.length : Int) := by omega
      have hg0 : (L.getD i default).Good w := by
        obtain ⟨_, _, _, h⟩ := HL.out.at hil
        exact h
      obtain ⟨a, rfl, hcell, hg⟩ := (HL.out.below HST.out.be (Nat.le_refl _)).at hil
      obtain ⟨p, hp⟩ : ∃ p, p = L.getD i default := ⟨_, rfl⟩
      rw [← hp] at hcell hg hg0
      obtain ⟨pao, pcap, ws, pf, pa, pk⟩ := p
      have hws : ∀ u ∈ ws, u < 18446744073709551616 := hg.small
      have HUW := Lib.hid (show U64s w (.slice pao ws.length pcap) ws from hg0.ws)
      have hpf : wfi pf := hg.fuse
      have hpa : wfi pa := hg.at_
      have HC := Lib.hid hcell
      have HZ := Lib.hid (Try.trySize ⟨pao, pcap, ws, pf, pa, pk⟩)
      obtain ⟨w1, hw1⟩ : ∃ w1, w1 = wo.alloc (.cells (TrD.mk pao pcap ws pf pa pk).cells.toArray 53) := ⟨_, rfl⟩
      obtain ⟨k7, hk7⟩ : ∃ k, k = wo.heap.size := ⟨_, rfl⟩
      have hr1 : w1.heap[k7]? = some (.cells (TrD.mk pao pcap ws pf pa pk).cells.toArray 53 (0, 0)) := by rw [hw1, hk7]; exact heap_alloc_new _ _
      have b1 : Below wo.heap.size wo w1 := by rw [hw1]; exact (Below.refl _ _).alloc (Nat.le_refl _) _
      have cf0 : w1.cell? ⟨k7, 0, none⟩ = some (.slice pao ws.length pcap) := by rw [cell_of_row w1 k7 0 _ _ _ hr1]; rfl
      have cf1 : w1.cell? ⟨k7, 1, none⟩ = some (.int .i64 pf) := by rw [cell_of_row w1 k7 1 _ _ _ hr1]; rfl
      have HO1 := Lib.hid (TrD.mk pao pcap ws pf pa pk).cells_one
      have HZ2 := Lib.hid (show (Try.prog.info? 53).map (·.size) = some (TrD.mk pao pcap ws pf pa pk).cells.toArray.size by rw [List.size_toArray]; exact HZ.out)
      have HR1 := Lib.hid hr1
      have HW1 := Lib.hid hw1
      have HK7 := Lib.hid hk7
      have HB1 := Lib.hid (HST.out.be.trans (b1.mono HST.out.be.size))
      have HN7 := Lib.hid (show ¬ own3 d g m k7 ∧ k5 ≠ k7 from ⟨fun e => by have h1 := HST.out.E.dlt; have h2 := HST.out.E.glt; have h3 := HST.out.E.mlt; rcases e with e | e | e <;> omega, by have := lt_of_row HST.out.row; omega⟩)
      have HL1 := Lib.hid ((b1.block k5 (lt_of_row HST.out.row)).trans HST.out.row)
      have FU := Lib.hid (fuse_any (HST.out.E.below b1 (Nat.le_refl _)) pf hpf)
      have HPA := Lib.hid hpa
      have HWS := Lib.hid hws
      clear hg hg0 hcell hp hw1 hk7 hr1 b1 hpf hpa hws
      by_cases c6 : (6 : Int) < (ws.length : Int)
      · go_wp2_with (first
          | (with_reducible show wpList _ _ _ _ _ _; refine wpList_load_all rfl 53 (.tmp 31) rfl (a.add (i * 4)) rfl (TrD.mk pao pcap ws pf pa pk).cells _ HC.out Try.underlying53 rfl HZ.out ?_)
          | (with_reducible show wpList _ _ _ _ _ _; refine wpList_store_new rfl 53 (.tmp 7) (.tmp 32) rfl 53 #[.slice none 0 0, .int .i64 0, .int .i64 0, .bool false] (TrD.mk pao pcap ws pf pa pk).cells.toArray rfl rfl HZ2.out rfl HO1.out ?_; rw [← HW1.out, ← HK7.out]))
        go_ret
        exact ⟨rfl, HB1.out⟩
      have h6 : ws.length ≤ 6 := by omega
      have H6 := Lib.hid h6
      clear h6
      go_wp2_with (first
        | (with_reducible show wpList _ _ _ _ _ _; refine wpList_load_all rfl 53 (.tmp 31) rfl (a.add (i * 4)) rfl (TrD.mk pao pcap ws pf pa pk).cells _ HC.out Try.underlying53 rfl HZ.out ?_)
        | (with_reducible show wpList _ _ _ _ _ _; refine wpList_store_new rfl 53 (.tmp 7) (.tmp 32) rfl 53 #[.slice none 0 0, .int .i64 0, .int .i64 0, .bool false] (TrD.mk pao pcap ws pf pa pk).cells.toArray rfl rfl HZ2.out rfl HO1.out ?_; rw [← HW1.out, ← HK7.out]))
      refine FU.out.mono ?_
      rintro e w2 ⟨rfl, hE2, hF2⟩
      obtain ⟨x2, hx2⟩ : ∃ x2 : DS, x2 = { x with fuse := pf } := ⟨_, rfl⟩
      rw [← hx2] at hE2
      have hR2 : Rest x2 := by rw [hx2]; exact ⟨⟨HST.out.R.calm.up, HST.out.R.calm.S⟩, HST.out.R.n, HST.out.R.len⟩
      have hT2 : x2.great 0 ≤ 2 * i := by rw [hx2]; exact HST.out.top
      have hL2 : x2.lastMark 0 = lm := by rw [hx2]; exact HST.out.last
      have hr2 := (hF2.block k7 (lt_of_row HR1.out) HN7.out.1).trans HR1.out
      have HR2 := Lib.hid hr2
      have HL2 := Lib.hid ((hF2.block k5 (lt_of_row HL1.out) HNO.out.1).trans HL1.out)
      have HB2 := Lib.hid (HB1.out.trans (hF2.below (B := w.heap.size) (fun i _ e => HO.out i e) HB1.out.size))
      have HE2 := Lib.hid hE2
      obtain ⟨m2, hm2⟩ : ∃ m2, m2 = x2.next 0 ws := ⟨_, rfl⟩
      obtain ⟨C, hC⟩ : ∃ C, C = (x2.mark 0 m2).1 := ⟨_, rfl⟩
      obtain ⟨y, hy⟩ : ∃ y, y = (x2.mark 0 m2).2 := ⟨_, rfl⟩
      obtain ⟨t1, t2, t3, t4, t5, t6, t7⟩ := torn_step hR2 (ws := ws) H6.out HWS.out (by omega) hm2 hC hy
      obtain ⟨bm, hbm⟩ : ∃ bm, bm = pick0 C m2 := ⟨_, rfl⟩
      have hbok : bm.Ok := by
        rw [hbm]
        unfold pick0
        split
        · exact t1
        · exact noM_ok
      have hU2 : U64s w2 (.slice pao ws.length pcap) ws := HUW.out.below HB2.out (Nat.le_refl _)
      have PQ : Calls Try.prog 12 #[.pointer (some ⟨d, 0, none⟩), .int .i64 0, .slice pao ws.length pcap] w2 fun e w' => e = .returned (.tuple #[.agg bm.cells.toArray, .int .i64 C]) ∧ DiskAt Try.prog w' d g m (n + 1) y ∧ Frm (own3 d g m) w2 w' := by
        have h := put_ok HE2.out (by have := HST.out.n; unfold maxLen; omega) (fun i l _ h => by rw [hR2.calm.S] at h; cases h) 0 (by rw [hR2.n]; decide) hR2.calm.up hU2 HWS.out H6.out (by omega)
        rw [← hm2, ← hC, ← hy, ← hbm] at h
        exact h
      have hm2W : m2.W = ws ++ List.replicate (6 - ws.length) 0 := by rw [hm2]; rfl
      have hlmlt : lm.seq < m2.seq := by
        have h1 := hR2.calm.great (first := 0) (by rw [hR2.n]; decide)
        have h2 := hR2.calm.last (first := 0) (by rw [hR2.n]; decide)
        rw [← hL2, h2]
        have h3 := last_le (x2.s.getD 0 []) (x2.s.getD (0 + 1) [])
        omega
      have HXX := Lib.hid (show m2.Ok ∧ lm.seq < m2.seq ∧ m2.seq ≤ 2 * (i + 1) ∧ x2.lastMark 0 = lm ∧ y.s.length = 2 ∧ (∀ i l, wfi i → y.S i = some l → y.has i = true) ∧ m2.W = ws ++ List.replicate (6 - ws.length) 0 ∧ (C = 0 → bm = m2) from ⟨t1, hlmlt, by omega, hL2, t6, t5, hm2W, fun h => by rw [hbm]; unfold pick0; rw [if_pos h]⟩)
      have T7 := Lib.hid t7
      have HCC := Lib.hid t4
      have HBOK := Lib.hid hbok
      have PQH := Lib.hid PQ
      have cf0 : w2.cell? ⟨k7, 0, none⟩ = some (.slice pao ws.length pcap) := by rw [cell_of_row w2 k7 0 _ _ _ hr2]; rfl
      clear hE2 hF2 hx2 hT2 hr2 hm2 hC hy t1 t2 t3 t4 t5 t6 t7 hbm hbok hm2W hL2 hlmlt cf1 FU HB1 HR1 HC HZ HZ2 HO1 HW1 HK7 hU2 hR2 PQ
      go_wp2_with fail
      refine PQH.out.mono ?_
      rintro e w4 ⟨rfl, hE4, hF4⟩
      have HE4 := Lib.hid hE4
      have HB4 := Lib.hid (HB2.out.trans (hF4.below (B := w.heap.size) (fun i _ e => HO.out i e) HB2.out.size))
      have HR4 := Lib.hid ((hF4.block k7 (lt_of_row HR2.out) HN7.out.1).trans HR2.out)
      have HL4 := Lib.hid ((hF4.block k5 (lt_of_row HL2.out) HNO.out.1).trans HL2.out)
      obtain ⟨w5, hw5⟩ : ∃ w5, w5 = w4.alloc (.cells bm.cells.toArray 34) := ⟨_, rfl⟩
      obtain ⟨k8, hk8⟩ : ∃ k, k = w4.heap.size := ⟨_, rfl⟩
      have b5 : Below w4.heap.size w4 w5 := by rw [hw5]; exact (Below.refl _ _).alloc (Nat.le_refl _) _
      have HSM := Lib.hid (show (Try.prog.info? 34).map (·.size) = some bm.cells.toArray.size by rw [List.size_toArray]; exact Try.markSize HBOK.out)
      have HS7 := Lib.hid (show (#[Value.int .u64 0, .int .u64 0, .int .u64 0, .int .u64 0, .int .u64 0, .int .u64 0, .int .u64 0] : Array Value).size = bm.cells.toArray.size by have := MkD.cells_length HBOK.out; simp [this])
      have HE5 := Lib.hid (HE4.out.below b5 (Nat.le_refl _))
      have HB5 := Lib.hid (HB4.out.trans (b5.mono HB4.out.size))
      have HR5 := Lib.hid ((b5.block k7 (lt_of_row HR4.out)).trans HR4.out)
      have HL5 := Lib.hid ((b5.block k5 (lt_of_row HL4.out)).trans HL4.out)
      have HP5 := Lib.hid (show w5.heap[k8]? = some (.cells bm.cells.toArray 34 (0, 0)) ∧ ¬ own3 d g m k8 from ⟨by rw [hw5, hk8]; exact heap_alloc_new _ _, fun e => by have h1 := HE4.out.dlt; have h2 := HE4.out.glt; have h3 := HE4.out.mlt; rcases e with e | e | e <;> omega⟩)
      have HW5 := Lib.hid hw5
      have HK8 := Lib.hid hk8
      have PN := Lib.hid (pending_any HE5.out (by have := HST.out.n; omega))
      have HO5 := Lib.hid (show ∀ i, own3 d g m i → i < w5.heap.size from fun i h => h.elim (fun h => h ▸ HE5.out.dlt) (fun h => h.elim (fun h => h ▸ HE5.out.glt) (fun h => h ▸ HE5.out.mlt)))
      clear hE4 hF4 PQH HB2 HR2 HL2 HB4 HR4 HL4 HE4 HE2 b5 hw5 hk8 cf0
      go_wp2_with (with_reducible show wpList _ _ _ _ _ _; refine wpList_store_new rfl 34 (.tmp 8) (.tmp 46) rfl 34 _ bm.cells.toArray rfl rfl HSM.out HS7.out bm.cells_one ?_; rw [← HW5.out, ← HK8.out])
      refine PN.out.mono ?_
      rintro e w7 ⟨v, ss, rfl, hps, hrow, hnil, hb7⟩
      obtain ⟨av, cv, rfl, hlc, hI⟩ := intsA_of hrow
      obtain ⟨hl1, hwf, hz⟩ := T7.out ss hps
      have HE7 := Lib.hid (HE5.out.below hb7 (Nat.le_refl _))
      have HB7 := Lib.hid (HB5.out.trans (hb7.mono HB5.out.size))
      have HR7 := Lib.hid ((hb7.block k7 (lt_of_row HR5.out)).trans HR5.out)
      have HL7 := Lib.hid ((hb7.block k5 (lt_of_row HL5.out)).trans HL5.out)
      have HP7 := Lib.hid (show w7.heap[k8]? = some (.cells bm.cells.toArray 34 (0, 0)) from (hb7.block k8 (lt_of_row HP5.out.1)).trans HP5.out.1)
      have HI := Lib.hid hI
      have HZ := Lib.hid hz
      have HWF := Lib.hid hwf
      have cf2 : w7.cell? ⟨k7, 2, none⟩ = some (.int .i64 pa) := by rw [cell_of_row w7 k7 2 _ _ _ HR7.out]; rfl
      have cf3 : w7.cell? ⟨k7, 3, none⟩ = some (.bool pk) := by rw [cell_of_row w7 k7 3 _ _ _ HR7.out]; rfl
      clear hps hrow hnil hb7 hI hz hwf PN HE5 HB5 HR5 HL5 T7 hlc HW5 HK8 HSM HS7
      go_upto_if 52 with fail
      go_cut [11] (fun s11 wx => s11 = .int .i64 (tearOf ss) ∧ wx = w7)
      case first =>
        rcases ss with _ | ⟨t, ss⟩
        · go_wp2_with fail
          go_meet
          exact ⟨rfl, rfl⟩
        · obtain ⟨gp, rfl, hgb, hgl, hcp'⟩ := HI.out 0 (by simp)
          have hcp : w7.cell? ⟨gp, 0, none⟩ = some (.int .i64 t) := hcp'
          have hpos : 0 < (t :: ss).length := by simp
          clear hcp' hgb hgl
          go_wp2_with fail
          go_meet
          exact ⟨rfl, rfl⟩
      case rest =>
        obtain ⟨rfl, h7⟩ := hcut
        have h7' := h7.symm
        subst h7'
        go_upto_if 58 with fail
        go_cut [10] (fun s10 wx => (∃ ko kc, s10 = .slice ko (keepOf pk ss).length kc ∧ IntsA w7 w5.heap.size ko (keepOf pk ss)) ∧ wx = w7)
        case first =>
          cases pk
          · go_wp2_with fail
            go_meet
            exact ⟨⟨none, 0, rfl, fun j hj => absurd hj (by simp [keepOf])⟩, rfl⟩
          · go_wp2_with fail
            go_meet
            exact ⟨⟨av, cv, rfl, HI.out⟩, rfl⟩
        case rest =>
          obtain ⟨⟨ko, kc, rfl, hK⟩, h7⟩ := hcut
          have h7' := h7.symm
          subst h7'
          obtain ⟨zz, hzz⟩ : ∃ zz, zz = (y.crash (keepOf pk ss) (tearOf ss) pa).up := ⟨_, rfl⟩
          obtain ⟨zr, zt, zl⟩ := HZ.out pk pa zz hzz
          have hkl : (keepOf pk ss).length ≤ 1 := by unfold keepOf; split <;> simp_all
          have hkw : ∀ z ∈ keepOf pk ss, wfi z := by
            intro z hz
            unfold keepOf at hz
            split at hz
            · exact HWF.out z hz
            · cases hz
          have htw : wfi (tearOf ss) := by
            cases ss with
            | nil => exact WalkArith.wf_i64 (by decide)
            | cons t ss => exact HWF.out t (by simp)
          have CR := Lib.hid (crash_any HE7.out HXX.out.2.2.2.2.2.1 ko kc (keepOf pk ss) (by omega) (fun j hj => by
            obtain ⟨gp, e1, e2, e3, e4⟩ := hK j hj
            refine ⟨_, e1, by rw [zaddA]; exact e4, fun e => ?_⟩
            rw [zaddA] at e
            have := HO5.out gp e
            omega) hkw (tearOf ss) pa htw HPA.out)
          -- which mark is had then
          obtain ⟨l, hl⟩ : ∃ l, l = zz.lastMark 0 := ⟨_, rfl⟩
          rw [HXX.out.2.2.2.1, ← hl] at zl
          have hlok : l.Ok := by
            rcases zl with e | ⟨_, e⟩
            · rw [e]; exact HXX.out.1
            · rw [e]; exact HST.out.ok
          have hlz : l.seq = 0 → l = noM := by
            intro h0
            rcases zl with e | ⟨_, e⟩
            · rw [e] at h0
              have := HXX.out.2.1
              omega
            · rw [e] at h0 ⊢
              exact HST.out.zero h0
          obtain ⟨G, hG⟩ : ∃ G : Int, (0 < l.seq ∧ G = 0) ∨ (l.seq = 0 ∧ G = 4) := by
            by_cases h0 : 0 < l.seq
            · exact ⟨0, .inl ⟨h0, rfl⟩⟩
            · exact ⟨4, .inr ⟨by omega, rfl⟩⟩
          have HG := Lib.hid hG
          have HZF := Lib.hid (show Rest zz ∧ zz.great 0 ≤ 2 * (i + 1) ∧ zz.lastMark 0 = l ∧ l.Ok ∧ (l.seq = 0 → l = noM) from ⟨zr, by have := HXX.out.2.2.1; omega, hl.symm, hlok, hlz⟩)
          have HZL := Lib.hid zl
          have HZ3 := Lib.hid hzz
          clear hkl hkw htw hK hzz zr zt zl hlok hlz hG hl HZ HWF HI
          go_wp2_with fail
          refine CR.out.mono ?_
          rintro e w8 ⟨rfl, hE8, hF8⟩
          have HE8 := Lib.hid hE8
          have HB8 := Lib.hid (HB7.out.trans (hF8.below (B := w.heap.size) (fun i _ e => HO.out i e) HB7.out.size))
          have HR8 := Lib.hid ((hF8.block k7 (lt_of_row HR7.out) HN7.out.1).trans HR7.out)
          have HL8 := Lib.hid ((hF8.block k5 (lt_of_row HL7.out) HNO.out.1).trans HL7.out)
          have HP8 := Lib.hid ((hF8.block k8 (lt_of_row HP7.out) HP5.out.2).trans HP7.out)
          have UP := Lib.hid (up_any HE8.out)
          clear hE8 hF8 CR HB7 HE7 HR7 HL7 HP7
          go_wp2_with fail
          refine UP.out.mono ?_
          rintro e w9 ⟨rfl, hE9, hF9⟩
          rw [← HZ3.out] at hE9
          have HE9 := Lib.hid hE9
          have HB9 := Lib.hid (HB8.out.trans (hF9.below (B := w.heap.size) (fun i _ e => HO.out i e) HB8.out.size))
          have HR9 := Lib.hid ((hF9.block k7 (lt_of_row HR8.out) HN7.out.1).trans HR8.out)
          have HL9 := Lib.hid ((hF9.block k5 (lt_of_row HL8.out) HNO.out.1).trans HL8.out)
          have HP9 := Lib.hid ((hF9.block k8 (lt_of_row HP8.out) HP5.out.2).trans HP8.out)
          have GU : Calls Try.prog 16 #[.pointer (some ⟨d, 0, none⟩), .int .i64 0] w9 fun e w' => e = .returned (.tuple #[.agg l.cells.toArray, .int .i64 G]) ∧ Below w9.heap.size w9 w' := by
            have h := get_ok hE9 0 (by rw [HZF.out.1.n]; decide) HZF.out.1.calm.up
            rw [HZF.out.2.2.1] at h
            rcases HG.out with ⟨h0, e⟩ | ⟨h0, e⟩
            · rw [if_pos h0, if_pos h0] at h
              rw [e]; exact h
            · rw [if_neg (by omega), if_neg (by omega)] at h
              rw [e, HZF.out.2.2.2.2 h0]; exact h
          have GUH := Lib.hid GU
          clear hE9 hF9 UP HB8 HE8 GU HR8 HL8 HP8
          go_wp2_with fail
          refine GUH.out.mono ?_
          rintro e w10 ⟨rfl, hb10⟩
          obtain ⟨ke, hke⟩ : ∃ k, k = w10.heap.size := ⟨_, rfl⟩
          obtain ⟨wf, hwf⟩ : ∃ wf, wf = w10.alloc (.cells l.cells.toArray 34) := ⟨_, rfl⟩
          have bf : Below w10.heap.size w10 wf := by rw [hwf]; exact (Below.refl _ _).alloc (Nat.le_refl _) _
          have rf : wf.heap[ke]? = some (.cells l.cells.toArray 34 (0, 0)) := by rw [hwf, hke]; exact heap_alloc_new _ _
          have b9 : Below w9.heap.size w9 wf := hb10.trans (bf.mono hb10.size)
          have HEF := Lib.hid (HE9.out.below b9 (Nat.le_refl _))
          have HBF := Lib.hid (HB9.out.trans (b9.mono HB9.out.size))
          have HRF := Lib.hid ((b9.block k7 (lt_of_row HR9.out)).trans HR9.out)
          have HLF := Lib.hid ((b9.block k5 (lt_of_row HL9.out)).trans HL9.out)
          have HPF := Lib.hid ((b9.block k8 (lt_of_row HP9.out)).trans HP9.out)
          have HKF := Lib.hid rf
          have HWF := Lib.hid hwf
          have HKE := Lib.hid hke
          clear hb10 bf rf b9 GUH HB9 HE9 HR9 HL9 HP9 hwf hke HZ3
          have HSL := Lib.hid (show (Try.prog.info? 34).map (·.size) = some l.cells.toArray.size by rw [List.size_toArray]; exact Try.markSize HZF.out.2.2.2.1)
          have HL7 := Lib.hid (show (#[Value.int .u64 0, .int .u64 0, .int .u64 0, .int .u64 0, .int .u64 0, .int .u64 0, .int .u64 0] : Array Value).size = l.cells.toArray.size by have := MkD.cells_length HZF.out.2.2.2.1; simp [this])
          have HLL := Lib.hid (show lm.cells.toArray.size = l.cells.toArray.size by have h1 := MkD.cells_length HZF.out.2.2.2.1; have h2 := MkD.cells_length HST.out.ok; simp [h1, h2])
          have hzc := HZL.out
          rcases HG.out with ⟨h0, hG0⟩ | ⟨h0, hG4⟩
          · subst hG0
            rcases hzc with hm | ⟨hc, hm⟩
            · -- the mark that was being put
              have hsl : lm.seq < l.seq := by rw [hm]; exact HXX.out.2.1
              have hlw : l.W = ws ++ List.replicate (6 - ws.length) 0 := by rw [hm]; exact HXX.out.2.2.2.2.2.2.1
              have hbm : C = 0 → bm = l := fun h => by rw [hm]; exact HXX.out.2.2.2.2.2.2.2 h
              have HLW := Lib.hid hlw
              have HBM := Lib.hid hbm
              clear hm hlw hbm h0
              have hlok := HZF.out.2.2.2.1
              have hok5 := HST.out.ok
              obtain ⟨sl, b1, b2, b3, b4, b5, b6, hlm⟩ := six_of hok5
              have hrl := HLF.out
              rw [hlm] at hrl hsl
              obtain ⟨m0, m1, m2', m3, m4, m5, m6⟩ := seven hrl
              obtain ⟨sq, a1, a2, a3, a4, a5, a6, hlq⟩ := six_of hlok
              have hrk := HKF.out
              rw [hlq] at hrk hsl
              obtain ⟨l0, l1, l2, l3, l4, l5, l6⟩ := seven hrk
              have EQ : ∀ wq : World, (Op.equalIn 9999 32 (.agg #[.int .u64 (a1 : Int), .int .u64 (a2 : Int), .int .u64 (a3 : Int), .int .u64 (a4 : Int), .int .u64 (a5 : Int), .int .u64 (a6 : Int)]) (.agg #[.int .u64 (a1 : Int), .int .u64 (a2 : Int), .int .u64 (a3 : Int), .int .u64 (a4 : Int), .int .u64 (a5 : Int), .int .u64 (a6 : Int)])).run Try.prog wq = .ok true wq := by
                intro wq
                have h := equal_six [a1, a2, a3, a4, a5, a6] [a1, a2, a3, a4, a5, a6] rfl rfl wq
                rw [decide_eq_true rfl] at h
                exact h
              have hsl' : sl < sq := hsl
              have HLM := Lib.hid hlm
              have HLQ := Lib.hid hlq
              clear hrl hrk hlm hlq hsl hlok hok5
              go_upto_region 28 with (with_reducible show wpList _ _ _ _ _ _; refine wpList_store_new rfl 34 (.tmp 12) (.tmp 70) rfl 34 _ l.cells.toArray rfl rfl HSL.out HL7.out l.cells_one ?_; rw [← HWF.out, ← HKE.out])
              go_cut [91] (fun s wx => s = .bool false ∧ wx = wf)
              case first =>
                rcases HCC.out with hc | hc
                · have hrp := HPF.out
                  rw [HBM.out hc, HLQ.out] at hrp
                  obtain ⟨p0, p1, p2, p3, p4, p5, p6⟩ := seven hrp
                  have EQ0 := EQ wf
                  subst hc
                  clear hrp EQ
                  go_wp2_with fail
                  go_meet
                  exact ⟨rfl, rfl⟩
                · subst hc
                  clear EQ
                  go_wp2_with fail
                  go_meet
                  exact ⟨rfl, rfl⟩
              case rest =>
                obtain ⟨rfl, h7⟩ := hcut
                have h7' := h7.symm
                subst h7'
                have hne : ¬ sq = sl := by omega
                have hnei : ¬ (sq : Int) = (sl : Int) := by omega
                have hle : ¬ sq ≤ sl := by omega
                have HEQ := Lib.hid EQ
                clear EQ h7
                go_wp2_with fail
                obtain ⟨kw, hkw⟩ : ∃ k, k = wf.heap.size := ⟨_, rfl⟩
                obtain ⟨wg, hwg⟩ : ∃ wg, wg = wf.alloc (.cells #[.int .u64 (sq : Int), .int .u64 0, .int .u64 0, .int .u64 0, .int .u64 0, .int .u64 0, .int .u64 0] 34) := ⟨_, rfl⟩
                rw [← hkw, ← hwg]
                have bg : Below wf.heap.size wf wg := by rw [hwg]; exact (Below.refl _ _).alloc (Nat.le_refl _) _
                have rg : wg.heap[kw]? = some (.cells (MkD.mk sq (List.replicate 6 0)).cells.toArray 34 (0, 0)) := by rw [hwg, hkw]; exact heap_alloc_new _ _
                have cg0 : wg.cell? ⟨k7, 0, none⟩ = some (.slice pao ws.length pcap) := by rw [cell_of_row wg k7 0 _ _ _ ((bg.block k7 (lt_of_row HRF.out)).trans HRF.out)]; rfl
                have HRG := Lib.hid rg
                have HBG := Lib.hid bg
                have HKW := Lib.hid hkw
                clear rg bg hkw hwg l0 l1 l2 l3 l4 l5 l6 m0 m1 m2' m3 m4 m5 m6
                (refine wp_region_quiet_tail 4 (by kernel_rfl) (by kernel_rfl) ?_; simp only [List.take_succ_cons, List.take_zero, List.drop_succ_cons, List.drop_zero]; (repeat (go_big_quiet_step (fail))); refine wpQuiet_nil ?_; intro _ hw'; obtain ⟨nq, hw''⟩ := hw'; subst hw'')
                have hHN : (ws.map uv).length = Nat.min ws.length 6 := by rw [List.length_map]; exact (Nat.min_eq_left H6.out).symm
                have HSRC := HUW.out.src (w' := wg.drewN nq) (below_drewN (HBF.out.trans (HBG.out.mono HBF.out.size)) nq)
                have HFI : 1 + (ws.map uv).length ≤ (MkD.mk sq (List.replicate 6 0)).cells.length := by have := H6.out; rw [List.length_map]; simp [MkD.cells]; omega
                have HHN := Lib.hid hHN
                have HHS := Lib.hid HSRC
                have HHF := Lib.hid HFI
                clear hHN HSRC HFI
                refine wpList_copy_splice rfl (.tmp 99) (.tmp 101) 29 29 rfl 28 Try.underlying29 (by kernel_rfl) (some ⟨kw, 1, none⟩) pao 6 6 ws.length pcap rfl rfl kw 1 (MkD.mk sq (List.replicate 6 0)).cells 34 HRG.out (ws.map uv) HHN.out (fun h0 => ⟨rfl, HHS.out h0⟩) HHF.out (uv_one ws) kw (wg.drewN nq) (Below.refl _ _) (Nat.le_refl _) ?_
                intro w11 hg11 hb11
                have hr11 := hg11.out
                rw [splice_mark sq ws H6.out, ← HLW.out] at hr11
                have hlW : l.W = [a1, a2, a3, a4, a5, a6] := by rw [HLQ.out]
                rw [hlW] at hr11
                have hkk : ∀ k, k < kw → w11.heap[k]? = wf.heap[k]? := fun k hk => (hb11.block k hk).trans (HBG.out.block k (by have := HKW.out; omega))
                have hrl := (hkk k5 (by have := HKW.out; have := lt_of_row HLF.out; omega)).trans HLF.out
                have HRO := Lib.hid hrl
                rw [HLM.out] at hrl
                have hrk := (hkk ke (by have := HKW.out; have := lt_of_row HKF.out; omega)).trans HKF.out
                rw [HLQ.out] at hrk
                obtain ⟨m0, m1, m2', m3, m4, m5, m6⟩ := seven hrl
                obtain ⟨l0, l1, l2, l3, l4, l5, l6⟩ := seven hrk
                obtain ⟨q0, q1, q2, q3, q4, q5, q6⟩ := seven hr11
                have EQ := HEQ.out w11
                have b11 : Below wf.heap.size wf w11 := HBG.out.trans ((below_drewN (Below.refl _ wg) nq).trans hb11 |> fun h => h.mono (by have := HKW.out; omega))
                have hst := tn_store (HEF.out.below b11 (Nat.le_refl _)) HZF.out.1 HZF.out.2.1 HZF.out.2.2.1 HZF.out.2.2.2.1 HZF.out.2.2.2.2 HRO.out (show n + 1 ≤ i + 1 by have := HST.out.n; omega) HNO.out.1 HNO.out.2 (HBF.out.trans (b11.mono HBF.out.size))
                rw [HLQ.out] at hst
                have RL := Lib.hid (show TnRel w d g m k5 L.length (.int .i64 ((i + 1 : Nat) : Int)) (w11.setRow k5 #[.int .u64 (sq : Int), .int .u64 (a1 : Int), .int .u64 (a2 : Int), .int .u64 (a3 : Int), .int .u64 (a4 : Int), .int .u64 (a5 : Int), .int .u64 (a6 : Int)]) from ⟨i + 1, zz, _, n + 1, rfl, by omega, hst⟩)
                have HSO := Lib.hid (show lm.cells.toArray.size = (#[.int .u64 (sq : Int), .int .u64 (a1 : Int), .int .u64 (a2 : Int), .int .u64 (a3 : Int), .int .u64 (a4 : Int), .int .u64 (a5 : Int), .int .u64 (a6 : Int)] : Array Value).size by have := MkD.cells_length HST.out.ok; simp [this])
                clear hrl hrk hr11 hlW hkk b11 hst hg11 hb11 cg0 HEQ
                go_wp2_with ((with_reducible show wpList _ _ _ _ _ _); refine wpList_store_whole rfl 34 (.tmp 5) (.tmp 113) rfl k5 34 lm.cells.toArray #[.int .u64 (sq : Int), .int .u64 (a1 : Int), .int .u64 (a2 : Int), .int .u64 (a3 : Int), .int .u64 (a4 : Int), .int .u64 (a5 : Int), .int .u64 (a6 : Int)] rfl (by with_unfolding_all rfl) HRO.out (by kernel_rfl) HSO.out (by kernel_rfl) ?_)
                exact ⟨RL.out, by simp [intOf]; omega⟩
            · -- the one before
              have hok5 := HST.out.ok
              obtain ⟨sl, b1, b2, b3, b4, b5, b6, hlm⟩ := six_of hok5
              have hrl := HLF.out
              have hrk := HKF.out
              have HHM := Lib.hid hm
              rw [hm, hlm] at hrk
              rw [hlm] at hrl
              obtain ⟨m0, m1, m2', m3, m4, m5, m6⟩ := seven hrl
              obtain ⟨l0, l1, l2, l3, l4, l5, l6⟩ := seven hrk
              have EQ : (Op.equalIn 9999 32 (.agg #[.int .u64 (b1 : Int), .int .u64 (b2 : Int), .int .u64 (b3 : Int), .int .u64 (b4 : Int), .int .u64 (b5 : Int), .int .u64 (b6 : Int)]) (.agg #[.int .u64 (b1 : Int), .int .u64 (b2 : Int), .int .u64 (b3 : Int), .int .u64 (b4 : Int), .int .u64 (b5 : Int), .int .u64 (b6 : Int)])).run Try.prog wf = .ok true wf := by
                have h := equal_six [b1, b2, b3, b4, b5, b6] [b1, b2, b3, b4, b5, b6] rfl rfl wf
                rw [decide_eq_true rfl] at h
                exact h
              have hst := tn_store HEF.out HZF.out.1 HZF.out.2.1 HZF.out.2.2.1 HZF.out.2.2.2.1 HZF.out.2.2.2.2 HLF.out (show n + 1 ≤ i + 1 by have := HST.out.n; omega) HNO.out.1 HNO.out.2 HBF.out
              rw [hm, hlm] at hst
              have RL := Lib.hid (show TnRel w d g m k5 L.length (.int .i64 ((i + 1 : Nat) : Int)) (wf.setRow k5 #[.int .u64 (sl : Int), .int .u64 (b1 : Int), .int .u64 (b2 : Int), .int .u64 (b3 : Int), .int .u64 (b4 : Int), .int .u64 (b5 : Int), .int .u64 (b6 : Int)]) from ⟨i + 1, zz, _, n + 1, rfl, by omega, hst⟩)
              have HSO := Lib.hid (show lm.cells.toArray.size = (#[.int .u64 (sl : Int), .int .u64 (b1 : Int), .int .u64 (b2 : Int), .int .u64 (b3 : Int), .int .u64 (b4 : Int), .int .u64 (b5 : Int), .int .u64 (b6 : Int)] : Array Value).size by have := MkD.cells_length HST.out.ok; simp [this])
              subst hc
              clear hrl hrk hlm hm hst hok5 h0
              go_wp2_with (first
                | (with_reducible show wpList _ _ _ _ _ _; refine wpList_store_new rfl 34 (.tmp 12) (.tmp 70) rfl 34 _ l.cells.toArray rfl rfl HSL.out HL7.out l.cells_one ?_; rw [← HWF.out, ← HKE.out])
                | ((with_reducible show wpList _ _ _ _ _ _); refine wpList_store_whole rfl 34 (.tmp 5) (.tmp 113) rfl k5 34 lm.cells.toArray #[.int .u64 (sl : Int), .int .u64 (b1 : Int), .int .u64 (b2 : Int), .int .u64 (b3 : Int), .int .u64 (b4 : Int), .int .u64 (b5 : Int), .int .u64 (b6 : Int)] rfl (by with_unfolding_all rfl) HLF.out (by kernel_rfl) HSO.out (by kernel_rfl) ?_))
              exact ⟨RL.out, by simp [intOf]; omega⟩
          · subst hG4
            have hlm : l = lm ∧ C = 50 := by
              rcases hzc with e | ⟨e1, e2⟩
              · have := HXX.out.2.1
                rw [e] at h0
                omega
              · exact ⟨e2, e1⟩
            have hc := hlm.2
            have hlz : lm.seq = 0 := by rw [← hlm.1]; exact h0
            have hrl := HLF.out
            have m0 : wf.cell? ⟨k5, 0, none⟩ = some (.int .u64 0) := by
              obtain ⟨sl, b1, b2, b3, b4, b5, b6, hq⟩ := six_of HST.out.ok
              rw [hq] at hrl hlz
              have h := (seven hrl).1
              rw [show sl = 0 from hlz] at h
              exact h
            have RL := Lib.hid (show TnRel w d g m k5 L.length (.int .i64 ((i + 1 : Nat) : Int)) wf from ⟨i + 1, zz, lm, n + 1, rfl, by omega, ⟨HEF.out, HZF.out.1, HZF.out.2.1, by rw [← hlm.1]; exact HZF.out.2.2.1, HST.out.ok, HST.out.zero, HLF.out, by have := HST.out.n; omega, HBF.out⟩⟩)
            subst hc
            clear hlm hlz hrl h0 hzc
            go_wp2_with (with_reducible show wpList _ _ _ _ _ _; refine wpList_store_new rfl 34 (.tmp 12) (.tmp 70) rfl 34 _ l.cells.toArray rfl rfl HSL.out HL7.out l.cells_one ?_; rw [← HWF.out, ← HKE.out])
            exact ⟨RL.out, by simp [intOf]; omega⟩
    · obtain rfl : i = L.length := by omega
      go_wp2_with fail
      go_ret
      exact ⟨rfl, HST.out.be⟩
end Go.Proofs.Ytgbmkolpdnenlaa.Dk
