/- MarkDown's walk. -/
import Derived.Test.YtllnaocnojhlkaaMq
import Derived.Test.YtllnaocnojhlkaaDu
import Derived.Test.YtllnaocnojhlkaaDc
namespace Go.Proofs.Ytllnaocnojhlkaa.Dk
open Go Go.RowKit
set_option linter.unusedVariables false
set_option linter.unusedSimpArgs false
theorem seven {w : World} {g : Nat} {t : TypeId} {s a b c d e f : Nat} (h : w.heap[g]? = some (.cells (MkD.mk s [a, b, c, d, e, f]).cells.toArray t (0, 0))) :
    w.cell? ⟨g, 0, none⟩ = some (.int .u64 (s : Int)) ∧ w.cell? ⟨g, 1, none⟩ = some (.int .u64 (a : Int)) ∧ w.cell? ⟨g, 2, none⟩ = some (.int .u64 (b : Int)) ∧ w.cell? ⟨g, 3, none⟩ = some (.int .u64 (c : Int)) ∧ w.cell? ⟨g, 4, none⟩ = some (.int .u64 (d : Int)) ∧ w.cell? ⟨g, 5, none⟩ = some (.int .u64 (e : Int)) ∧ w.cell? ⟨g, 6, none⟩ = some (.int .u64 (f : Int)) := by
  have hc := fun j => cell_of_row w g j _ _ _ h
  refine ⟨hc 0, hc 1, hc 2, hc 3, hc 4, hc 5, hc 6⟩
theorem six_of {mk : MkD} (h : mk.Ok) : ∃ s a b c d e f, mk = ⟨s, [a, b, c, d, e, f]⟩ := by
  obtain ⟨s, W⟩ := mk
  have hl : W.length = 6 := h.len
  match W, hl with
  | [a, b, c, d, e, f], _ => exact ⟨s, a, b, c, d, e, f, rfl⟩
theorem calm_new (n : Nat) : Calm (DS.new n) := ⟨rfl, fun _ => rfl⟩
theorem nextSeq_le (x : DS) (first : Nat) : x.nextSeq first ≤ x.great first + 2 := by
  unfold DS.nextSeq
  split <;> omega
/-- What the second Put leaves, and what is there behind the crash. -/
theorem down_facts {x : DS} (h : Calm x) (hr : 2 ≤ x.s.length) {m1 m2 : MkD} (hl : x.lastMark 0 = m1) (hok : m1.Ok) (hp : 0 < m1.seq) (hm2 : m2.Ok) (hg : x.great 0 < m2.seq) (hf : 0 ≤ x.fuse) :
    ∃ (C : Int) (bm last : MkD) (y : DS), C = (x.mark 0 m2).1 ∧ bm = pick0 C m2 ∧ y = (x.mark 0 m2).2 ∧ bm.Ok ∧ last.Ok ∧ 0 < last.seq ∧ ((C = 0 ∧ 2 ≤ x.fuse ∧ last = bm) ∨ (C = 50 ∧ x.fuse < 2 ∧ last = m1)) ∧
      (∀ i l, wfi i → y.S i = some l → y.has i = true) ∧ Calm (y.crash [] (-1) 0).up ∧ (y.crash [] (-1) 0).up.lastMark 0 = last ∧ (y.crash [] (-1) 0).s.length = x.s.length ∧ (y.crash [] (-1) 0).up.s.length = x.s.length ∧ (y.crash [] (-1) 0).down = true := by
  obtain ⟨y, hy⟩ : ∃ y, y = (x.mark 0 m2).2 := ⟨_, rfl⟩
  by_cases hz : 2 ≤ x.fuse
  · have hfi := mark_fine h (first := 0) hm2 (by omega) (.inr hz)
    rw [← hy] at hfi
    obtain ⟨e1, e2, e3, _⟩ := hfi
    have hcu := crash_up (y := y) (e2.S _) 0
    have hls := last_set h hcu.1 (first := 0) hm2 (by omega) (hcu.2.1.trans e3) hg
    have hlen : y.s.length = x.s.length := by rw [e3, List.length_set]
    refine ⟨0, m2, m2, y, e1.symm, rfl, hy, hm2, hm2, by omega, .inl ⟨rfl, hz, rfl⟩, fun i l _ hi => (by rw [e2.S] at hi; cases hi), hcu.1, hls.1, by rw [hcu.2.2.2, hlen], by rw [hcu.2.1, hlen], hcu.2.2.1⟩
  · have hfi := mark_cut h (first := 0) hm2 (by omega) (by omega)
    rw [← hy] at hfi
    obtain ⟨e1, e2, e3, e4⟩ := hfi
    have h2 : m2.seq % 2 < 2 := Nat.mod_lt _ (by decide)
    have hS : y.S (-1) = none := by
      cases hs : y.S (-1) with
      | none => rfl
      | some l => have := (e4 _ _ hs).1; unfold MkD.at_ at this; omega
    have hcu := crash_up hS 0
    have hls : (y.crash [] (-1) 0).up.lastMark 0 = m1 := by
      rw [hcu.1.last (by rw [hcu.2.1, e3]; omega), hcu.2.1, e3, ← h.last (by omega)]
      exact hl
    refine ⟨50, noM, m1, y, e1.symm, rfl, hy, noM_ok, hok, hp, .inr ⟨rfl, by omega, rfl⟩, fun i l _ hi => ?_, hcu.1, hls, by rw [hcu.2.2.2, e3], by rw [hcu.2.1, e3], hcu.2.2.1⟩
    rw [(e4 _ _ hi).1]
    unfold DS.has MkD.at_
    rw [e3]
    simp only [Bool.and_eq_true, decide_eq_true_eq]
    omega
theorem new_great : (DS.new 2).great 0 = 0 := m0_great
set_option maxRecDepth 100000 in
set_option maxHeartbeats 4000000 in
theorem markDown_main {w : World} {ao : Option Addr} {c : Nat} {ws : List Nat} (hv : U64s w (.slice ao ws.length c) ws) (hws : ∀ u ∈ ws, u < 18446744073709551616) (h6 : ws.length ≤ 6) (fz : Int) (hf0 : 0 ≤ fz) (hf3 : fz ≤ 3) :
    Calls Try.prog 13 #[.slice ao ws.length c, .int .i64 fz] w fun e w' => e = .returned (.bool true) ∧ Below w.heap.size w w' := by
  have MK := Lib.hid (marks_any w)
  have HV := Lib.hid hv
  have HWS := Lib.hid hws
  have c1 : ¬ ((6 : Int) < (ws.length : Int)) := by omega
  have c2 : ¬ (fz < 0) := by omega
  have c3 : ¬ ((3 : Int) < fz) := by omega
  clear hv hws
  go_enter Try.func13, Try.ntmps13
  go_wp2_with fail
  refine MK.out.mono ?_
  rintro e w1 ⟨rfl, hb1⟩
  have HB1 := Lib.hid hb1
  have N := Lib.hid (new_any 2 (by decide) (by decide) w1)
  clear hb1 MK
  go_wp2_with fail
  refine N.out.mono ?_
  rintro e w2 ⟨d, g, m, rfl, hD2, hb2, hd, hg, hm⟩
  have HB2 := Lib.hid (HB1.out.trans (hb2.mono HB1.out.size))
  have HO := Lib.hid (show ∀ i, own3 d g m i → w.heap.size ≤ i from fun i e => by have := HB1.out.size; rcases e with e | e | e <;> omega)
  obtain ⟨m1, hm1⟩ : ∃ m1, m1 = (DS.new 2).next 0 ws := ⟨_, rfl⟩
  have hk := next_ok (x := DS.new 2) (first := 0) h6 HWS.out (by rw [new_great]; decide)
  rw [← hm1, new_great] at hk
  have hfine := mark_fine (calm_new 2) (first := 0) hk.1 (by simp [DS.new]) (.inl (by decide))
  obtain ⟨x1, hx1⟩ : ∃ x1, x1 = ((DS.new 2).mark 0 m1).2 := ⟨_, rfl⟩
  rw [← hx1] at hfine
  have P1 : Calls Try.prog 40 #[.pointer (some ⟨d, 0, none⟩), .int .i64 0, .slice ao ws.length c] w2 fun e w' => e = .returned (.tuple #[.agg m1.cells.toArray, .int .i64 0]) ∧ DiskAt Try.prog w' d g m 1 x1 ∧ Frm (own3 d g m) w2 w' := by
    have hv2 : U64s w2 (.slice ao ws.length c) ws := by
      obtain ⟨ao', c', e, hno, hc⟩ := HV.out
      cases e
      exact ⟨ao, c, rfl, hno, fun ad e j u hu => (World.cell?_of_block (a := ad.add j) (HB2.out.block _ (block_lt_of_cell (hc ad e j u hu)))).trans (hc ad e j u hu)⟩
    have h := put_ok hD2 (by unfold maxLen; omega) (fun i l _ h => by cases h) 0 (by simp [DS.new]) rfl hv2 HWS.out h6 (by rw [new_great]; decide)
    rw [← hm1, hfine.1, ← hx1] at h
    exact h
  have HSQ := Lib.hid (show m1.seq ≤ 2 by rw [hm1]; have := nextSeq_le (DS.new 2) 0; rw [new_great] at this; exact this)
  have PP1 := Lib.hid P1
  have HM1 := Lib.hid hk
  have HX1 := Lib.hid hfine.2
  clear hD2 hb2 hk hfine hm1 hx1 P1 N HB1
  go_wp2_with fail
  refine PP1.out.mono ?_
  rintro e w3 ⟨rfl, hD3, hF3⟩
  have HB3 := Lib.hid (HB2.out.trans (hF3.below (B := w.heap.size) (fun i _ e => HO.out i e) HB2.out.size))
  have HD3 := Lib.hid hD3
  have HSM := Lib.hid (show (Try.prog.info? 89).map (·.size) = some m1.cells.toArray.size by rw [List.size_toArray]; exact Try.markSize HM1.out.1)
  have HS7 := Lib.hid (show (#[Value.int .u64 0, .int .u64 0, .int .u64 0, .int .u64 0, .int .u64 0, .int .u64 0, .int .u64 0] : Array Value).size = m1.cells.toArray.size by have := MkD.cells_length HM1.out.1; simp [this])
  clear hD3 hF3 PP1 HB2
  go_wp2_with (with_reducible show wpList _ _ _ _ _ _; refine wpList_store_new rfl 89 (.tmp 7) (.tmp 40) rfl 89 _ m1.cells.toArray rfl rfl HSM.out HS7.out m1.cells_one ?_)
  obtain ⟨k7, hk7⟩ : ∃ k, k = w3.heap.size := ⟨_, rfl⟩
  obtain ⟨w4, hw4⟩ : ∃ w4, w4 = w3.alloc (.cells m1.cells.toArray 89) := ⟨_, rfl⟩
  have b4 : Below w3.heap.size w3 w4 := by rw [hw4]; exact (Below.refl _ _).alloc (Nat.le_refl _) _
  have r7 : w4.heap[k7]? = some (.cells m1.cells.toArray 89 (0, 0)) := by rw [hw4, hk7]; exact heap_alloc_new _ _
  have HNO := Lib.hid (show ¬ own3 d g m k7 from fun e => by have h1 := HD3.out.dlt; have h2 := HD3.out.glt; have h3 := HD3.out.mlt; rcases e with e | e | e <;> omega)
  have FU := Lib.hid (fuse_any (HD3.out.below b4 (Nat.le_refl _)) fz (WalkArith.wf_i64 (by omega)))
  have HB4 := Lib.hid (HB3.out.trans (b4.mono HB3.out.size))
  have HR7 := Lib.hid r7
  rw [← hk7, ← hw4]
  clear b4 r7 hk7 hw4 HB3 HD3 HSM HS7
  refine FU.out.mono ?_
  rintro e w5 ⟨rfl, hD5, hF5⟩
  have HB5 := Lib.hid (HB4.out.trans (hF5.below (B := w.heap.size) (fun i _ e => HO.out i e) HB4.out.size))
  have HR57 := Lib.hid ((hF5.block _ (lt_of_row HR7.out) HNO.out).trans HR7.out)
  have HD5 := Lib.hid hD5
  obtain ⟨x2, hx2⟩ : ∃ x2 : DS, x2 = { x1 with fuse := fz } := ⟨_, rfl⟩
  rw [← hx2] at HD5
  have hcal : Calm x2 := by rw [hx2]; exact ⟨HX1.out.1.up, HX1.out.1.S⟩
  have hs2 : x2.s = (DS.new 2).s.set (0 + m1.seq % 2) (layM m1) := by rw [hx2]; exact HX1.out.2.1
  have hl2 : x2.s.length = 2 := by rw [hs2, List.length_set]; rfl
  have hlg := last_set (calm_new 2) hcal (first := 0) HM1.out.1 (by simp [DS.new]) hs2 (by rw [new_great]; exact HM1.out.2)
  have hsq := HSQ.out
  obtain ⟨m2, hm2⟩ : ∃ m2, m2 = x2.next 0 [1, 2, 3] := ⟨_, rfl⟩
  have hk2 := next_ok (x := x2) (first := 0) (ws := [1, 2, 3]) (by decide) (by decide) (by rw [hlg.2]; omega)
  rw [← hm2] at hk2
  obtain ⟨C, bm, last, y, hC, hbm, hy, hbok, hlok, hlp, hcase, hin, hcal4, hl4, hlen3, hlen4, hdn3⟩ := down_facts hcal (by omega) hlg.1 HM1.out.1 HM1.out.2 hk2.1 hk2.2 (by rw [hx2]; exact hf0)
  have hfz : x2.fuse = fz := by rw [hx2]
  rw [hfz] at hcase
  have hgr : x2.great 0 ≤ 18446744073709551613 := by rw [hlg.2]; omega
  have HD5' := Lib.hid (fun (w6 : World) (b6 : Below w5.heap.size w5 w6) (kb : Nat) (rb : w6.heap[kb]? = some (.cells ([1, 2, 3].map uv).toArray 31 (0, 0))) => (show Calls Try.prog 40 #[.pointer (some ⟨d, 0, none⟩), .int .i64 0, .slice (some ⟨kb, 0, none⟩) 3 3] w6 fun e w' => e = .returned (.tuple #[.agg bm.cells.toArray, .int .i64 C]) ∧ DiskAt Try.prog w' d g m 2 y ∧ Frm (own3 d g m) w6 w' by
    have h := put_ok (HD5.out.below b6 (Nat.le_refl _)) (by unfold maxLen; omega) (fun i l _ h => by rw [hcal.S] at h; cases h) 0 (by omega) hcal.up (ao := some ⟨kb, 0, none⟩) (c := 3) (ws := [1, 2, 3]) ⟨_, _, rfl, (fun h => by cases h), fun ad e j u hu => by cases e; exact cells_row rb j u hu⟩ (by decide) (by decide) hgr
    rw [← hm2, ← hC, ← hbm, ← hy] at h
    exact h))
  have HIN := Lib.hid hin
  have HC4 := Lib.hid hcal4
  have HL4 := Lib.hid (show (y.crash [] (-1) 0).up.lastMark 0 = last ∧ (y.crash [] (-1) 0).s.length = 2 ∧ (y.crash [] (-1) 0).up.s.length = 2 ∧ (y.crash [] (-1) 0).down = true from ⟨hl4, by rw [hlen3, hl2], by rw [hlen4, hl2], hdn3⟩)
  have HBO := Lib.hid (show bm.Ok ∧ last.Ok ∧ 0 < last.seq from ⟨hbok, hlok, hlp⟩)
  have HCA := Lib.hid hcase
  have HSM := Lib.hid (show (Try.prog.info? 89).map (·.size) = some bm.cells.toArray.size by rw [List.size_toArray]; exact Try.markSize hbok)
  have HS7 := Lib.hid (show (#[Value.int .u64 0, .int .u64 0, .int .u64 0, .int .u64 0, .int .u64 0, .int .u64 0, .int .u64 0] : Array Value).size = bm.cells.toArray.size by have := MkD.cells_length hbok; simp [this])
  clear hx2 hcal hs2 hl2 hlg hm2 hk2 hC hbm hy hbok hlok hlp hcase hin hcal4 hl4 hlen3 hlen4 hdn3 hgr hsq hD5 hF5 FU HX1 HSQ hfz
  go_wp2_with fail
  obtain ⟨kb, hkb⟩ : ∃ k, k = w5.heap.size := ⟨_, rfl⟩
  obtain ⟨w6, hw6⟩ : ∃ w6, w6 = w5.alloc (.cells #[.int .u64 1, .int .u64 2, .int .u64 3] 31) := ⟨_, rfl⟩
  have b6 : Below w5.heap.size w5 w6 := by rw [hw6]; exact (Below.refl _ _).alloc (Nat.le_refl _) _
  have P2 := Lib.hid (HD5'.out w6 b6 kb (by rw [hw6, hkb]; exact heap_alloc_new _ _))
  have HB6 := Lib.hid (HB5.out.trans (b6.mono HB5.out.size))
  have HR67 := Lib.hid ((b6.block _ (lt_of_row HR57.out)).trans HR57.out)
  rw [← hkb, ← hw6]
  clear hkb hw6 b6 HD5' HB5 HR57 HD5
  refine P2.out.mono ?_
  rintro e w7 ⟨rfl, hD7, hF7⟩
  have HB7 := Lib.hid (HB6.out.trans (hF7.below (B := w.heap.size) (fun i _ e => HO.out i e) HB6.out.size))
  have HR77 := Lib.hid ((hF7.block _ (lt_of_row HR67.out) HNO.out).trans HR67.out)
  have HD7 := Lib.hid hD7
  clear hD7 hF7 P2 HB6 HR67
  have HSL := Lib.hid (show (Try.prog.info? 89).map (·.size) = some last.cells.toArray.size by rw [List.size_toArray]; exact Try.markSize HBO.out.2.1)
  have HL7 := Lib.hid (show (#[Value.int .u64 0, .int .u64 0, .int .u64 0, .int .u64 0, .int .u64 0, .int .u64 0, .int .u64 0] : Array Value).size = last.cells.toArray.size by have := MkD.cells_length HBO.out.2.1; simp [this])
  have HS0 := Lib.hid (show (Try.prog.info? 89).map (·.size) = some noM.cells.toArray.size by rw [List.size_toArray]; exact Try.markSize noM_ok)
  obtain ⟨k9, hk9⟩ : ∃ k, k = w7.heap.size := ⟨_, rfl⟩
  obtain ⟨w8, hw8⟩ : ∃ w8, w8 = w7.alloc (.cells bm.cells.toArray 89) := ⟨_, rfl⟩
  have b8 : Below w7.heap.size w7 w8 := by rw [hw8]; exact (Below.refl _ _).alloc (Nat.le_refl _) _
  have r9 : w8.heap[k9]? = some (.cells bm.cells.toArray 89 (0, 0)) := by rw [hw8, hk9]; exact heap_alloc_new _ _
  have HR8 := Lib.hid (show w8.heap[k7]? = some (.cells m1.cells.toArray 89 (0, 0)) ∧ w8.heap[k9]? = some (.cells bm.cells.toArray 89 (0, 0)) from ⟨(b8.block _ (lt_of_row HR77.out)).trans HR77.out, r9⟩)
  have HB8 := Lib.hid (HB7.out.trans (b8.mono HB7.out.size))
  have HN9 := Lib.hid (show ¬ own3 d g m k9 from fun e => by have h1 := HD7.out.dlt; have h2 := HD7.out.glt; have h3 := HD7.out.mlt; rcases e with e | e | e <;> omega)
  have CR := Lib.hid (crash_any (HD7.out.below b8 (Nat.le_refl _)) HIN.out none 0 [] (by decide) (fun j hj => absurd hj (by simp)) (fun z hz => absurd hz (by simp)) (-1) 0 (WalkArith.wf_i64 (by decide)) (WalkArith.wf_i64 (by decide)))
  have HK9 := Lib.hid hk9
  have HW8 := Lib.hid hw8
  clear b8 r9 hk9 hw8 HB7 HR77 HD7
  rcases HCA.out with ⟨hC, hz, hlb⟩ | ⟨hC, hz, hlb⟩
  all_goals (
    have hz' : (fz < 2) = ¬ (2 ≤ fz) := by simp
    have HLB := Lib.hid hlb
    subst hC
    clear hlb
    go_wp2_with (with_reducible show wpList _ _ _ _ _ _; refine wpList_store_new rfl 89 (.tmp 9) (.tmp 49) rfl 89 _ bm.cells.toArray rfl rfl HSM.out HS7.out bm.cells_one ?_; rw [← HW8.out, ← HK9.out])
    refine CR.out.mono ?_
    rintro e w9 ⟨rfl, hD9, hF9⟩
    have HD9 := Lib.hid hD9
    have HR9 := Lib.hid (show w9.heap[k7]? = some (.cells m1.cells.toArray 89 (0, 0)) ∧ w9.heap[k9]? = some (.cells bm.cells.toArray 89 (0, 0)) from ⟨(hF9.block _ (lt_of_row HR8.out.1) HNO.out).trans HR8.out.1, (hF9.block _ (lt_of_row HR8.out.2) HN9.out).trans HR8.out.2⟩)
    have HB9 := Lib.hid (HB8.out.trans (hF9.below (B := w.heap.size) (fun i _ e => HO.out i e) HB8.out.size))
    have GD := Lib.hid (get_fail hD9 0 50 (by decide) (fun w' h' => readPair_down h' 0 (by rw [HL4.out.2.1]; decide) HL4.out.2.2.2))
    clear hD9 hF9 CR HB8
    go_wp2_with fail
    refine GD.out.mono ?_
    rintro e w10 ⟨rfl, hb10⟩
    have HB10 := Lib.hid (HB9.out.trans (hb10.mono HB9.out.size))
    have HD10 := Lib.hid (HD9.out.below hb10 (Nat.le_refl _))
    have HR10 := Lib.hid (show w10.heap[k7]? = some (.cells m1.cells.toArray 89 (0, 0)) ∧ w10.heap[k9]? = some (.cells bm.cells.toArray 89 (0, 0)) from ⟨(hb10.block _ (lt_of_row HR9.out.1)).trans HR9.out.1, (hb10.block _ (lt_of_row HR9.out.2)).trans HR9.out.2⟩)
    clear hb10 GD HB9 HD9
    go_wp2_with (with_reducible show wpList _ _ _ _ _ _; refine wpList_store_new rfl 89 (.tmp 11) (.tmp 61) rfl 89 _ noM.cells.toArray rfl rfl HS0.out rfl noM.cells_one ?_)
    obtain ⟨w11, hw11⟩ : ∃ w11, w11 = w10.alloc (.cells noM.cells.toArray 89) := ⟨_, rfl⟩
    have b11 : Below w10.heap.size w10 w11 := by rw [hw11]; exact (Below.refl _ _).alloc (Nat.le_refl _) _
    have HB11 := Lib.hid (HB10.out.trans (b11.mono HB10.out.size))
    have HD11 := Lib.hid (HD10.out.below b11 (Nat.le_refl _))
    have HR11 := Lib.hid (show w11.heap[k7]? = some (.cells m1.cells.toArray 89 (0, 0)) ∧ w11.heap[k9]? = some (.cells bm.cells.toArray 89 (0, 0)) from ⟨(b11.block _ (lt_of_row HR10.out.1)).trans HR10.out.1, (b11.block _ (lt_of_row HR10.out.2)).trans HR10.out.2⟩)
    have PD := Lib.hid (put_fail HD11.out 0 50 (by decide) (.slice none 0 0) (fun w' h' => readPair_down h' 0 (by rw [HL4.out.2.1]; decide) HL4.out.2.2.2))
    rw [← hw11]
    clear b11 hw11 HB10 HD10 HR10
    refine PD.out.mono ?_
    rintro e w12 ⟨rfl, hb12⟩
    have HB12 := Lib.hid (HB11.out.trans (hb12.mono HB11.out.size))
    have HD12 := Lib.hid (HD11.out.below hb12 (Nat.le_refl _))
    have HR12 := Lib.hid (show w12.heap[k7]? = some (.cells m1.cells.toArray 89 (0, 0)) ∧ w12.heap[k9]? = some (.cells bm.cells.toArray 89 (0, 0)) from ⟨(hb12.block _ (lt_of_row HR11.out.1)).trans HR11.out.1, (hb12.block _ (lt_of_row HR11.out.2)).trans HR11.out.2⟩)
    clear hb12 PD HB11 HD11 HR11
    go_wp2_with (with_reducible show wpList _ _ _ _ _ _; refine wpList_store_new rfl 89 (.tmp 13) (.tmp 66) rfl 89 _ noM.cells.toArray rfl rfl HS0.out rfl noM.cells_one ?_)
    obtain ⟨w13, hw13⟩ : ∃ w13, w13 = w12.alloc (.cells noM.cells.toArray 89) := ⟨_, rfl⟩
    have b13 : Below w12.heap.size w12 w13 := by rw [hw13]; exact (Below.refl _ _).alloc (Nat.le_refl _) _
    have HB13 := Lib.hid (HB12.out.trans (b13.mono HB12.out.size))
    have UP := Lib.hid (up_any (HD12.out.below b13 (Nat.le_refl _)))
    have HR13 := Lib.hid (show w13.heap[k7]? = some (.cells m1.cells.toArray 89 (0, 0)) ∧ w13.heap[k9]? = some (.cells bm.cells.toArray 89 (0, 0)) from ⟨(b13.block _ (lt_of_row HR12.out.1)).trans HR12.out.1, (b13.block _ (lt_of_row HR12.out.2)).trans HR12.out.2⟩)
    rw [← hw13]
    clear b13 hw13 HB12 HD12 HR12
    refine UP.out.mono ?_
    rintro e w14 ⟨rfl, hD14, hF14⟩
    have HR14 := Lib.hid (show w14.heap[k7]? = some (.cells m1.cells.toArray 89 (0, 0)) ∧ w14.heap[k9]? = some (.cells bm.cells.toArray 89 (0, 0)) from ⟨(hF14.block _ (lt_of_row HR13.out.1) HNO.out).trans HR13.out.1, (hF14.block _ (lt_of_row HR13.out.2) HN9.out).trans HR13.out.2⟩)
    have HB14 := Lib.hid (HB13.out.trans (hF14.below (B := w.heap.size) (fun i _ e => HO.out i e) HB13.out.size))
    have GU : Calls Try.prog 44 #[.pointer (some ⟨d, 0, none⟩), .int .i64 0] w14 fun e w' => e = .returned (.tuple #[.agg last.cells.toArray, .int .i64 0]) ∧ Below w14.heap.size w14 w' := by
      have h := get_ok hD14 0 (by rw [HL4.out.2.2.1]; decide) HC4.out.up
      rw [HL4.out.1, if_pos HBO.out.2.2, if_pos HBO.out.2.2] at h
      exact h
    have GUH := Lib.hid GU
    clear GU hD14 hF14 UP HB13 HR13
    go_wp2_with fail
    refine GUH.out.mono ?_
    rintro e w15 ⟨rfl, hb15⟩
    have HB15 := Lib.hid (HB14.out.trans (hb15.mono HB14.out.size))
    have HR15 := Lib.hid (show w15.heap[k7]? = some (.cells m1.cells.toArray 89 (0, 0)) ∧ w15.heap[k9]? = some (.cells bm.cells.toArray 89 (0, 0)) from ⟨(hb15.block _ (lt_of_row HR14.out.1)).trans HR14.out.1, (hb15.block _ (lt_of_row HR14.out.2)).trans HR14.out.2⟩)
    clear hb15 GUH HB14 HR14
    obtain ⟨kl, hkl⟩ : ∃ k, k = w15.heap.size := ⟨_, rfl⟩
    obtain ⟨w16, hw16⟩ : ∃ w16, w16 = w15.alloc (.cells last.cells.toArray 89) := ⟨_, rfl⟩
    have b16 : Below w15.heap.size w15 w16 := by rw [hw16]; exact (Below.refl _ _).alloc (Nat.le_refl _) _
    have rl : w16.heap[kl]? = some (.cells last.cells.toArray 89 (0, 0)) := by rw [hw16, hkl]; exact heap_alloc_new _ _
    have ry : ∃ kk, (kk = k9 ∧ 2 ≤ fz ∨ kk = k7 ∧ fz < 2) ∧ w16.heap[kk]? = some (.cells last.cells.toArray 89 (0, 0)) := by
      first
        | exact ⟨k9, .inl ⟨rfl, hz⟩, by rw [HLB.out]; exact (b16.block _ (lt_of_row HR15.out.2)).trans HR15.out.2⟩
        | exact ⟨k7, .inr ⟨rfl, hz⟩, by rw [HLB.out]; exact (b16.block _ (lt_of_row HR15.out.1)).trans HR15.out.1⟩
    obtain ⟨kk, hkk, rk⟩ := ry
    obtain ⟨sq, a1, a2, a3, a4, a5, a6, hsv⟩ := six_of HBO.out.2.1
    have rl2 := rl
    have rk2 := rk
    rw [hsv] at rl2 rk2
    obtain ⟨l0, l1, l2, l3, l4, l5, l6⟩ := seven rl2
    obtain ⟨y0, y1, y2, y3, y4, y5, y6⟩ := seven rk2
    have hkz : (2 ≤ fz → kk = k9) ∧ (fz < 2 → kk = k7) := by omega
    first
      | (have hk9 := hkz.1 hz; subst hk9)
      | (have hk7 := hkz.2 hz; subst hk7)
    have EQ : (Op.equalIn 9999 87 (.agg #[.int .u64 (a1 : Int), .int .u64 (a2 : Int), .int .u64 (a3 : Int), .int .u64 (a4 : Int), .int .u64 (a5 : Int), .int .u64 (a6 : Int)]) (.agg #[.int .u64 (a1 : Int), .int .u64 (a2 : Int), .int .u64 (a3 : Int), .int .u64 (a4 : Int), .int .u64 (a5 : Int), .int .u64 (a6 : Int)])).run Try.prog w16 = .ok true w16 := by
      have h := equal_six [a1, a2, a3, a4, a5, a6] [a1, a2, a3, a4, a5, a6] rfl rfl w16
      rw [decide_eq_true rfl] at h
      exact h
    have HB16 := Lib.hid (HB15.out.trans (b16.mono HB15.out.size))
    have HKL := Lib.hid hkl
    have HW16 := Lib.hid hw16
    clear b16 rl rk rl2 rk2 hkk hkz hkl hw16 hsv HB15 HR15
    go_wp2_with (with_reducible show wpList _ _ _ _ _ _; refine wpList_store_new rfl 89 (.tmp 15) (.tmp 73) rfl 89 _ last.cells.toArray rfl rfl HSL.out HL7.out last.cells_one ?_; rw [← HW16.out, ← HKL.out])
    go_ret
    exact ⟨rfl, HB16.out⟩)
end Go.Proofs.Ytllnaocnojhlkaa.Dk
