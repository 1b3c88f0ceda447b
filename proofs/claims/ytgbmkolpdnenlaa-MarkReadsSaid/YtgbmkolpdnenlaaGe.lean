/- The reference's last mark of two texts (foliotref06.Get). -/
import Derived.Test.YtgbmkolpdnenlaaRe
import Derived.Test.YtgbmkolpdnenlaaMo
namespace Go.Proofs.Ytgbmkolpdnenlaa.Dk
open Go Go.RowKit
set_option linter.unusedVariables false
set_option linter.unusedSimpArgs false
/-- What Read answers, in one form. -/
structure RU (l : List UInt8) (B : Nat) (w : World) (s : Nat) (ao : Option Addr) (c : Nat) (ws : List Nat) : Prop where
  U : U64s w (.slice ao ws.length c) ws
  h6 : ws.length ≤ 6
  small : ∀ u ∈ ws, u < 18446744073709551616
  lt : s < 18446744073709551616
  ok : layM (readM l) = l → padM s ws = readM l
  no : ¬ layM (readM l) = l → s = 0
  blk : ∀ ad, ao = some ad → B ≤ ad.block
theorem RU.below {l : List UInt8} {w w' : World} {s c : Nat} {ao : Option Addr} {ws : List Nat} {B C : Nat} (h : RU l C w s ao c ws) (hb : Below B w w') (hs : w.heap.size ≤ B) : RU l C w' s ao c ws := ⟨h.U.below hb hs, h.h6, h.small, h.lt, h.ok, h.no, h.blk⟩
theorem reU {l : List UInt8} {w : World} {B : Nat} {v : Value} (h : ReAns l B w v) : ∃ s ao c ws, v = .agg #[.int .u64 ((s : Nat) : Int), .slice ao ws.length c] ∧ RU l B w s ao c ws := by
  rcases h with ⟨hm, ao, c, rfl, hU, hblk⟩ | ⟨hm, rfl⟩
  · have h6 := (readM_ok l).len
    refine ⟨wordN l 0 8, ao, c, (readM l).W, by rw [h6], ⟨by rw [h6]; exact hU, by omega, (readM_ok l).W, word8_lt l 0, fun _ => ?_, fun h => absurd hm h, hblk⟩⟩
    unfold padM
    rw [h6, Nat.sub_self, List.replicate_zero, List.append_nil]
    exact (readM_eta l).symm
  · exact ⟨0, none, 0, [], rfl, ⟨⟨none, 0, rfl, (fun _ => rfl), fun ad e => by cases e⟩, by decide, (fun u hu => by cases hu), by decide, (fun h => absurd h hm), (fun _ => rfl), fun ad e => by cases e⟩⟩
/-- The number that stands: of a mark on its own sector. -/
theorem ru_seq {l : List UInt8} {w : World} {B s c i : Nat} {ao : Option Addr} {ws : List Nat} (h : RU l B w s ao c ws) : (s % 2 = i → seqAt l i = s) ∧ (s % 2 ≠ i → seqAt l i = 0) := by
  by_cases hm : layM (readM l) = l
  · have hp := h.ok hm
    have hs : (readM l).seq = s := by rw [← hp]; rfl
    constructor
    · intro e
      unfold seqAt
      rw [if_pos ⟨by rw [hs]; exact e, hm⟩, hs]
    · intro e
      unfold seqAt
      rw [if_neg (fun hc => e (by rw [← hs]; exact hc.1))]
  · have hs := h.no hm
    have hz : seqAt l i = 0 := by
      unfold seqAt
      rw [if_neg (fun hc => hm hc.2)]
    exact ⟨fun _ => by rw [hz, hs], fun _ => hz⟩
theorem lastM_of {a b : List UInt8} : (lastM a b 2 = if seqAt a 0 < seqAt b 1 then readM b else if 0 < seqAt a 0 then readM a else noM) ∧ (lastM a b 2).seq = max (seqAt a 0) (seqAt b 1) := by
  have e2 : lastM a b 2 = if isM b 1 ∧ (lastM a b 1).seq < (readM b).seq then readM b else lastM a b 1 := rfl
  have e1 : lastM a b 1 = if isM a 0 ∧ noM.seq < (readM a).seq then readM a else noM := rfl
  have h1 : (lastM a b 1).seq = seqAt a 0 ∧ lastM a b 1 = if 0 < seqAt a 0 then readM a else noM := by
    rw [e1]
    unfold seqAt
    have h0 : noM.seq = 0 := rfl
    by_cases hm : isM a 0
    · rw [if_pos hm]
      by_cases hz : 0 < (readM a).seq
      · rw [if_pos ⟨hm, by rw [h0]; exact hz⟩, if_pos hz]
        exact ⟨rfl, rfl⟩
      · rw [if_neg (fun h => hz (by have := h.2; rw [h0] at this; exact this)), if_neg hz]
        exact ⟨by rw [h0]; omega, rfl⟩
    · rw [if_neg (fun h => hm h.1), if_neg hm, if_neg (by decide)]
      exact ⟨h0, rfl⟩
  rw [e2, h1.1]
  by_cases hb : isM b 1
  · have hs : seqAt b 1 = (readM b).seq := by unfold seqAt; rw [if_pos hb]
    rw [hs]
    by_cases hl : seqAt a 0 < (readM b).seq
    · rw [if_pos ⟨hb, hl⟩, if_pos hl]
      exact ⟨rfl, by omega⟩
    · rw [if_neg (fun h => hl h.2), if_neg hl]
      exact ⟨h1.2, by rw [h1.1]; omega⟩
  · have hs : seqAt b 1 = 0 := by unfold seqAt; rw [if_neg hb]
    rw [hs, if_neg (fun h => hb h.1), if_neg (by omega)]
    exact ⟨h1.2, by rw [h1.1]; omega⟩
/-- What Get answers. -/
def GeAns (a b : List UInt8) (w : World) (v : Value) : Prop :=
  ∃ (s : Nat) (ao : Option Addr) (c : Nat) (ws : List Nat), v = .agg #[.int .u64 (s : Int), .slice ao ws.length c] ∧ U64s w (.slice ao ws.length c) ws ∧ ws.length ≤ 6 ∧ s = (lastM a b 2).seq ∧ (0 < s → lastM a b 2 = padM s ws)
set_option maxRecDepth 100000 in
set_option maxHeartbeats 3200000 in
theorem get6_any {a b : List UInt8} (ha : a.length = 128) (hb : b.length = 128) (w : World) :
    Calls Try.prog 20 #[.string (str a), .string (str b)] w fun e w' => ∃ v, e = .returned v ∧ GeAns a b w' v ∧ Below w.heap.size w w' := by
  have RA := Lib.hid (fun W => read6_any ha W)
  have RB := Lib.hid (fun W => read6_any hb W)
  have HA := Lib.hid ha
  have HBl := Lib.hid hb
  clear ha hb
  go_enter Try.func20, Try.ntmps20
  go_wp2_with fail
  refine (RA.out _).mono ?_
  rintro e w1 ⟨v1, rfl, h1, hb1⟩
  obtain ⟨s1, ao1, c1, ws1, rfl, hu1⟩ := reU h1
  have hzz : (w.alloc (.cells #[.int .u64 0, .slice none 0 0] 31)).heap.size = w.heap.size + 1 := Array.size_push _
  have HR1 := Lib.hid (show w1.heap[w.heap.size]? = some (.cells #[.int .u64 0, .slice none 0 0] 31 (0, 0)) from (hb1.block _ (by rw [hzz]; omega)).trans (heap_alloc_new w _))
  rw [hzz] at hu1
  have HSZ1 := Lib.hid (show w.heap.size < w1.heap.size by have := hb1.size; omega)
  have HU1 := Lib.hid hu1
  have HB1 := Lib.hid (show Below w.heap.size w w1 from ((Below.refl _ w).alloc (Nat.le_refl _) _).trans (hb1.mono (by rw [hzz]; omega)))
  clear h1 hu1 hb1 hzz
  go_wp2_with fail
  refine (RB.out _).mono ?_
  rintro e w2 ⟨v2, rfl, h2, hb2⟩
  obtain ⟨s2, ao2, c2, ws2, rfl, hu2⟩ := reU h2
  have HU2 := Lib.hid hu2
  have HU1' := Lib.hid (HU1.out.below hb2 (Nat.le_refl _))
  have HB2 := Lib.hid (HB1.out.trans (hb2.mono HB1.out.size))
  have HR2 := Lib.hid ((hb2.block _ (lt_of_row HR1.out)).trans HR1.out)
  clear h2 hu2 hb2 HU1 HB1 HR1
  go_upto_region 2 with fail
  obtain ⟨k5, hk5⟩ : ∃ k, k = w2.heap.size := ⟨_, rfl⟩
  obtain ⟨k6, hk6⟩ : ∃ k, k = k5 + 1 := ⟨_, rfl⟩
  obtain ⟨w3, hw3⟩ : ∃ w3, w3 = w2.alloc (.cells #[.int .u64 (s1 : Int), .slice ao1 ws1.length c1] 31) := ⟨_, rfl⟩
  obtain ⟨w4, hw4⟩ : ∃ w4, w4 = w3.alloc (.cells #[.int .u64 (s2 : Int), .slice ao2 ws2.length c2] 31) := ⟨_, rfl⟩
  have z3 : w3.heap.size = w2.heap.size + 1 := by rw [hw3]; exact Array.size_push _
  have b3 : Below w2.heap.size w2 w3 := by rw [hw3]; exact (Below.refl _ _).alloc (Nat.le_refl _) _
  have b4 : Below w3.heap.size w3 w4 := by rw [hw4]; exact (Below.refl _ _).alloc (Nat.le_refl _) _
  have b24 : Below w2.heap.size w2 w4 := b3.trans (b4.mono b3.size)
  have r5 : w4.heap[k5]? = some (.cells #[.int .u64 (s1 : Int), .slice ao1 ws1.length c1] 31 (0, 0)) := (b4.block k5 (by omega)).trans (by rw [hw3, hk5]; exact heap_alloc_new _ _)
  have r6 : w4.heap[k6]? = some (.cells #[.int .u64 (s2 : Int), .slice ao2 ws2.length c2] 31 (0, 0)) := by rw [hw4, hk6, hk5, ← z3]; exact heap_alloc_new _ _
  have rr : w4.heap[w.heap.size]? = some (.cells #[.int .u64 0, .slice none 0 0] 31 (0, 0)) := (b24.block _ (by have := lt_of_row HR2.out; omega)).trans HR2.out
  rw [← hw3, ← hw4, ← hk5, ← hk6]
  obtain ⟨wX, sx, aox, cx, wsx, hX, rx5, rx6, rxr, hxb, uX, x6, xseq, xpad, xblk⟩ : ∃ (wX : World) (sx : Nat) (aox : Option Addr) (cx : Nat) (wsx : List Nat), ((s1 % 2 = 0 ∧ wX = w4 ∧ sx = s1) ∨ (s1 % 2 = 1 ∧ wX = w4.setRow k5 #[.int .u64 0, .slice none 0 0])) ∧
      wX.heap[k5]? = some (.cells #[.int .u64 (sx : Int), .slice aox wsx.length cx] 31 (0, 0)) ∧ wX.heap[k6]? = some (.cells #[.int .u64 (s2 : Int), .slice ao2 ws2.length c2] 31 (0, 0)) ∧ wX.heap[w.heap.size]? = some (.cells #[.int .u64 0, .slice none 0 0] 31 (0, 0)) ∧
      Below w2.heap.size w2 wX ∧ U64s w2 (.slice aox wsx.length cx) wsx ∧ wsx.length ≤ 6 ∧ seqAt a 0 = sx ∧ (0 < sx → readM a = padM sx wsx) ∧ (∀ ad, aox = some ad → w.heap.size < ad.block) := by
    have hq := ru_seq (i := 0) HU1'.out
    rcases (show s1 % 2 = 0 ∨ s1 % 2 = 1 by omega) with p | p
    · refine ⟨w4, s1, ao1, c1, ws1, .inl ⟨p, rfl, rfl⟩, r5, r6, rr, b24, HU1'.out.U, HU1'.out.h6, hq.1 p, fun h => ?_, fun ad e => Nat.lt_of_lt_of_le (Nat.lt_succ_self _) (HU1'.out.blk ad e)⟩
      by_cases hm : layM (readM a) = a
      · exact (HU1'.out.ok hm).symm
      · have := HU1'.out.no hm; omega
    · refine ⟨_, 0, none, 0, [], .inr ⟨p, rfl⟩, setRow_heap _ _ _ _ _ (0, 0) r5, (setRow_other _ _ _ _ (by omega)).trans r6, (setRow_other _ _ _ _ (by have := lt_of_row HR2.out; omega)).trans rr, below_setRow b24 (by omega) _, ⟨none, 0, rfl, (fun _ => rfl), fun ad e => by cases e⟩, by decide, hq.2 (by omega), (fun h => absurd h (by decide)), fun ad e => by cases e⟩
  obtain ⟨wY, sy, aoy, cy, wsy, hY, ry5, ry6, ryr, hyb, uY, y6, yseq, ypad, yblk⟩ : ∃ (wY : World) (sy : Nat) (aoy : Option Addr) (cy : Nat) (wsy : List Nat), ((s2 % 2 = 1 ∧ wY = wX ∧ sy = s2) ∨ (s2 % 2 = 0 ∧ wY = wX.setRow k6 #[.int .u64 0, .slice none 0 0])) ∧
      wY.heap[k5]? = some (.cells #[.int .u64 (sx : Int), .slice aox wsx.length cx] 31 (0, 0)) ∧ wY.heap[k6]? = some (.cells #[.int .u64 (sy : Int), .slice aoy wsy.length cy] 31 (0, 0)) ∧ wY.heap[w.heap.size]? = some (.cells #[.int .u64 0, .slice none 0 0] 31 (0, 0)) ∧
      Below w2.heap.size w2 wY ∧ U64s w2 (.slice aoy wsy.length cy) wsy ∧ wsy.length ≤ 6 ∧ seqAt b 1 = sy ∧ (0 < sy → readM b = padM sy wsy) ∧ (∀ ad, aoy = some ad → w.heap.size < ad.block) := by
    have hq := ru_seq (i := 1) HU2.out
    rcases (show s2 % 2 = 1 ∨ s2 % 2 = 0 by omega) with p | p
    · refine ⟨wX, s2, ao2, c2, ws2, .inl ⟨p, rfl, rfl⟩, rx5, rx6, rxr, hxb, HU2.out.U, HU2.out.h6, hq.1 p, fun h => ?_, fun ad e => by have := HU2.out.blk ad e; have := HSZ1.out; omega⟩
      by_cases hm : layM (readM b) = b
      · exact (HU2.out.ok hm).symm
      · have := HU2.out.no hm; omega
    · refine ⟨_, 0, none, 0, [], .inr ⟨p, rfl⟩, (setRow_other _ _ _ _ (by omega)).trans rx5, setRow_heap _ _ _ _ _ (0, 0) rx6, (setRow_other _ _ _ _ (by have := lt_of_row HR2.out; omega)).trans rxr, below_setRow hxb (by omega) _, ⟨none, 0, rfl, (fun _ => rfl), fun ad e => by cases e⟩, by decide, hq.2 (by omega), (fun h => absurd h (by decide)), fun ad e => by cases e⟩
  obtain ⟨hls, hlq⟩ := lastM_of (a := a) (b := b)
  rw [xseq, yseq] at hls hlq
  have HLS := Lib.hid hls
  have HLQ := Lib.hid hlq
  have HXP := Lib.hid xpad
  have HYP := Lib.hid ypad
  have HUX := Lib.hid uX
  have HUY := Lib.hid uY
  have HX6 := Lib.hid x6
  have HY6 := Lib.hid y6
  have HXB := Lib.hid xblk
  have HYB := Lib.hid yblk
  have HYW := Lib.hid hyb
  have HRX5 := Lib.hid rx5
  have HRX6 := Lib.hid rx6
  have HRY5 := Lib.hid ry5
  have HRY6 := Lib.hid ry6
  have HRYR := Lib.hid ryr
  have HR5 := Lib.hid r5
  have cx5 : w4.cell? ⟨k5, 0, none⟩ = some (.int .u64 (s1 : Int)) := by rw [cell_of_row w4 k5 0 _ _ _ r5]; rfl
  have cx6 : wX.cell? ⟨k6, 0, none⟩ = some (.int .u64 (s2 : Int)) := by rw [cell_of_row wX k6 0 _ _ _ rx6]; rfl
  have cy5 : wY.cell? ⟨k5, 0, none⟩ = some (.int .u64 (sx : Int)) := by rw [cell_of_row wY k5 0 _ _ _ ry5]; rfl
  have cy6 : wY.cell? ⟨k6, 0, none⟩ = some (.int .u64 (sy : Int)) := by rw [cell_of_row wY k6 0 _ _ _ ry6]; rfl
  have dy5 : wY.cell? ⟨k5, 1, none⟩ = some (.slice aox wsx.length cx) := by rw [cell_of_row wY k5 1 _ _ _ ry5]; rfl
  have dy6 : wY.cell? ⟨k6, 1, none⟩ = some (.slice aoy wsy.length cy) := by rw [cell_of_row wY k6 1 _ _ _ ry6]; rfl
  have SZ0 := Lib.hid (show (Try.prog.info? 31).map (·.size) = some (#[.int .u64 0, .slice none 0 0] : Array Value).size by kernel_rfl)
  have SZX := Lib.hid (show (Try.prog.info? 31).map (·.size) = some (#[.int .u64 (sx : Int), .slice aox wsx.length cx] : Array Value).size by kernel_rfl)
  have SZY := Lib.hid (show (Try.prog.info? 31).map (·.size) = some (#[.int .u64 (sy : Int), .slice aoy wsy.length cy] : Array Value).size by kernel_rfl)
  have HHX := Lib.hid hX
  have HHY := Lib.hid hY
  have HK56 := Lib.hid (show w.heap.size < w2.heap.size ∧ w2.heap.size = k5 ∧ k6 = k5 + 1 from ⟨lt_of_row HR2.out, hk5.symm, hk6⟩)
  clear hls hlq xpad ypad uX uY x6 y6 xblk yblk hyb rx5 rx6 rxr ry5 ry6 ryr r5 r6 rr hX hY hxb xseq yseq b3 b4 b24 z3 hw3 hw4 hk5 hk6 RA RB
  by_cases hlt : sx < sy
  · have hlti : (sx : Int) < (sy : Int) := by omega
    rcases HHX.out with ⟨p, rfl, rfl⟩ | ⟨p, hwX⟩ <;> rcases HHY.out with ⟨q, rfl, rfl⟩ | ⟨q, hwY⟩
    all_goals (
      first
        | have p1 : (sx : Int) % 2 = 0 := by omega
        | (have p1 : (s1 : Int) % 2 = 1 := by omega
           have HWX := Lib.hid hwX
           clear hwX)
      first
        | have p2 : (sy : Int) % 2 = 1 := by omega
        | (have p2 : (s2 : Int) % 2 = 0 := by omega
           have HWY := Lib.hid hwY
           clear hwY)
      go_wp2_with (first
        | ((with_reducible show wpList _ _ _ _ _ _); refine wpList_store_whole rfl 31 (.tmp 5) (.tmp 15) rfl k5 31 #[.int .u64 (s1 : Int), .slice ao1 ws1.length c1] #[.int .u64 0, .slice none 0 0] rfl (by with_unfolding_all rfl) HR5.out SZ0.out rfl (by kernel_rfl) ?_; rw [← HWX.out])
        | ((with_reducible show wpList _ _ _ _ _ _); refine wpList_store_whole rfl 31 (.tmp 6) (.tmp 20) rfl k6 31 #[.int .u64 (s2 : Int), .slice ao2 ws2.length c2] #[.int .u64 0, .slice none 0 0] rfl (by with_unfolding_all rfl) HRX6.out SZ0.out rfl (by kernel_rfl) ?_; rw [← HWY.out])
        | ((with_reducible show wpList _ _ _ _ _ _); refine wpList_store_whole rfl 31 (.tmp 4) (.tmp 26) rfl w.heap.size 31 #[.int .u64 0, .slice none 0 0] #[.int .u64 (sy : Int), .slice aoy wsy.length cy] rfl (by with_unfolding_all rfl) HRYR.out SZY.out rfl (by kernel_rfl) ?_))
      refine bodyPost_ret (results_cell_row rfl _ _ w.heap.size 31 _ (0, 0) _ rfl (setRow_heap _ _ _ _ _ (0, 0) HRYR.out) Try.underlying31 rfl SZY.out) rfl ⟨_, rfl, ⟨sy, aoy, cy, wsy, rfl, (HUY.out.below HYW.out (Nat.le_refl _)).setRow (fun _ ad e => HYB.out ad e) _, HY6.out, by rw [HLQ.out]; omega, fun h => by rw [HLS.out, if_pos hlt]; exact HYP.out h⟩, below_setRow (HB2.out.trans (HYW.out.mono HB2.out.size)) (Nat.le_refl _) _⟩)
  · have hlti : ¬ (sx : Int) < (sy : Int) := by omega
    rcases HHX.out with ⟨p, rfl, rfl⟩ | ⟨p, hwX⟩ <;> rcases HHY.out with ⟨q, rfl, rfl⟩ | ⟨q, hwY⟩
    all_goals (
      first
        | have p1 : (sx : Int) % 2 = 0 := by omega
        | (have p1 : (s1 : Int) % 2 = 1 := by omega
           have HWX := Lib.hid hwX
           clear hwX)
      first
        | have p2 : (sy : Int) % 2 = 1 := by omega
        | (have p2 : (s2 : Int) % 2 = 0 := by omega
           have HWY := Lib.hid hwY
           clear hwY)
      go_wp2_with (first
        | ((with_reducible show wpList _ _ _ _ _ _); refine wpList_store_whole rfl 31 (.tmp 5) (.tmp 15) rfl k5 31 #[.int .u64 (s1 : Int), .slice ao1 ws1.length c1] #[.int .u64 0, .slice none 0 0] rfl (by with_unfolding_all rfl) HR5.out SZ0.out rfl (by kernel_rfl) ?_; rw [← HWX.out])
        | ((with_reducible show wpList _ _ _ _ _ _); refine wpList_store_whole rfl 31 (.tmp 6) (.tmp 20) rfl k6 31 #[.int .u64 (s2 : Int), .slice ao2 ws2.length c2] #[.int .u64 0, .slice none 0 0] rfl (by with_unfolding_all rfl) HRX6.out SZ0.out rfl (by kernel_rfl) ?_; rw [← HWY.out])
        | ((with_reducible show wpList _ _ _ _ _ _); refine wpList_store_whole rfl 31 (.tmp 4) (.tmp 27) rfl w.heap.size 31 #[.int .u64 0, .slice none 0 0] #[.int .u64 (sx : Int), .slice aox wsx.length cx] rfl (by with_unfolding_all rfl) HRYR.out SZX.out rfl (by kernel_rfl) ?_))
      refine bodyPost_ret (results_cell_row rfl _ _ w.heap.size 31 _ (0, 0) _ rfl (setRow_heap _ _ _ _ _ (0, 0) HRYR.out) Try.underlying31 rfl SZX.out) rfl ⟨_, rfl, ⟨sx, aox, cx, wsx, rfl, (HUX.out.below HYW.out (Nat.le_refl _)).setRow (fun _ ad e => HXB.out ad e) _, HX6.out, by rw [HLQ.out]; omega, fun h => by rw [HLS.out, if_neg hlt, if_pos h]; exact HXP.out h⟩, below_setRow (HB2.out.trans (HYW.out.mono HB2.out.size)) (Nat.le_refl _) _⟩)
end Go.Proofs.Ytgbmkolpdnenlaa.Dk
