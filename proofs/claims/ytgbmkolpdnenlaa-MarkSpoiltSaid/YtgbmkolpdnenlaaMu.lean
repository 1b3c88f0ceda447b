/- MarkPuts' walk. -/
import Derived.Test.YtgbmkolpdnenlaaLi
import Derived.Test.YtgbmkolpdnenlaaQg
import Derived.Test.YtgbmkolpdnenlaaIn
import Derived.Test.YtgbmkolpdnenlaaMt
import Derived.Test.YtgbmkolpdnenlaaMl
import Derived.Deep.DeepCutAuto
namespace Go.Proofs.Ytgbmkolpdnenlaa.Dk
open Go Go.RowKit
set_option linter.unusedVariables false
set_option linter.unusedSimpArgs false
/-- Where the loop stands: of i lists k were put, lw the last one. -/
structure MpSt (w wr : World) (d g m k8 f : Nat) (x : DS) (lw : List Nat) (ao : Option Addr) (c k i n : Nat) : Prop where
  E : DiskAt Try.prog wr d g m n x
  calm : Calm x
  n5 : x.s.length = 5
  great : x.great f = k
  last : x.lastMark f = padM k lw
  h6 : lw.length ≤ 6
  small : ∀ u ∈ lw, u < 18446744073709551616
  row : wr.heap[k8]? = some (.cells #[.int .u64 (k : Int), .slice ao lw.length c] 31 (0, 0))
  U : U64s wr (.slice ao lw.length c) lw
  ki : k ≤ i
  fu : x.fuse < 0
  n : n ≤ i
  be : Below w.heap.size w wr
def MpRel (w : World) (d g m k8 f N : Nat) (u v : Value) (wr : World) : Prop :=
  ∃ (i k n : Nat) (x : DS) (lw : List Nat) (ao : Option Addr) (c : Nat), u = .int .i64 (i : Int) ∧ v = .int .u64 (k : Int) ∧ i ≤ N ∧ MpSt w wr d g m k8 f x lw ao c k i n
theorem new5_last (f : Nat) (h : f ≤ 3) : (DS.new 5).lastMark f = padM 0 [] ∧ (DS.new 5).great f = 0 := by
  match f, h with
  | 0, _ => exact ⟨by decide +kernel, by decide +kernel⟩
  | 1, _ => exact ⟨by decide +kernel, by decide +kernel⟩
  | 2, _ => exact ⟨by decide +kernel, by decide +kernel⟩
  | 3, _ => exact ⟨by decide +kernel, by decide +kernel⟩
theorem calm_new5 : Calm (DS.new 5) := calm_new 5
/-- What a put leaves on a calm disk whose last mark has the greatest number. -/
theorem put_next {x : DS} {f k : Nat} {lw ws : List Nat} (hc : Calm x) (hn : f + 2 ≤ x.s.length) (hg : x.great f = k) (hl : x.lastMark f = padM k lw) (h6 : ws.length ≤ 6) (hws : ∀ u ∈ ws, u < 18446744073709551616) (hk : k ≤ 1000) (hf : x.fuse < 0) :
    x.next f ws = padM (k + 1) ws ∧ ∃ y, y = (x.mark f (padM (k + 1) ws)).2 ∧ (x.mark f (padM (k + 1) ws)).1 = 0 ∧ Calm y ∧ y.s = x.s.set (f + (k + 1) % 2) (layM (padM (k + 1) ws)) ∧ y.great f = k + 1 ∧ y.lastMark f = padM (k + 1) ws ∧ y.fuse = x.fuse := by
  have hok := padM_ok (seq := k + 1) h6 hws (by omega)
  have hnx : x.next f ws = padM (k + 1) ws := by
    unfold DS.next DS.nextSeq
    rw [hl, hg]
    have : (padM k lw).seq = k := rfl
    rw [this, if_neg (by omega)]
    rfl
  have hfi := mark_fine hc (first := f) hok hn (.inl hf)
  have hls := last_set hc hfi.2.1 (first := f) hok hn hfi.2.2.1 (by rw [hg]; show k < k + 1; omega)
  exact ⟨hnx, _, rfl, hfi.1, hfi.2.1, hfi.2.2.1, hls.2, hls.1, by rw [hfi.2.2.2, if_pos hf]⟩
set_option maxRecDepth 100000 in
set_option maxHeartbeats 8000000 in
theorem puts_main {w : World} {ao : Option Addr} {c : Nat} {L : List (List Nat)} (hL : NumL w (.slice ao L.length c) L) (f : Nat) (hf : f ≤ 3) :
    Calls Try.prog 3 #[.slice ao L.length c, .int .i64 (f : Int)] w fun e w' => e = .returned (.bool true) ∧ Below w.heap.size w w' := by
  have HL := Lib.hid hL
  have MK := Lib.hid (marks_any w)
  clear hL
  by_cases c20 : (20 : Int) < (L.length : Int)
  · go_enter Try.func3, Try.ntmps3
    go_wp2_with fail
    refine MK.out.mono ?_
    rintro e w1 ⟨rfl, hb1⟩
    have HB1 := Lib.hid hb1
    clear hb1 MK
    go_wp2_with fail
    go_ret
    exact ⟨rfl, HB1.out⟩
  go_enter Try.func3, Try.ntmps3
  go_wp2_with fail
  refine MK.out.mono ?_
  rintro e w1 ⟨rfl, hb1⟩
  have HB1 := Lib.hid hb1
  have N := Lib.hid (new_any 5 (by decide) (by decide) w1)
  clear hb1 MK
  go_wp2_with fail
  refine N.out.mono ?_
  rintro e w2 ⟨d, g, m, rfl, hD2, hb2, hd, hg, hm⟩
  have HO := Lib.hid (show ∀ i, own3 d g m i → w.heap.size ≤ i from fun i e => by have := HB1.out.size; rcases e with e | e | e <;> omega)
  have HB2 := Lib.hid (HB1.out.trans (hb2.mono HB1.out.size))
  have HD2 := Lib.hid hD2
  clear hD2 hb2 N hd hg hm HB1
  go_wp2_with fail
  obtain ⟨k8, hk8⟩ : ∃ k, k = w2.heap.size := ⟨_, rfl⟩
  obtain ⟨w3, hw3⟩ : ∃ w3, w3 = w2.alloc (.cells #[.int .u64 0, .slice none 0 0] 31) := ⟨_, rfl⟩
  have b3 : Below w2.heap.size w2 w3 := by rw [hw3]; exact (Below.refl _ _).alloc (Nat.le_refl _) _
  have r3 : w3.heap[k8]? = some (.cells #[.int .u64 0, .slice none 0 0] 31 (0, 0)) := by rw [hw3, hk8]; exact heap_alloc_new _ _
  have HNO := Lib.hid (show ¬ own3 d g m k8 ∧ w.heap.size ≤ k8 from ⟨fun e => by have h1 := HD2.out.dlt; have h2 := HD2.out.glt; have h3 := HD2.out.mlt; rcases e with e | e | e <;> omega, by rw [hk8]; exact HB2.out.size⟩)
  have J0 := Lib.hid (show MpRel w d g m k8 f L.length (.int .i64 0) (.int .u64 0) w3 from ⟨0, 0, 0, DS.new 5, [], none, 0, rfl, rfl, Nat.zero_le _, ⟨HD2.out.below b3 (Nat.le_refl _), calm_new5, rfl, (new5_last f hf).2, (new5_last f hf).1, by decide, (fun u hu => by cases hu), r3, ⟨none, 0, rfl, (fun _ => rfl), (fun ad e => by cases e)⟩, Nat.le_refl _, (show (-1 : Int) < 0 by decide), Nat.le_refl _, HB2.out.trans (b3.mono HB2.out.size)⟩⟩)
  rw [← hk8, ← hw3]
  clear hk8 hw3 b3 r3 HB2 HD2
  go_wp2_with fail
  go_loopw [29, 7] (fun u v wr => MpRel w d g m k8 f L.length u v wr) (fun u _ _ => L.length - (intOf u).toNat)
  case atStart => exact J0.out
  case round =>
    obtain ⟨wo, rfl⟩ : ∃ wo : World, wo = wr := ⟨_, rfl⟩
    obtain ⟨i, k, n, x, lw, lao, lc, rfl, rfl, hi, ST⟩ := hrel
    have HST := Lib.hid ST
    clear ST J0
    by_cases hil : i < L.length
    · have hii : (i : Int) < (L.length : Int) := by omega
      obtain ⟨ao', c', e', hc⟩ := HL.out
      injection e' with e1 e2 e3
      subst e1 e3
      obtain ⟨a, rfl, aj, cj, hcell, hU, hsm, hlen⟩ := hc i hil
      obtain ⟨ws, hws⟩ : ∃ ws, ws = L.getD i [] := ⟨_, rfl⟩
      rw [← hws] at hcell hU hsm hlen
      have hcw : wo.cell? (a.add i) = some (.slice aj ws.length cj) := by rw [HST.out.be.cell (World.block_lt_of_cell? w _ hcell)]; exact hcell
      have HU := Lib.hid hU
      have HSM := Lib.hid hsm
      clear hc hcell hU hsm hlen hws e2
      have h3i : ¬ (3 : Int) < (f : Int) := by omega
      by_cases c20w : (20 : Int) < (ws.length : Int)
      · go_wp2_with fail
        go_ret
        exact ⟨rfl, HST.out.be⟩
      have HRng := Lib.hid (show f + 2 ≤ x.s.length by rw [HST.out.n5]; omega)
      by_cases c6 : (6 : Int) < (ws.length : Int)
      · have PL := Lib.hid (put_long HST.out.E f HRng.out HST.out.calm.up aj ws.length cj (by omega))
        go_wp2_with fail
        refine PL.out.mono ?_
        rintro e w4 ⟨rfl, hb4⟩
        obtain ⟨w5, hw5⟩ : ∃ w5, w5 = w4.alloc (.cells noM.cells.toArray 34) := ⟨_, rfl⟩
        have b5 : Below wo.heap.size wo w5 := hb4.trans (by rw [hw5]; exact ((Below.refl _ w4).alloc (Nat.le_refl _) _).mono hb4.size)
        have HE5 := Lib.hid (HST.out.E.below b5 (Nat.le_refl _))
        have HB5 := Lib.hid (HST.out.be.trans (b5.mono HST.out.be.size))
        have HR5 := Lib.hid ((b5.block k8 (lt_of_row HST.out.row)).trans HST.out.row)
        have HU5 := Lib.hid (HST.out.U.below b5 (Nat.le_refl _))
        have HS0 := Lib.hid (show (Try.prog.info? 34).map (·.size) = some noM.cells.toArray.size by rw [List.size_toArray]; exact Try.markSize noM_ok)
        obtain ⟨l, hl⟩ : ∃ l, l = if k = 0 then noM else padM k lw := ⟨_, rfl⟩
        obtain ⟨G, hG⟩ : ∃ G : Int, (0 < k ∧ G = 0) ∨ (k = 0 ∧ G = 4) := by
          by_cases h0 : 0 < k
          · exact ⟨0, .inl ⟨h0, rfl⟩⟩
          · exact ⟨4, .inr ⟨by omega, rfl⟩⟩
        have hlok : l.Ok := by
          rw [hl]
          split
          · exact noM_ok
          · exact padM_ok HST.out.h6 HST.out.small (by have := HST.out.ki; omega)
        have GU : Calls Try.prog 16 #[.pointer (some ⟨d, 0, none⟩), .int .i64 (f : Int)] w5 fun e w' => e = .returned (.tuple #[.agg l.cells.toArray, .int .i64 G]) ∧ Below w5.heap.size w5 w' := by
          have h := get_ok HE5.out f HRng.out HST.out.calm.up
          rw [HST.out.last] at h
          rcases hG with ⟨h0, e⟩ | ⟨h0, e⟩
          · have hp : 0 < (padM k lw).seq := h0
            rw [if_pos hp, if_pos hp] at h
            rw [hl, if_neg (by omega), e]
            exact h
          · have hp : ¬ 0 < (padM k lw).seq := by show ¬ 0 < k; omega
            rw [if_neg hp, if_neg hp] at h
            rw [hl, if_pos h0, e]
            exact h
        have GUH := Lib.hid GU
        have HW5 := Lib.hid hw5
        have HLO := Lib.hid hlok
        have HLL := Lib.hid (show k ≠ 0 → l = padM k lw from fun h => by rw [hl, if_neg h])
        clear hb4 hw5 b5 PL GU hlok hl
        go_wp2_with (with_reducible show wpList _ _ _ _ _ _; refine wpList_store_new rfl 34 (.tmp 11) (.tmp 41) rfl 34 _ noM.cells.toArray rfl rfl HS0.out rfl noM.cells_one ?_; rw [← HW5.out])
        refine GUH.out.mono ?_
        rintro e w10 ⟨rfl, hb10⟩
        obtain ⟨ke, hke⟩ : ∃ k, k = w10.heap.size := ⟨_, rfl⟩
        obtain ⟨wf, hwf⟩ : ∃ wf, wf = w10.alloc (.cells l.cells.toArray 34) := ⟨_, rfl⟩
        have bf : Below w10.heap.size w10 wf := by rw [hwf]; exact (Below.refl _ _).alloc (Nat.le_refl _) _
        have rf : wf.heap[ke]? = some (.cells l.cells.toArray 34 (0, 0)) := by rw [hwf, hke]; exact heap_alloc_new _ _
        have b9 : Below w5.heap.size w5 wf := hb10.trans (bf.mono hb10.size)
        have HEF := Lib.hid (HE5.out.below b9 (Nat.le_refl _))
        have HUF := Lib.hid (HU5.out.below b9 (Nat.le_refl _))
        have hrf := (b9.block k8 (lt_of_row HR5.out)).trans HR5.out
        have HRF := Lib.hid hrf
        have HBF := Lib.hid (HB5.out.trans (b9.mono HB5.out.size))
        have HSL := Lib.hid (show (Try.prog.info? 34).map (·.size) = some l.cells.toArray.size by rw [List.size_toArray]; exact Try.markSize HLO.out)
        have HL7 := Lib.hid (show (#[Value.int .u64 0, .int .u64 0, .int .u64 0, .int .u64 0, .int .u64 0, .int .u64 0, .int .u64 0] : Array Value).size = l.cells.toArray.size by have := MkD.cells_length HLO.out; simp [this])
        have HWF := Lib.hid hwf
        have HKE := Lib.hid hke
        have RLf := Lib.hid (fun (wz : World) (hbz : Below wf.heap.size wf wz) => (show MpRel w d g m k8 f L.length (.int .i64 ((i + 1 : Nat) : Int)) (.int .u64 (k : Int)) wz from ⟨i + 1, k, n, x, lw, lao, lc, rfl, rfl, by omega,
          ⟨HEF.out.below hbz (Nat.le_refl _), HST.out.calm, HST.out.n5, HST.out.great, HST.out.last, HST.out.h6, HST.out.small, (hbz.block k8 (lt_of_row HRF.out)).trans HRF.out, HUF.out.below hbz (Nat.le_refl _), by have := HST.out.ki; omega, HST.out.fu, by have := HST.out.n; omega, HBF.out.trans (hbz.mono HBF.out.size)⟩⟩))
        rcases hG with ⟨h0, rfl⟩ | ⟨rfl, rfl⟩
        · have hs0 : ¬ k = 0 := by omega
          have m80 : wf.cell? ⟨k8, 0, none⟩ = some (.int .u64 (k : Int)) := by rw [cell_of_row wf k8 0 _ _ _ hrf]; rfl
          have m81 : wf.cell? ⟨k8, 1, none⟩ = some (.slice lao lw.length lc) := by rw [cell_of_row wf k8 1 _ _ _ hrf]; rfl
          have lk := like_any k HUF.out (HLL.out hs0) HLO.out HST.out.h6
          obtain ⟨sq, a1, a2, a3, a4, a5, a6, hlq⟩ := six_of HLO.out
          rw [hlq] at lk
          have rf2 := rf
          rw [hlq] at rf2
          obtain ⟨l0, l1, l2, l3, l4, l5, l6⟩ := seven rf2
          have LK := Lib.hid (show Calls Try.prog 13 #[.agg #[.int .u64 (sq : Int), .int .u64 (a1 : Int), .int .u64 (a2 : Int), .int .u64 (a3 : Int), .int .u64 (a4 : Int), .int .u64 (a5 : Int), .int .u64 (a6 : Int)], .agg #[.int .u64 (k : Int), .slice lao lw.length lc]] wf (fun e w' => e = .returned (.bool true) ∧ Below wf.heap.size wf w') from lk)
          clear hb10 bf rf rf2 b9 GUH HB5 HE5 HU5 HR5 hwf hke hlq lk hrf
          go_wp2_with (with_reducible show wpList _ _ _ _ _ _; refine wpList_store_new rfl 34 (.tmp 13) (.tmp 89) rfl 34 _ l.cells.toArray rfl rfl HSL.out HL7.out l.cells_one ?_; rw [← HWF.out, ← HKE.out])
          refine LK.out.mono ?_
          rintro e w12 ⟨rfl, hb12⟩
          have RL := Lib.hid (RLf.out w12 hb12)
          clear hb12 LK RLf
          go_wp2_with fail
          exact ⟨RL.out, by simp [intOf]; omega⟩
        · have RL := Lib.hid (RLf.out wf (Below.refl _ _))
          clear hb10 bf rf b9 GUH HB5 HE5 HU5 HR5 hwf hke hrf RLf
          go_wp2_with (with_reducible show wpList _ _ _ _ _ _; refine wpList_store_new rfl 34 (.tmp 13) (.tmp 89) rfl 34 _ l.cells.toArray rfl rfl HSL.out HL7.out l.cells_one ?_; rw [← HWF.out, ← HKE.out])
          exact ⟨RL.out, by simp [intOf]; omega⟩
      · have h6 : ws.length ≤ 6 := by omega
        obtain ⟨hnx, y, hy, hcode, hyc, hys, hyg, hyl, hyf⟩ := put_next (ws := ws) HST.out.calm HRng.out HST.out.great HST.out.last h6 HSM.out (by have := HST.out.ki; omega) HST.out.fu
        obtain ⟨s, hs⟩ : ∃ s, s = k + 1 := ⟨_, rfl⟩
        rw [← hs] at hnx hy hcode hys hyl hyg
        obtain ⟨mk, hmk⟩ : ∃ mk, mk = padM s ws := ⟨_, rfl⟩
        rw [← hmk] at hnx hy hcode hys hyl
        have hok : mk.Ok := by rw [hmk]; exact padM_ok h6 HSM.out (by have := HST.out.ki; omega)
        have PU : Calls Try.prog 12 #[.pointer (some ⟨d, 0, none⟩), .int .i64 (f : Int), .slice aj ws.length cj] wo fun e w' => e = .returned (.tuple #[.agg mk.cells.toArray, .int .i64 0]) ∧ DiskAt Try.prog w' d g m (n + 1) y ∧ Frm (own3 d g m) wo w' := by
          have h := put_ok HST.out.E (by have := HST.out.n; unfold maxLen; omega) (fun i l _ h => by rw [HST.out.calm.S] at h; cases h) f HRng.out HST.out.calm.up (HU.out.below HST.out.be (Nat.le_refl _)) HSM.out h6 (by rw [HST.out.great]; have := HST.out.ki; omega)
          rw [hnx, hcode, ← hy] at h
          exact h
        have PUH := Lib.hid PU
        have HMK := Lib.hid hmk
        have HOK := Lib.hid hok
        have H6 := Lib.hid h6
        have HY := Lib.hid (show Calm y ∧ y.s = x.s.set (f + s % 2) (layM mk) ∧ y.great f = s ∧ y.lastMark f = mk ∧ y.fuse < 0 from ⟨hyc, hys, hyg, hyl, by rw [hyf]; exact HST.out.fu⟩)
        clear hnx hy hcode hyc hys hyg hyl hyf hmk hok PU h6
        go_wp2_with fail
        refine PUH.out.mono ?_
        rintro e w4 ⟨rfl, hE4, hF4⟩
        have HE4 := Lib.hid hE4
        have HB4 := Lib.hid (HST.out.be.trans (hF4.below (B := w.heap.size) (fun i _ e => HO.out i e) HST.out.be.size))
        have HR4 := Lib.hid ((hF4.block k8 (lt_of_row HST.out.row) HNO.out.1).trans HST.out.row)
        obtain ⟨w5, hw5⟩ : ∃ w5, w5 = w4.alloc (.cells mk.cells.toArray 34) := ⟨_, rfl⟩
        obtain ⟨k11, hk11⟩ : ∃ k, k = w4.heap.size := ⟨_, rfl⟩
        have b5 : Below w4.heap.size w4 w5 := by rw [hw5]; exact (Below.refl _ _).alloc (Nat.le_refl _) _
        have HSMk := Lib.hid (show (Try.prog.info? 34).map (·.size) = some mk.cells.toArray.size by rw [List.size_toArray]; exact Try.markSize HOK.out)
        have HS7 := Lib.hid (show (#[Value.int .u64 0, .int .u64 0, .int .u64 0, .int .u64 0, .int .u64 0, .int .u64 0, .int .u64 0] : Array Value).size = mk.cells.toArray.size by have := MkD.cells_length HOK.out; simp [this])
        have HE5 := Lib.hid (HE4.out.below b5 (Nat.le_refl _))
        have HB5 := Lib.hid (HB4.out.trans (b5.mono HB4.out.size))
        have HR5 := Lib.hid ((b5.block k8 (lt_of_row HR4.out)).trans HR4.out)
        have HM5 := Lib.hid (show w5.heap[k11]? = some (.cells mk.cells.toArray 34 (0, 0)) by rw [hw5, hk11]; exact heap_alloc_new _ _)
        obtain ⟨w6, hw6⟩ : ∃ w6, w6 = w5.alloc (.cells #[] 28) := ⟨_, rfl⟩
        obtain ⟨kA, hkA⟩ : ∃ k, k = w5.heap.size := ⟨_, rfl⟩
        have b6 : Below w5.heap.size w5 w6 := by rw [hw6]; exact (Below.refl _ _).alloc (Nat.le_refl _) _
        have HB6 := Lib.hid (HB5.out.trans (b6.mono HB5.out.size))
        have HE6 := Lib.hid (HE5.out.below b6 (Nat.le_refl _))
        have HR6 := Lib.hid ((b6.block k8 (lt_of_row HR5.out)).trans HR5.out)
        have HM6 := Lib.hid ((b6.block k11 (lt_of_row HM5.out)).trans HM5.out)
        have SRC := Lib.hid (u64s_src (HU.out.below HB6.out (Nat.le_refl _)))
        have HKN := Lib.hid (show k8 ≠ k11 by have := lt_of_row HST.out.row; have := hF4.size; omega)
        have HW5 := Lib.hid hw5
        have HK11 := Lib.hid hk11
        have HW6 := Lib.hid hw6
        have HKA := Lib.hid hkA
        obtain ⟨i0, hi0, hz0, hz1, hz2⟩ := info_parts Try.infoW64
        have HI0 := Lib.hid hi0
        have HZ0 := Lib.hid hz0
        have HZ1 := Lib.hid hz1
        have HZ2 := Lib.hid hz2
        have hwk : IntKind.u64.wrap ((k : Int) + 1) = (s : Int) := by rw [IntKind.wrap_u64]; have := HST.out.ki; omega
        have HS := Lib.hid hs
        clear hs hE4 hF4 PUH HB4 HR4 HE4 b5 b6 hw5 hk11 hw6 hkA hi0 hz0 hz1 hz2 HE5 HB5 HR5 HM5
        go_wp2_with (first
          | (with_reducible show wpList _ _ _ _ _ _; refine wpList_store_new rfl 34 (.tmp 11) (.tmp 41) rfl 34 _ mk.cells.toArray rfl rfl HSMk.out HS7.out mk.cells_one ?_; rw [← HW5.out, ← HK11.out])
          | (at_builtin; rw [← HW6.out, ← HKA.out]; refine wpList_append_full_src _ rfl (.tmp 46) (.tmp 47) 29 29 rfl w.heap.size 28 i0 (.int .u64 0) 1 8 Try.underlying29 HI0.out HZ0.out HZ1.out HZ2.out rfl ⟨kA, 0, none⟩ 0 [] rfl rfl (fun j u h => by cases h) _ ws.length (ws.map uv) rfl SRC.out (by have := H6.out; unfold maxLen; omega) (by have := H6.out; omega) HB6.out.size ?_))
        intro v' w7 hgr
        obtain ⟨lao', lc', rfl, hU7, b7, hblk⟩ := grew_u64s hgr
        have hr7 := (b7.block k8 (lt_of_row HR6.out)).trans HR6.out
        have hm7 := (b7.block k11 (lt_of_row HM6.out)).trans HM6.out
        have hk86 : k8 < w6.heap.size := lt_of_row HR6.out
        have hk11n := HKN.out
        obtain ⟨w8, hw8⟩ : ∃ w8, w8 = w7.setRow k8 #[.int .u64 (s : Int), .slice lao' ws.length lc'] := ⟨_, rfl⟩
        have HE8 := Lib.hid (show DiskAt Try.prog w8 d g m (n + 1) y by
          have hE7 := HE6.out.below b7 (Nat.le_refl _)
          rw [hw8]
          exact hE7.keep (setRow_other w7 k8 d _ (fun e => HNO.out.1 (.inl e.symm))) (setRow_other w7 k8 g _ (fun e => HNO.out.1 (.inr (.inl e.symm)))) (setRow_other w7 k8 m _ (fun e => HNO.out.1 (.inr (.inr e.symm)))))
        have HU8 := Lib.hid (show U64s w8 (.slice lao' ws.length lc') ws by
          rw [hw8]
          exact hU7.setRow (fun h0 ad e => by have := hblk h0 ad e; omega) _)
        have HR8 := Lib.hid (show w8.heap[k8]? = some (.cells #[.int .u64 (s : Int), .slice lao' ws.length lc'] 31 (0, 0)) by rw [hw8]; exact setRow_heap _ _ _ _ _ (0, 0) hr7)
        have HM8 := Lib.hid (show w8.heap[k11]? = some (.cells mk.cells.toArray 34 (0, 0)) by rw [hw8, setRow_other w7 k8 k11 _ (fun e => hk11n e.symm)]; exact hm7)
        have HB8 := Lib.hid (show Below w.heap.size w w8 by rw [hw8]; exact below_setRow (HB6.out.trans (b7.mono HB6.out.size)) HNO.out.2 _)
        have HR7 := Lib.hid hr7
        have HW8 := Lib.hid hw8
        clear hgr hU7 b7 hblk hr7 hm7 hk86 hk11n hw8 HB6 HE6 HR6 HM6 SRC HW5 HK11 HW6 HKA HI0 HZ0 HZ1 HZ2 hwk
        go_upto_region 18 with ((with_reducible show wpList _ _ _ _ _ _); refine wpList_store_whole rfl 31 (.tmp 8) (.tmp 49) rfl k8 31 #[.int .u64 (k : Int), .slice lao lw.length lc] #[.int .u64 (s : Int), .slice lao' ws.length lc'] rfl (by with_unfolding_all rfl) HR7.out (by kernel_rfl) rfl (by kernel_rfl) ?_; rw [← HW8.out])
        simp only [Act.put, List.setIfInBounds_toArray, List.set_cons_zero, List.set_cons_succ, List.getElem_toArray, List.getElem_cons_zero, List.getElem_cons_succ]
        have hin : y.s.getD (f + s % 2) [] = layM mk := by rw [HY.out.2.1]; exact getD_set_self (by have := HRng.out; have := Nat.mod_lt s (show 0 < 2 by decide); omega)
        have hhas : y.has ((f + s % 2 : Nat) : Int) = true := by
          have := Nat.mod_lt s (show 0 < 2 by decide)
          have hl : y.s.length = 5 := by rw [HY.out.2.1, List.length_set, HST.out.n5]
          unfold DS.has
          rw [hl]
          simp only [Bool.and_eq_true, decide_eq_true_eq]
          omega
        have KE := Lib.hid (fun (W : World) (hW : Below w8.heap.size w8 W) => HE8.out.below hW (Nat.le_refl _))
        have KU := Lib.hid (fun (W : World) (hW : Below w8.heap.size w8 W) => HU8.out.below hW (Nat.le_refl _))
        have KS := Lib.hid (fun (W : World) (hW : Below w8.heap.size w8 W) => (show Calls Try.prog 14 #[.pointer (some ⟨d, 0, none⟩), .int .i64 ((f + s % 2 : Nat) : Int)] W (fun e w' => e = .returned (.string (str (layM mk))) ∧ Below W.heap.size W w') by
          have h := lsure_any (KE.out W hW) ((f + s % 2 : Nat) : Int) hhas
          rw [Int.toNat_natCast, hin] at h
          exact h))
        have hsb : s < 18446744073709551616 := by have h1 := HOK.out.seq; rw [HMK.out] at h1; exact h1
        have KT := Lib.hid (fun (W : World) (hW : Below w8.heap.size w8 W) => (show Calls Try.prog 15 #[.agg #[.int .u64 (s : Int), .slice lao' ws.length lc']] W (fun e w' => e = .returned (.string (str (layM mk))) ∧ Below W.heap.size W w') by
          have h := text6_any s (KU.out W hW) HSM.out H6.out hsb
          rw [← HMK.out] at h
          exact h))
        have KLi := Lib.hid (fun (W : World) (hW : Below w8.heap.size w8 W) => like_any s (KU.out W hW) HMK.out HOK.out H6.out)
        have KM := Lib.hid (fun (W : World) (hW : Below w8.heap.size w8 W) => cells_row ((hW.block k11 (lt_of_row HM8.out)).trans HM8.out))
        have KR := Lib.hid (fun (W : World) (hW : Below w8.heap.size w8 W) => cells_row (l := [.int .u64 (s : Int), .slice lao' ws.length lc']) ((hW.block k8 (lt_of_row HR8.out)).trans HR8.out))
        have HSMl := Lib.hid (Try.markSize HOK.out)
        have hm1 : (s : Int).tmod 2 = ((s % 2 : Nat) : Int) := by rw [Int.tmod_eq_emod_of_nonneg (by omega)]; omega
        have hm2 : IntKind.i64.wrap ((s % 2 : Nat) : Int) = ((s % 2 : Nat) : Int) := by rw [IntKind.wrap_i64]; have := Nat.mod_lt s (show 0 < 2 by decide); omega
        have hm3 : IntKind.u64.wrap ((s % 2 : Nat) : Int) = ((s % 2 : Nat) : Int) := by rw [IntKind.wrap_u64]; have := Nat.mod_lt s (show 0 < 2 by decide); omega
        have hm4 : IntKind.i64.wrap ((f : Int) + ((s % 2 : Nat) : Int)) = ((f + s % 2 : Nat) : Int) := by rw [IntKind.wrap_i64]; have := Nat.mod_lt s (show 0 < 2 by decide); omega
        have HM1 := Lib.hid hm1
        have HM2 := Lib.hid hm2
        have HM3 := Lib.hid hm3
        have HM4 := Lib.hid hm4
        clear hin hhas hsb hm1 hm2 hm3 hm4
        refine wp_region_quiet_in (fun w' => Below w8.heap.size w8 w') (by kernel_rfl) (by kernel_rfl) (Below.refl w8.heap.size w8).drew ?_
        (refine wpQuiet_run (v := .int .i64 0) rfl (fun w hC => by rfl) ?_; simp only [Act.put, List.setIfInBounds_toArray, List.set_cons_zero, List.set_cons_succ, List.getElem_toArray, List.getElem_cons_zero, List.getElem_cons_succ])
        (refine wpQuiet_run (v := .bool false) rfl (fun w hC => by go_simp) ?_; simp only [Act.put, List.setIfInBounds_toArray, List.set_cons_zero, List.set_cons_succ, List.getElem_toArray, List.getElem_cons_zero, List.getElem_cons_succ])
        (refine wpQuiet_run (v := .bool false) rfl (fun w hC => by rfl) ?_; simp only [Act.put, List.setIfInBounds_toArray, List.set_cons_zero, List.set_cons_succ, List.getElem_toArray, List.getElem_cons_zero, List.getElem_cons_succ])
        refine wpQuiet_loadG (by kernel_rfl) 34 (.tmp 11) rfl ⟨k11, 0, none⟩ rfl mk.cells _ (fun w' hC => KM.out w' hC) Try.underlying34 rfl HSMl.out ?_
        simp only [Act.put, List.setIfInBounds_toArray, List.set_cons_zero, List.set_cons_succ, List.getElem_toArray, List.getElem_cons_zero, List.getElem_cons_succ]
        refine wpQuiet_loadG (by kernel_rfl) 31 (.tmp 8) rfl ⟨k8, 0, none⟩ rfl [.int .u64 (s : Int), .slice lao' ws.length lc'] _ (fun w' hC => KR.out w' hC) Try.underlying31 rfl (by kernel_rfl) ?_
        simp only [Act.put, List.setIfInBounds_toArray, List.set_cons_zero, List.set_cons_succ, List.getElem_toArray, List.getElem_cons_zero, List.getElem_cons_succ]
        refine wpQuiet_callG (f := 13) (xs := #[.tmp 53, .tmp 54]) #[.agg mk.cells.toArray, .agg #[.int .u64 (s : Int), .slice lao' ws.length lc']] (.bool true) (by kernel_rfl) rfl Try.func13 (by kernel_rfl) (by kernel_rfl) (by simp [Act.eval]) (fun W hW => (KLi.out W hW).mono fun _ _ h' => ⟨h'.1, hW.trans (h'.2.mono hW.size)⟩) ?_
        simp only [Act.put, List.setIfInBounds_toArray, List.set_cons_zero, List.set_cons_succ, List.getElem_toArray, List.getElem_cons_zero, List.getElem_cons_succ]
        refine wpQuiet_runG (v := .bool false) (by kernel_rfl) (fun w' hC => by go_simp) ?_
        simp only [Act.put, List.setIfInBounds_toArray, List.set_cons_zero, List.set_cons_succ, List.getElem_toArray, List.getElem_cons_zero, List.getElem_cons_succ]
        (refine wpQuiet_run (v := .bool false) rfl (fun w hC => by kernel_rfl) ?_; simp only [Act.put, List.setIfInBounds_toArray, List.set_cons_zero, List.set_cons_succ, List.getElem_toArray, List.getElem_cons_zero, List.getElem_cons_succ])
        (refine wpQuiet_run (v := .bool false) rfl (fun w hC => by rfl) ?_; simp only [Act.put, List.setIfInBounds_toArray, List.set_cons_zero, List.set_cons_succ, List.getElem_toArray, List.getElem_cons_zero, List.getElem_cons_succ])
        refine wpQuiet_runG (v := .pointer (some ⟨d, 0, none⟩)) (by kernel_rfl) (fun w' hC => by rfl) ?_
        simp only [Act.put, List.setIfInBounds_toArray, List.set_cons_zero, List.set_cons_succ, List.getElem_toArray, List.getElem_cons_zero, List.getElem_cons_succ]
        refine wpQuiet_runG (v := .int .i64 (f : Int)) (by kernel_rfl) (fun w' hC => by rfl) ?_
        simp only [Act.put, List.setIfInBounds_toArray, List.set_cons_zero, List.set_cons_succ, List.getElem_toArray, List.getElem_cons_zero, List.getElem_cons_succ]
        refine wpQuiet_runG (v := .int .u64 (s : Int)) (by kernel_rfl) (fun w' hC => by rfl) ?_
        simp only [Act.put, List.setIfInBounds_toArray, List.set_cons_zero, List.set_cons_succ, List.getElem_toArray, List.getElem_cons_zero, List.getElem_cons_succ]
        refine wpQuiet_runG (v := .int .u64 ((s % 2 : Nat) : Int)) (by kernel_rfl) (fun w' hC => by have h1 := HM1.out; have h2 := HM3.out; go_simp) ?_
        simp only [Act.put, List.setIfInBounds_toArray, List.set_cons_zero, List.set_cons_succ, List.getElem_toArray, List.getElem_cons_zero, List.getElem_cons_succ]
        refine wpQuiet_runG (v := .int .i64 ((s % 2 : Nat) : Int)) (by kernel_rfl) (fun w' hC => by go_simp; rw [IntKind.wrap_i64]; omega) ?_
        simp only [Act.put, List.setIfInBounds_toArray, List.set_cons_zero, List.set_cons_succ, List.getElem_toArray, List.getElem_cons_zero, List.getElem_cons_succ]
        refine wpQuiet_runG (v := .int .i64 ((f + s % 2 : Nat) : Int)) (by kernel_rfl) (fun w' hC => by go_simp; rw [IntKind.wrap_i64]; omega) ?_
        simp only [Act.put, List.setIfInBounds_toArray, List.set_cons_zero, List.set_cons_succ, List.getElem_toArray, List.getElem_cons_zero, List.getElem_cons_succ]
        refine wpQuiet_callG (f := 14) (xs := #[.tmp 59, .tmp 64]) #[.pointer (some ⟨d, 0, none⟩), .int .i64 ((f + s % 2 : Nat) : Int)] (.string (str (layM mk))) (by kernel_rfl) rfl Try.func14 (by kernel_rfl) (by kernel_rfl) (by simp [Act.eval]) (fun W hW => (KS.out W hW).mono fun _ _ h' => ⟨h'.1, hW.trans (h'.2.mono hW.size)⟩) ?_
        simp only [Act.put, List.setIfInBounds_toArray, List.set_cons_zero, List.set_cons_succ, List.getElem_toArray, List.getElem_cons_zero, List.getElem_cons_succ]
        refine wpQuiet_loadG (by kernel_rfl) 31 (.tmp 8) rfl ⟨k8, 0, none⟩ rfl [.int .u64 (s : Int), .slice lao' ws.length lc'] _ (fun w' hC => KR.out w' hC) Try.underlying31 rfl (by kernel_rfl) ?_
        simp only [Act.put, List.setIfInBounds_toArray, List.set_cons_zero, List.set_cons_succ, List.getElem_toArray, List.getElem_cons_zero, List.getElem_cons_succ]
        refine wpQuiet_callG (f := 15) (xs := #[.tmp 66]) #[.agg #[.int .u64 (s : Int), .slice lao' ws.length lc']] (.string (str (layM mk))) (by kernel_rfl) rfl Try.func15 (by kernel_rfl) (by kernel_rfl) (by simp [Act.eval]) (fun W hW => (KT.out W hW).mono fun _ _ h' => ⟨h'.1, hW.trans (h'.2.mono hW.size)⟩) ?_
        simp only [Act.put, List.setIfInBounds_toArray, List.set_cons_zero, List.set_cons_succ, List.getElem_toArray, List.getElem_cons_zero, List.getElem_cons_succ]
        refine wpQuiet_runG (v := .bool false) (by kernel_rfl) (fun w' hC => by go_simp) ?_
        simp only [Act.put, List.setIfInBounds_toArray, List.set_cons_zero, List.set_cons_succ, List.getElem_toArray, List.getElem_cons_zero, List.getElem_cons_succ]
        (refine wpQuiet_run (v := .bool false) rfl (fun w hC => by kernel_rfl) ?_; simp only [Act.put, List.setIfInBounds_toArray, List.set_cons_zero, List.set_cons_succ, List.getElem_toArray, List.getElem_cons_zero, List.getElem_cons_succ])
        refine wpQuiet_nil ?_
        intro w9 hC9
        have HE9 := Lib.hid (KE.out w9 hC9)
        have HU9 := Lib.hid (KU.out w9 hC9)
        have HR9 := Lib.hid ((hC9.block k8 (lt_of_row HR8.out)).trans HR8.out)
        have HB9 := Lib.hid (HB8.out.trans (hC9.mono HB8.out.size))
        have hspos : 0 < s := by have := HS.out; omega
        have hn5 : y.s.length = 5 := by rw [HY.out.2.1, List.length_set, HST.out.n5]
        have GU : Calls Try.prog 16 #[.pointer (some ⟨d, 0, none⟩), .int .i64 (f : Int)] w9 fun e w' => e = .returned (.tuple #[.agg mk.cells.toArray, .int .i64 0]) ∧ Below w9.heap.size w9 w' := by
          have h := get_ok HE9.out f (by rw [hn5]; omega) HY.out.1.up
          have hp : 0 < mk.seq := by rw [HMK.out]; exact hspos
          rw [HY.out.2.2.2.1, if_pos hp, if_pos hp] at h
          exact h
        have GUH := Lib.hid GU
        have HN5 := Lib.hid hn5
        clear hC9 KE KU KS KT KLi KM KR HSMl HM1 HM2 HM3 HM4 HE8 HU8 HR8 HM8 HB8 GU hn5
        go_wp2_with fail
        refine GUH.out.mono ?_
        rintro e w10 ⟨rfl, hb10⟩
        obtain ⟨ke, hke⟩ : ∃ k, k = w10.heap.size := ⟨_, rfl⟩
        obtain ⟨wf, hwf⟩ : ∃ wf, wf = w10.alloc (.cells mk.cells.toArray 34) := ⟨_, rfl⟩
        have bf : Below w10.heap.size w10 wf := by rw [hwf]; exact (Below.refl _ _).alloc (Nat.le_refl _) _
        have rf : wf.heap[ke]? = some (.cells mk.cells.toArray 34 (0, 0)) := by rw [hwf, hke]; exact heap_alloc_new _ _
        have b9 : Below w9.heap.size w9 wf := hb10.trans (bf.mono hb10.size)
        have HEF := Lib.hid (HE9.out.below b9 (Nat.le_refl _))
        have HUF := Lib.hid (HU9.out.below b9 (Nat.le_refl _))
        have hrf := (b9.block k8 (lt_of_row HR9.out)).trans HR9.out
        have HRF := Lib.hid hrf
        have HBF := Lib.hid (HB9.out.trans (b9.mono HB9.out.size))
        have m80 : wf.cell? ⟨k8, 0, none⟩ = some (.int .u64 (s : Int)) := by rw [cell_of_row wf k8 0 _ _ _ hrf]; rfl
        have m81 : wf.cell? ⟨k8, 1, none⟩ = some (.slice lao' ws.length lc') := by rw [cell_of_row wf k8 1 _ _ _ hrf]; rfl
        have lk := like_any s HUF.out HMK.out HOK.out H6.out
        obtain ⟨sq, a1, a2, a3, a4, a5, a6, hlq⟩ := six_of HOK.out
        rw [hlq] at lk
        have rf2 := rf
        rw [hlq] at rf2
        obtain ⟨l0, l1, l2, l3, l4, l5, l6⟩ := seven rf2
        have LK := Lib.hid (show Calls Try.prog 13 #[.agg #[.int .u64 (sq : Int), .int .u64 (a1 : Int), .int .u64 (a2 : Int), .int .u64 (a3 : Int), .int .u64 (a4 : Int), .int .u64 (a5 : Int), .int .u64 (a6 : Int)], .agg #[.int .u64 (s : Int), .slice lao' ws.length lc']] wf (fun e w' => e = .returned (.bool true) ∧ Below wf.heap.size wf w') from lk)
        have HWF := Lib.hid hwf
        have HKE := Lib.hid hke
        have hs0 : ¬ s = 0 := by omega
        clear hb10 bf rf rf2 b9 GUH HB9 HE9 HU9 HR9 hwf hke hlq lk hrf
        go_wp2_with (with_reducible show wpList _ _ _ _ _ _; refine wpList_store_new rfl 34 (.tmp 13) (.tmp 89) rfl 34 _ mk.cells.toArray rfl rfl HSMk.out HS7.out mk.cells_one ?_; rw [← HWF.out, ← HKE.out])
        refine LK.out.mono ?_
        rintro e w12 ⟨rfl, hb12⟩
        have RL := Lib.hid (show MpRel w d g m k8 f L.length (.int .i64 ((i + 1 : Nat) : Int)) (.int .u64 (s : Int)) w12 from ⟨i + 1, s, n + 1, y, ws, lao', lc', rfl, rfl, by omega,
          ⟨HEF.out.below hb12 (Nat.le_refl _), HY.out.1, HN5.out, HY.out.2.2.1, by rw [HY.out.2.2.2.1, HMK.out], H6.out, HSM.out, (hb12.block k8 (lt_of_row HRF.out)).trans HRF.out, HUF.out.below hb12 (Nat.le_refl _), by have := HS.out; have := HST.out.ki; omega, HY.out.2.2.2.2, by have := HST.out.n; omega, HBF.out.trans (hb12.mono HBF.out.size)⟩⟩)
        clear hb12 LK
        go_wp2_with fail
        exact ⟨RL.out, by simp [intOf]; omega⟩
    · obtain rfl : i = L.length := by omega
      have PN := Lib.hid (pending_any HST.out.E (by have := HST.out.n; omega))
      go_wp2_with fail
      refine PN.out.mono ?_
      rintro e w5 ⟨v, ss, rfl, hps, hrow, hnil, hb5⟩
      obtain rfl := pend_nil hps HST.out.calm.S
      obtain rfl := hnil.2 rfl
      have HB5 := Lib.hid (HST.out.be.trans (hb5.mono HST.out.be.size))
      clear hps hrow hnil hb5 PN
      go_wp2_with fail
      go_ret
      exact ⟨rfl, HB5.out⟩
end Go.Proofs.Ytgbmkolpdnenlaa.Dk
