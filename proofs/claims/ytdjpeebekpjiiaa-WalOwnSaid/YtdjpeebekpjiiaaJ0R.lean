/- Commit: the batches that wait are made durable. -/
import Derived.Test.YtdjpeebekpjiiaaJ0Q
import Derived.Lib.SlBytesConst
namespace Go.Proofs.Ytdjpeebekpjiiaa.Dk
open Go Go.RowKit
set_option linter.unusedVariables false
set_option linter.unusedSimpArgs false
structure CmRel (w0 : World) (f start room : Nat) (W : List (List UInt8)) (v : Value) (wr : World) (j : Nat) (ao : Option Addr) (pc : Nat) (L : List (List UInt8)) (endp fp : Nat) : Prop where
  val : v = .int .i64 (j : Int)
  df : DfAt wr f start endp fp room (.slice ao L.length pc)
  parts : PartsD wr w0.heap.size (.slice ao L.length pc) L
  cnt : L.length = 3 * j
  txt : L.flatten = encW smW start (frs 1 (W.take j))
  ende : endp = endW start (frs 1 (W.take j))
  ge : start ≤ endp
  inr : endp - start ≤ room
  fit : fitN start room start W = j + fitN start room endp (W.drop j)
  jle : j ≤ W.length
  low : Below w0.heap.size w0 wr
theorem LogS.low {w w' : World} {B lg d r k g m n : Nat} {x : DS} {N count : Nat} {S : List UInt8} {t : TypeId} {T : List UInt8} {begin gr : Nat} {wv : Value} {W : List (List UInt8)} (h : LogS w B lg d r k g m n x N count S t T begin gr wv W) (hw : Below w.heap.size w w') : LogS w' B lg d r k g m n x N count S t T begin gr wv W :=
  ⟨h.lgat.below hw (Nat.le_refl _), h.ring.below hw (Nat.le_refl _), h.disk.below hw (Nat.le_refl _), h.logd, h.wait.below hw, h.bas, h.cnt, h.few, h.sep⟩
theorem LogD.mono {x : DS} {N count : Nat} {T : List UInt8} {begin gr gr' : Nat} (h : LogD x N count T begin gr) (hg : gr ≤ gr') : LogD x N count T begin gr' := ⟨h.keeps, h.calm, h.cnt, h.fit, h.mark, Nat.le_trans h.great hg, h.le⟩
theorem encW_len_end (p : Nat) (l : List Fm) : p + (encW smW p l).length = endW p l := (endW_eq smW l p).symm
theorem CmRel.next {w0 wr w2 : World} {f start room : Nat} {W : List (List UInt8)} {v : Value} {j : Nat} {ao : Option Addr} {pc : Nat} {L : List (List UInt8)} {endp fp : Nat} (h : CmRel w0 f start room W v wr j ao pc L endp fp) {l : List UInt8} (hl : W[j]? = some l) {ao' : Option Addr} {pc' fp' : Nat} (hfit : endp + restW endp l.length + 9 + l.length - start ≤ room)
    (hdf : DfAt w2 f start (endp + restW endp l.length + 9 + l.length) fp' room (.slice ao' (L.length + 3) pc')) (hp : PartsD w2 w0.heap.size (.slice ao' (L.length + 3) pc') (L ++ [List.replicate (restW endp l.length) 0, headW smW (endp + restW endp l.length) ⟨1, l⟩, l])) (hb : Below w0.heap.size wr w2) :
    CmRel w0 f start room W (.int .i64 ((j : Int) + 1)) w2 (j + 1) ao' pc' (L ++ [List.replicate (restW endp l.length) 0, headW smW (endp + restW endp l.length) ⟨1, l⟩, l]) (endp + restW endp l.length + 9 + l.length) fp' := by
  have hj : j < W.length := (List.getElem?_eq_some_iff.1 hl).1
  have hlen : (L ++ [List.replicate (restW endp l.length) 0, headW smW (endp + restW endp l.length) ⟨1, l⟩, l]).length = L.length + 3 := by simp
  have hee : endW endp [⟨1, l⟩] = endp + restW endp l.length + 9 + l.length := by simp only [endW]; omega
  have hge := h.ge
  refine ⟨by rw [Int.natCast_add]; rfl, by rw [hlen]; exact hdf, by rw [hlen]; exact hp, by rw [hlen, h.cnt]; omega, ?_, ?_, by omega, hfit, ?_, hj, h.low.trans hb⟩
  · rw [frs_take_succ 1 hl, encW_app, ← h.ende, List.flatten_append, h.txt]
    simp [encW, frmW]
  · rw [frs_take_succ 1 hl, endW_app, ← h.ende, hee]
  · have e := h.fit
    rw [List.drop_eq_getElem_cons hj, fitN, show W[j] = l from (List.getElem?_eq_some_iff.1 hl).2, if_pos hfit] at e
    rw [e, show endp + (restW endp l.length + 9 + l.length) = endp + restW endp l.length + 9 + l.length by omega]
    omega
theorem CmRel.stop {w0 wr : World} {f start room : Nat} {W : List (List UInt8)} {v : Value} {j : Nat} {ao : Option Addr} {pc : Nat} {L : List (List UInt8)} {endp fp : Nat} (h : CmRel w0 f start room W v wr j ao pc L endp fp) (hs : ∀ l, W[j]? = some l → ¬ endp + restW endp l.length + 9 + l.length - start ≤ room) : fitN start room start W = j := by
  rw [h.fit]
  by_cases hj : j < W.length
  · rw [List.drop_eq_getElem_cons hj, fitN, if_neg (hs _ (List.getElem?_eq_getElem hj))]
    rfl
  · rw [List.drop_eq_nil_of_le (by omega)]
    rfl
/-- What Commit leaves. -/
def CmPost (w : World) (B lg d g m n N count : Nat) (T : List UInt8) (begin gr : Nat) (W : List (List UInt8)) (e : Ending) (w' : World) : Prop :=
  ∃ r2 k2 S2 t2 x2 n2 ao c, e = .returned (.tuple #[.int .i64 ((fitN T.length (leftN begin T.length count) T.length W : Nat) : Int), .int .i64 (if fitN T.length (leftN begin T.length count) T.length W < W.length then 3 else 0)]) ∧
    LogS w' B lg d r2 k2 g m n2 x2 N count S2 t2 (T ++ encW smW T.length (frs 1 (W.take (fitN T.length (leftN begin T.length count) T.length W)))) begin (gr + 2) (.slice ao (W.drop (fitN T.length (leftN begin T.length count) T.length W)).length c) (W.drop (fitN T.length (leftN begin T.length count) T.length W)) ∧
    n2 ≤ n + 600000 ∧ Below B w w'
theorem WaitD.get {w : World} {B : Nat} {v : Value} {W : List (List UInt8)} (h : WaitD w B v W) (hne : 0 < W.length) : ∃ gw cap, v = .slice (some ⟨gw, 0, none⟩) W.length cap ∧ W.length ≤ cap ∧ ∀ (j : Nat) l, W[j]? = some l → gw < w.heap.size ∧ ∃ g c, w.cell? ⟨gw, j, none⟩ = some (.slice (some ⟨g, 0, none⟩) l.length c) ∧ g < w.heap.size ∧ w.rangeAt g 0 (bvs l) := by
  obtain ⟨vs, h1, h2, h3⟩ := h
  rcases h2.2 with ⟨rfl, h0⟩ | ⟨gw, cap, cur, rfl, hg, hh, hn, hc, hs, ht⟩
  · omega
  · refine ⟨gw, cap, rfl, hn, fun j l hl => ?_⟩
    have hj : j < W.length := (List.getElem?_eq_some_iff.1 hl).1
    have hu : vs[j]? = some (vs[j]'(by omega)) := List.getElem?_eq_getElem (by omega)
    obtain ⟨q1, q2⟩ := h3 j l _ hl hu
    rcases q1.2 with ⟨e, _⟩ | ⟨g, c, cur2, e, hg2, hh2, hn2, hc2, hs2, ht2⟩
    · exact absurd e q2
    · refine ⟨lt_of_row hh, g, c, ?_, lt_of_row hh2, fun i u hi => ?_⟩
      · rw [cell_of_row w gw j _ _ _ hh, ← e, ← hu, ← ht, List.getElem?_take_of_lt (by omega), Array.getElem?_toList]
      · have hi2 : i < l.length := by
          have := (List.getElem?_eq_some_iff.1 hi).1
          simpa [bvs] using this
        rw [cell_of_row w g (0 + i) _ _ _ hh2, Nat.zero_add, ← hi, ← ht2, List.getElem?_take_of_lt (by omega), Array.getElem?_toList]
theorem cm_end {w w4 : World} {B lg d r k g m n : Nat} {x : DS} {N count : Nat} {S : List UInt8} {t : TypeId} {T : List UInt8} {begin gr : Nat} {wv : Value} {W : List (List UInt8)} (h : LogS w B lg d r k g m n x N count S t T begin gr wv W) {ao : Option Addr} {R c : Nat} {W' : List (List UInt8)} (hw : WaitD w4 B (.slice ao R c) W') (hob : (Value.slice ao R c).ownBlock = wv.ownBlock) (hf : Frm (fun q => some q = wv.ownBlock) w w4) :
    LogS (w4.setCell ⟨lg, 3, none⟩ (.slice ao R c)) B lg d r k g m n x N count S t T begin gr (.slice ao R c) W' ∧ Frm (fun q => q = lg ∨ some q = wv.ownBlock) w (w4.setCell ⟨lg, 3, none⟩ (.slice ao R c)) ∧ LgAt w4 lg d r begin wv false := by
  obtain ⟨vs, h1, h2, h3⟩ := h.wait
  have nlg : some lg ≠ wv.ownBlock := own_neK h2 h.lgat (by decide)
  have nr : some r ≠ wv.ownBlock := own_neK h2 h.ring.blk (by decide)
  have hl4 : LgAt w4 lg d r begin wv false := h.lgat.keep (hf.block lg h.lgat.lt nlg)
  have f5 : Frm (fun q => q = lg ∨ some q = wv.ownBlock) w (w4.setCell ⟨lg, 3, none⟩ (.slice ao R c)) := ((Frm.refl (fun q => q = lg ∨ some q = wv.ownBlock) w).transT hf (fun _ _ h => .inr h)).setCell (p := ⟨lg, 3, none⟩) (.inl (.inl rfl)) _
  have n3 := own3_lg h.disk h.lgat
  have hrl : r ≠ lg := by
    rintro rfl
    have := h.ring.blk
    rw [h.lgat] at this
    injection this with this
    injection this with _ this _
    exact absurd this (by decide)
  have hno : ∀ q, own3 d g m q → ¬ (q = lg ∨ some q = wv.ownBlock) := by
    intro q hq e
    rcases e with rfl | e
    · exact n3 hq
    · rcases h2.2 with ⟨rfl, _⟩ | ⟨gw, cap, cur, rfl, _, hh, _⟩
      · cases e
      · have e2 : q = gw := by simpa [Value.ownBlock] using e
        subst e2
        exact own3_of h.disk hh (by decide) (by decide) hq
  refine ⟨⟨hl4.setWv _, h.ring.frame f5 (fun e => e.elim hrl nr) (fun e => e.elim h.sep.1 h.sep.2), h.disk.frame f5 (hno d (.inl rfl)) (hno g (.inr (.inl rfl))) (hno m (.inr (.inr rfl))), h.logd, hw.keep fun q cs fr e he _ hq => Below.heap_setCell w4 ⟨lg, 3, none⟩ _ q (fun e2 => ?_), h.bas, h.cnt, h.few, ⟨h.sep.1, by rw [hob]; exact h.sep.2⟩⟩, f5, hl4⟩
  have e2 : q = lg := e2
  subst e2
  rw [hl4] at hq
  injection hq with hq
  injection hq with _ hq _
  rcases he with rfl | rfl <;> exact absurd hq (by decide)
theorem cm_post {w w' : World} {B lg d g m n N count : Nat} {T : List UInt8} {begin gr : Nat} {W : List (List UInt8)} {r2 k2 n2 j R c room : Nat} {S2 : List UInt8} {t2 : TypeId} {x2 : DS} {ao : Option Addr} {ec : Int} (hrm : room = leftN begin T.length count) (hfit : fitN T.length room T.length W = j) (hec : ec = if j < W.length then 3 else 0)
    (hR : R = (W.drop j).length) (hL : LogS w' B lg d r2 k2 g m n2 x2 N count S2 t2 (T ++ encW smW T.length (frs 1 (W.take j))) begin (gr + 2) (.slice ao R c) (W.drop j)) (hn : n2 ≤ n + 600000) (hb : Below B w w') :
    CmPost w B lg d g m n N count T begin gr W (.returned (.tuple #[.int .i64 (j : Int), .int .i64 ec])) w' := by
  subst hR hec hrm
  unfold CmPost
  rw [hfit]
  exact ⟨r2, k2, S2, t2, x2, n2, ao, c, rfl, hL, hn, hb⟩
theorem LogS.calm {w : World} {B lg d r k g m n : Nat} {x : DS} {N count : Nat} {S : List UInt8} {t : TypeId} {T : List UInt8} {begin gr gr' : Nat} {wv : Value} {W : List (List UInt8)} (h : LogS w B lg d r k g m n x N count S t T begin gr wv W) (hg : gr ≤ gr') : LogS w B lg d r k g m n x N count S t T begin gr' wv W :=
  ⟨h.lgat, h.ring, h.disk, h.logd.mono hg, h.wait, h.bas, h.cnt, h.few, h.sep⟩
theorem CmRel.drew {w0 wr : World} {f start room : Nat} {W : List (List UInt8)} {v : Value} {j : Nat} {ao : Option Addr} {pc : Nat} {L : List (List UInt8)} {endp fp : Nat} (h : CmRel w0 f start room W v wr j ao pc L endp fp) (q : Nat) : CmRel w0 f start room W v (wr.drewN q) j ao pc L endp fp :=
  ⟨h.val, h.df, h.parts, h.cnt, h.txt, h.ende, h.ge, h.inr, h.fit, h.jle, below_drewN h.low q⟩
theorem cm_put {w wx : World} {B lg d r k g m n : Nat} {x : DS} {N count : Nat} {S : List UInt8} {t : TypeId} {T : List UInt8} {begin gr : Nat} {wv : Value} {W : List (List UInt8)} (h : LogS wx B lg d r k g m n x N count S t T begin gr wv W)
    (ht : T.length ≤ 3000000000) (hn : n ≤ 800000000) (hgr : gr ≤ 1000000000) (hW : W.length ≤ 64) {f room : Nat} {v : Value} {j : Nat} {ao : Option Addr} {pc : Nat} {L : List (List UInt8)} {endp fp : Nat} (hR : CmRel w f T.length room W v wx j ao pc L endp fp) (hrm : room = leftN begin T.length count) :
    Calls Try.prog 51 #[.pointer (some ⟨lg, 0, none⟩), .pointer (some ⟨f, 0, none⟩), .int .u64 (begin : Int)] wx fun e w' => e = .returned (.int .i64 0) ∧ ∃ r2 k2 S2 t2 x2 n2, LogS w' B lg d r2 k2 g m n2 x2 N count S2 t2 (T ++ encW smW T.length (frs 1 (W.take j))) begin (gr + 2) wv W ∧ n2 ≤ n + 600000 ∧ Frm (fun q => q = lg ∨ own3 d g m q) wx w' := by
  have hcl : count ≤ 4096 := by have := h.cnt; have := h.few; omega
  have hroom : leftN begin T.length count ≤ 524288 := by unfold leftN; omega
  have hs : sumLen L = L.flatten.length := rfl
  have he : endp = T.length + sumLen L := by rw [hs, hR.txt, hR.ende, endW_eq smW]
  have hin := hR.inr
  have hle := h.logd.le
  refine (wput_any h (by omega) (by omega) hR.df hR.parts.parts (by have := hR.cnt; have := hR.jle; omega) (by omega) (by omega) hgr he (b' := begin) (by omega)).mono ?_
  rintro e w' ⟨rfl, r2, k2, S2, t2, x2, n2, h2, hn2, _, _, hf⟩
  rw [hR.txt] at h2
  exact ⟨rfl, r2, k2, S2, t2, x2, n2, h2, by omega, hf⟩
theorem below_log {w wx w' : World} {B lg d g m : Nat} {v : Value} (hb : Below w.heap.size w wx) (hB : B ≤ w.heap.size) (hf : Frm (fun q => q = lg ∨ own3 d g m q ∨ some q = v.ownBlock) wx w') (hbas : B ≤ lg ∧ B ≤ d ∧ B ≤ g ∧ B ≤ m) (hv : ∀ q, some q = v.ownBlock → B ≤ q) : Below B w w' :=
  (hb.mono hB).trans ⟨hf.os, hf.tape, hf.output, hf.size, fun q hq => hf.block q (by have := hb.size; omega) fun e => by
    rcases e with rfl | (rfl | rfl | rfl) | e
    · omega
    · omega
    · omega
    · omega
    · have := hv q e; omega⟩
theorem WaitD.base {w : World} {B : Nat} {v : Value} {W : List (List UInt8)} (h : WaitD w B v W) : ∀ q, some q = v.ownBlock → B ≤ q := by
  obtain ⟨vs, h1, h2, h3⟩ := h
  intro q hq
  rcases h2.2 with ⟨rfl, _⟩ | ⟨g, cap, cur, rfl, hg, hh, _⟩
  · cases hq
  · have : q = g := by simpa [Value.ownBlock] using hq
    subst this
    exact hg
set_option maxRecDepth 100000 in
set_option maxHeartbeats 8000000 in
theorem wcommit_any {w : World} {B lg d r k g m n : Nat} {x : DS} {N count : Nat} {S : List UInt8} {t : TypeId} {T : List UInt8} {begin gr : Nat} {wv : Value} {W : List (List UInt8)} (h : LogS w B lg d r k g m n x N count S t T begin gr wv W)
    (ht : T.length ≤ 3000000000) (hn : n ≤ 800000000) (hgr : gr ≤ 1000000000) (hB : B ≤ w.heap.size) (hW : W.length ≤ 64) (hWl : ∀ l ∈ W, l.length ≤ 2039) :
    Calls Try.prog 25 #[.pointer (some ⟨lg, 0, none⟩)] w (CmPost w B lg d g m n N count T begin gr W) := by
  have hbl : begin < 18446744073709551616 := by have := h.logd.le; omega
  have hcl : count ≤ 4096 := by have := h.cnt; have := h.few; omega
  have hroom : leftN begin T.length count ≤ 524288 := by unfold leftN; omega
  have DR := Lib.hid (wdraft_any h.lgat h.ring (by omega) hbl (by omega))
  obtain ⟨room, hrm⟩ : ∃ room, room = leftN begin T.length count := ⟨_, rfl⟩
  rw [← hrm] at DR hroom
  have HRM := Lib.hid hrm
  have HL := Lib.hid h
  have HWL := Lib.hid hWl
  obtain ⟨aw, cw, hwv, hwc⟩ := h.wait.cap
  subst hwv
  obtain ⟨c0, c1, c2, c3, c4⟩ := h.lgat.cells
  have FLG := Lib.hid h.lgat.lt
  clear h hrm hWl
  go_enter Try.func25, Try.ntmps25
  go_wp2_with fail
  refine DR.out.mono ?_
  rintro e w1 ⟨f, rfl, hdf, hfl, hb1⟩
  have R0 := Lib.hid (show CmRel w f T.length room W (.int .i64 0) w1 0 none 0 [] T.length 0 from
    ⟨rfl, hdf, PartsD.nil _ _, rfl, rfl, rfl, Nat.le_refl _, by omega, by rw [Nat.zero_add]; rfl, Nat.zero_le _, hb1⟩)
  have HFL := Lib.hid hfl
  clear hdf hfl hb1 DR c0 c1 c2 c3 c4
  go_wp2_with fail
  go_loopw [5] (fun vj wr => ∃ j ao pc L endp fp, CmRel w f T.length room W vj wr j ao pc L endp fp) (fun vj _ => W.length - (intOf vj).toNat)
  case atStart => exact ⟨_, _, _, _, _, _, R0.out⟩
  case round =>
    obtain ⟨wo, rfl⟩ : ∃ wo : World, wo = wr := ⟨_, rfl⟩
    obtain ⟨j, ao, pc, L, endp, fp, HR⟩ := hrel
    have hv := HR.val
    subst hv
    have hjle := HR.jle
    have HRR := Lib.hid HR
    have LS := Lib.hid (HL.out.low HR.low)
    obtain ⟨c0, c1, c2, c3, c4⟩ := LS.out.lgat.cells
    clear HR
    by_cases hj : j < W.length
    · have hji : (j : Int) < (W.length : Int) := by omega
      obtain ⟨gw, cap, hwe, hwc2, hget⟩ := HL.out.wait.get (by omega)
      injection hwe with e1 e2 e3
      subst e1 e3
      obtain ⟨l, hl⟩ : ∃ l, W[j]? = some l := ⟨_, List.getElem?_eq_getElem hj⟩
      obtain ⟨hgw, gl, cl, hcell, hgl, hrl⟩ := hget j l hl
      have hll := HWL.out l (List.mem_of_getElem? hl)
      have hcx : wo.cell? ⟨gw, j, none⟩ = some (.slice (some ⟨gl, 0, none⟩) l.length cl) := (World.cell?_of_block (w := w) (HRR.out.low.block gw hgw)).trans hcell
      have hrx : wo.rangeAt gl 0 (bvs l) := range_below hrl HRR.out.low (Nat.le_refl _)
      have hln : endp ≤ T.length + room := by have := HRR.out.inr; have := HRR.out.ge; omega
      by_cases hfit : endp + restW endp l.length + 9 + l.length - T.length ≤ room
      · have AY := wadd_yes HRR.out.df HRR.out.parts HRR.out.low.size HFL.out (k := 1) (by omega) (d := l) (n := l.length) (cc := cl) rfl hll hgl hrx HRR.out.ge (by omega) (by have := HRR.out.cnt; omega) hfit (by omega)
        have HNX := Lib.hid (fun (w2 : World) (ao' : Option Addr) (pc' fp' : Nat) => HRR.out.next (w2 := w2) hl (ao' := ao') (pc' := pc') (fp' := fp') hfit)
        have AYH := Lib.hid AY
        clear AY hfit hll hrx hcell hget hrl
        go_wp2_with fail
        refine AYH.out.mono ?_
        rintro e w2 ⟨rfl, ao', pc', hdf, hpd, hb2⟩
        have NX := Lib.hid (HNX.out w2 ao' pc' _ hdf hpd hb2)
        have hjw : W.length - (j + 1) < W.length - j := by omega
        clear hdf hpd hb2 AYH HNX
        go_wp2_with fail
        exact ⟨⟨_, _, _, _, _, _, NX.out⟩, by simp [intOf]; omega⟩
      · have AN := wadd_no HRR.out.df (k := 1) (g := gl) (off := 0) (n := l.length) (cc := cl) hll HRR.out.ge (by omega) (by omega)
        have HST := Lib.hid (HRR.out.stop (fun l' hl' => by rw [hl] at hl'; cases hl'; exact hfit))
        have ANH := Lib.hid AN
        clear AN hfit hll hrx hcell hget hrl
        have HJN := Lib.hid hj
        have HJ := Lib.hid hjle
        by_cases h0 : j = 0
        · subst h0
          go_wp2_with fail
          refine ANH.out.mono ?_
          rintro e w2 ⟨rfl, q2, hw2⟩
          have LSX := Lib.hid (show LogS w2 B lg d r k g m n x N count S t T begin gr _ W from by rw [hw2]; exact LS.out.low (below_drewN (Below.refl _ _) q2))
          have RX := Lib.hid (show CmRel w f T.length room W (.int .i64 (((0 : Nat) : Int) : Int)) w2 0 ao pc L endp fp from by rw [hw2]; exact HRR.out.drew q2)
          clear c0 c1 c2 c3 c4 hw2
          obtain ⟨c0, c1, c2, c3, c4⟩ := LSX.out.lgat.cells
          have L3 := Lib.hid (LSX.out.calm (gr' := gr + 2) (by omega))
          have DL := Lib.hid (wdelete_any L3.out.wait (n := 0) (Nat.zero_le _))
          go_wp2_with fail
          refine DL.out.mono ?_
          rintro e w4 ⟨ao4, cd4, rfl, hob4, hle4, hw4, hf4⟩
          obtain ⟨RR, hRR⟩ : ∃ RR, RR = (W.drop 0).length := ⟨_, rfl⟩
          rw [← hRR] at hob4 hle4 hw4 ⊢
          obtain ⟨l5, f5, lg4⟩ := cm_end L3.out hw4 hob4 hf4
          have fr3 : w4.frozen? ⟨lg, 3, none⟩ = false := frozen_of_row w4 lg 3 _ _ lg4
          have hrl : RR = W.length - 0 := by rw [hRR, List.length_drop]
          have L5 := Lib.hid l5
          have F5 := Lib.hid f5
          have HRL := Lib.hid hRR
          clear c0 c1 c2 c3 c4
          obtain ⟨c0, c1, c2, c3, c4⟩ := lg4.cells
          clear l5 f5 hob4 hle4 hw4 hf4 hRR DL
          have hri : (0 : Int) < (RR : Int) := by have := HJN.out; omega
          clear hrl
          go_wp2_with fail
          go_ret2
          refine cm_post HRM.out HST.out (by have := HJN.out; rw [if_pos (by omega)]) HRL.out (by simpa [frs, encW] using L5.out) (by omega) ?_
          exact below_log RX.out.low hB (F5.out.mono fun q _ h => h.elim .inl (fun h => .inr (.inr h))) L3.out.bas L3.out.wait.base
        · have h0i : (0 : Int) < (j : Int) := by omega
          go_wp2_with fail
          refine ANH.out.mono ?_
          rintro e w2 ⟨rfl, q2, hw2⟩
          have LSX := Lib.hid (show LogS w2 B lg d r k g m n x N count S t T begin gr _ W from by rw [hw2]; exact LS.out.low (below_drewN (Below.refl _ _) q2))
          have RX := Lib.hid (show CmRel w f T.length room W (.int .i64 ((j : Int) : Int)) w2 j ao pc L endp fp from by rw [hw2]; exact HRR.out.drew q2)
          clear c0 c1 c2 c3 c4 hw2
          obtain ⟨c0, c1, c2, c3, c4⟩ := LSX.out.lgat.cells
          have CP := Lib.hid (cm_put LSX.out ht hn hgr hW RX.out HRM.out)
          go_wp2_with fail
          refine CP.out.mono ?_
          rintro e w3 ⟨rfl, r3, k3, S3, t3, x3, n3, hL3, hn3, hf3⟩
          have L3 := Lib.hid hL3
          have N3 := Lib.hid hn3
          have F3 := Lib.hid hf3
          clear hL3 hn3 hf3 CP
          have DL := Lib.hid (wdelete_any L3.out.wait (n := j) HJ.out)
          obtain ⟨c0, c1, c2, c3, c4⟩ := L3.out.lgat.cells
          go_wp2_with fail
          refine DL.out.mono ?_
          rintro e w4 ⟨ao4, cd4, rfl, hob4, hle4, hw4, hf4⟩
          obtain ⟨RR, hRR⟩ : ∃ RR, RR = (W.drop j).length := ⟨_, rfl⟩
          rw [← hRR] at hob4 hle4 hw4 ⊢
          obtain ⟨l5, f5, lg4⟩ := cm_end L3.out hw4 hob4 hf4
          have fr3 : w4.frozen? ⟨lg, 3, none⟩ = false := frozen_of_row w4 lg 3 _ _ lg4
          have hrl : RR = W.length - j := by rw [hRR, List.length_drop]
          have L5 := Lib.hid l5
          have F5 := Lib.hid f5
          have HRL := Lib.hid hRR
          clear c0 c1 c2 c3 c4
          obtain ⟨c0, c1, c2, c3, c4⟩ := lg4.cells
          clear l5 f5 hob4 hle4 hw4 hf4 hRR DL
          have hri : (0 : Int) < (RR : Int) := by have := HJN.out; omega
          clear hrl
          go_wp2_with fail
          go_ret2
          refine cm_post HRM.out HST.out (by have := HJN.out; rw [if_pos (by omega)]) HRL.out L5.out N3.out ?_
          exact below_log RX.out.low hB (((Frm.refl _ _).transT F3.out (fun q _ h => h.elim .inl (fun h => .inr (.inl h)))).transT F5.out (fun q _ h => h.elim .inl (fun h => .inr (.inr h)))) L3.out.bas L3.out.wait.base
    · have hji : ¬ (j : Int) < (W.length : Int) := by omega
      have HJN := Lib.hid (show j = W.length by omega)
      have HST := Lib.hid (HRR.out.stop (fun l hl => by rw [List.getElem?_eq_none (by omega)] at hl; cases hl))
      have hdj : decide ((j : Int) < (W.length : Int)) = false := by simpa using hji
      have HJ := Lib.hid hjle
      have LSX := LS
      have RX := HRR
      by_cases h0 : j = 0
      · subst h0
        have L3 := Lib.hid (LSX.out.calm (gr' := gr + 2) (by omega))
        have DL := Lib.hid (wdelete_any L3.out.wait (n := 0) (Nat.zero_le _))
        go_wp2_with fail
        refine DL.out.mono ?_
        rintro e w4 ⟨ao4, cd4, rfl, hob4, hle4, hw4, hf4⟩
        obtain ⟨RR, hRR⟩ : ∃ RR, RR = (W.drop 0).length := ⟨_, rfl⟩
        rw [← hRR] at hob4 hle4 hw4 ⊢
        obtain ⟨l5, f5, lg4⟩ := cm_end L3.out hw4 hob4 hf4
        have fr3 : w4.frozen? ⟨lg, 3, none⟩ = false := frozen_of_row w4 lg 3 _ _ lg4
        have hrl : RR = W.length - 0 := by rw [hRR, List.length_drop]
        have L5 := Lib.hid l5
        have F5 := Lib.hid f5
        have HRL := Lib.hid hRR
        clear c0 c1 c2 c3 c4
        obtain ⟨c0, c1, c2, c3, c4⟩ := lg4.cells
        clear l5 f5 hob4 hle4 hw4 hf4 hRR DL
        obtain rfl : RR = 0 := by have := HJN.out; omega
        clear hrl
        go_wp2_with fail
        go_ret2
        refine cm_post HRM.out HST.out (by have := HJN.out; rw [if_neg (by omega)]) HRL.out (by simpa [frs, encW] using L5.out) (by omega) ?_
        exact below_log RX.out.low hB (F5.out.mono fun q _ h => h.elim .inl (fun h => .inr (.inr h))) L3.out.bas L3.out.wait.base
      · have h0i : (0 : Int) < (j : Int) := by omega
        have CP := Lib.hid (cm_put LSX.out ht hn hgr hW RX.out HRM.out)
        go_wp2_with fail
        refine CP.out.mono ?_
        rintro e w3 ⟨rfl, r3, k3, S3, t3, x3, n3, hL3, hn3, hf3⟩
        have L3 := Lib.hid hL3
        have N3 := Lib.hid hn3
        have F3 := Lib.hid hf3
        clear hL3 hn3 hf3 CP
        have DL := Lib.hid (wdelete_any L3.out.wait (n := j) HJ.out)
        obtain ⟨c0, c1, c2, c3, c4⟩ := L3.out.lgat.cells
        go_wp2_with fail
        refine DL.out.mono ?_
        rintro e w4 ⟨ao4, cd4, rfl, hob4, hle4, hw4, hf4⟩
        obtain ⟨RR, hRR⟩ : ∃ RR, RR = (W.drop j).length := ⟨_, rfl⟩
        rw [← hRR] at hob4 hle4 hw4 ⊢
        obtain ⟨l5, f5, lg4⟩ := cm_end L3.out hw4 hob4 hf4
        have fr3 : w4.frozen? ⟨lg, 3, none⟩ = false := frozen_of_row w4 lg 3 _ _ lg4
        have hrl : RR = W.length - j := by rw [hRR, List.length_drop]
        have L5 := Lib.hid l5
        have F5 := Lib.hid f5
        have HRL := Lib.hid hRR
        clear c0 c1 c2 c3 c4
        obtain ⟨c0, c1, c2, c3, c4⟩ := lg4.cells
        clear l5 f5 hob4 hle4 hw4 hf4 hRR DL
        obtain rfl : RR = 0 := by have := HJN.out; omega
        clear hrl
        go_wp2_with fail
        go_ret2
        refine cm_post HRM.out HST.out (by have := HJN.out; rw [if_neg (by omega)]) HRL.out L5.out N3.out ?_
        exact below_log RX.out.low hB (((Frm.refl _ _).transT F3.out (fun q _ h => h.elim .inl (fun h => .inr (.inl h)))).transT F5.out (fun q _ h => h.elim .inl (fun h => .inr (.inr h)))) L3.out.bas L3.out.wait.base
end Go.Proofs.Ytdjpeebekpjiiaa.Dk
/- Checkpoint: one text stands in the place of all. -/
namespace Go.Proofs.Ytdjpeebekpjiiaa.Dk
open Go Go.RowKit
set_option linter.unusedVariables false
set_option linter.unusedSimpArgs false
/-- A checkpoint's frames. -/
def ckF : Nat → List UInt8 → List Fm
  | 0, b => [⟨3, b⟩]
  | f + 1, b => if 2039 < b.length then ⟨2, b.take 2039⟩ :: ckF f (b.drop 2039) else [⟨3, b⟩]
theorem endW_ge : ∀ (l : List Fm) (p : Nat), p ≤ endW p l
  | [], p => Nat.le_refl _
  | f :: l, p => by
    rw [endW]
    have := endW_ge l (p + (restW p f.data.length + 9 + f.data.length))
    omega
structure CkRel (w0 : World) (g : Nat) (b : List UInt8) (f start room : Nat) (v : Value) (wr : World) (fu : Nat) (rest : List UInt8) (off c : Nat) (ao : Option Addr) (pc : Nat) (L : List (List UInt8)) (endp fp : Nat) (fs : List Fm) : Prop where
  val : v = .slice (some ⟨g, off, none⟩) rest.length c
  df : DfAt wr f start endp fp room (.slice ao L.length pc)
  parts : PartsD wr w0.heap.size (.slice ao L.length pc) L
  cnt : L.length = 3 * fs.length
  txt : L.flatten = encW smW start fs
  ende : endp = endW start fs
  ge : start ≤ endp
  inr : endp - start ≤ room
  all : ckF b.length b = fs ++ ckF fu rest
  fuel : rest.length ≤ fu
  cap : rest.length ≤ c
  row : w0.rangeAt g off (bvs rest)
  many : 2048 * fs.length ≤ endp - start
  fst : (L.length = 0 ∧ rest = b ∧ endp = start) ∨ (L.length ≠ 0 ∧ 2039 < b.length ∧ fp = start + restW start 2039 ∧ fp ≤ endp)
  low : Below w0.heap.size w0 wr
theorem CkRel.end_eq {w0 wr : World} {g f start room : Nat} {b : List UInt8} {v : Value} {fu off c : Nat} {rest : List UInt8} {ao : Option Addr} {pc : Nat} {L : List (List UInt8)} {endp fp : Nat} {fs : List Fm} (h : CkRel w0 g b f start room v wr fu rest off c ao pc L endp fp fs) : endW start (ckF b.length b) = endW endp (ckF fu rest) := by
  rw [h.all, endW_app, ← h.ende]
theorem CkRel.drew {w0 wr : World} {g f start room : Nat} {b : List UInt8} {v : Value} {fu off c : Nat} {rest : List UInt8} {ao : Option Addr} {pc : Nat} {L : List (List UInt8)} {endp fp : Nat} {fs : List Fm} (h : CkRel w0 g b f start room v wr fu rest off c ao pc L endp fp fs) (q : Nat) : CkRel w0 g b f start room v (wr.drewN q) fu rest off c ao pc L endp fp fs :=
  ⟨h.val, h.df, h.parts, h.cnt, h.txt, h.ende, h.ge, h.inr, h.all, h.fuel, h.cap, h.row, h.many, h.fst, below_drewN h.low q⟩
theorem ck_more {fu : Nat} {rest : List UInt8} (hf : rest.length ≤ fu) (hr : 2039 < rest.length) : ∃ f', fu = f' + 1 ∧ ckF fu rest = ⟨2, rest.take 2039⟩ :: ckF f' (rest.drop 2039) := by
  obtain ⟨f', rfl⟩ : ∃ f', fu = f' + 1 := ⟨fu - 1, by omega⟩
  exact ⟨f', rfl, by rw [ckF, if_pos hr]⟩
theorem ck_last {fu : Nat} {rest : List UInt8} (hr : rest.length ≤ 2039) : ckF fu rest = [⟨3, rest⟩] := by
  cases fu with
  | zero => rfl
  | succ f => rw [ckF, if_neg (by omega)]
theorem CkRel.next {w0 wr w2 : World} {g f start room : Nat} {b : List UInt8} {v : Value} {fu off c : Nat} {rest : List UInt8} {ao : Option Addr} {pc : Nat} {L : List (List UInt8)} {endp fp : Nat} {fs : List Fm} (h : CkRel w0 g b f start room v wr fu rest off c ao pc L endp fp fs) (hr : 2039 < rest.length) {ao' : Option Addr} {pc' : Nat} (hfit : endp + restW endp 2039 + 9 + 2039 - start ≤ room)
    (hdf : DfAt w2 f start (endp + restW endp 2039 + 9 + 2039) (if L.length = 0 then endp + restW endp 2039 else fp) room (.slice ao' (L.length + 3) pc')) (hp : PartsD w2 w0.heap.size (.slice ao' (L.length + 3) pc') (L ++ [List.replicate (restW endp 2039) 0, headW smW (endp + restW endp 2039) ⟨2, rest.take 2039⟩, rest.take 2039])) (hb : Below w0.heap.size wr w2) :
    ∃ f', CkRel w0 g b f start room (.slice (some ⟨g, off + 2039, none⟩) (rest.drop 2039).length (c - 2039)) w2 f' (rest.drop 2039) (off + 2039) (c - 2039) ao' pc' (L ++ [List.replicate (restW endp 2039) 0, headW smW (endp + restW endp 2039) ⟨2, rest.take 2039⟩, rest.take 2039]) (endp + restW endp 2039 + 9 + 2039) (if L.length = 0 then endp + restW endp 2039 else fp) (fs ++ [⟨2, rest.take 2039⟩]) := by
  obtain ⟨f', hfu, hck⟩ := ck_more h.fuel hr
  have htl : (rest.take 2039).length = 2039 := by rw [List.length_take]; omega
  have hlen : (L ++ [List.replicate (restW endp 2039) 0, headW smW (endp + restW endp 2039) ⟨2, rest.take 2039⟩, rest.take 2039]).length = L.length + 3 := by simp
  have hge := h.ge
  have hfl := h.fuel
  have hcp := h.cap
  have hmn := h.many
  refine ⟨f', rfl, by rw [hlen]; exact hdf, by rw [hlen]; exact hp, by rw [hlen, h.cnt, List.length_append, List.length_singleton]; omega, ?_, ?_, by omega, hfit, ?_, by rw [List.length_drop]; omega, by rw [List.length_drop]; omega, ?_, by rw [List.length_append, List.length_singleton]; omega, ?_, h.low.trans hb⟩
  · rw [encW_app, ← h.ende, List.flatten_append, h.txt]
    simp only [List.flatten_cons, List.flatten_nil, List.append_nil, encW, frmW, htl, List.append_assoc]
  · rw [endW_app, ← h.ende]
    simp only [endW, htl]
    omega
  · rw [h.all, hck, List.append_assoc]; rfl
  · have h1 := range_sub h.row 2039 rest.length
    rwa [List.take_of_length_le (by rw [List.length_drop]; omega)] at h1
  · right
    rcases h.fst with ⟨h0, hb0, he0⟩ | ⟨h0, hb0, hf0, hf1⟩
    · rw [if_pos h0, hlen, he0]
      subst hb0
      exact ⟨by omega, hr, rfl, by omega⟩
    · rw [if_neg h0, hlen]
      exact ⟨by omega, hb0, hf0, by omega⟩
theorem CkRel.done {w0 wr w2 : World} {g f start room : Nat} {b : List UInt8} {v : Value} {fu off c : Nat} {rest : List UInt8} {ao : Option Addr} {pc : Nat} {L : List (List UInt8)} {endp fp : Nat} {fs : List Fm} (h : CkRel w0 g b f start room v wr fu rest off c ao pc L endp fp fs) (hr : rest.length ≤ 2039) :
    (if L.length = 0 then endp + restW endp rest.length else fp) = start + restW start (min b.length 2039) ∧ (if L.length = 0 then endp + restW endp rest.length else fp) ≤ endp + restW endp rest.length + 9 + rest.length ∧ endp + restW endp rest.length + 9 + rest.length = endW start (ckF b.length b) ∧
      (L ++ [List.replicate (restW endp rest.length) 0, headW smW (endp + restW endp rest.length) ⟨3, rest⟩, rest]).flatten = encW smW start (ckF b.length b) ∧ (L ++ [List.replicate (restW endp rest.length) 0, headW smW (endp + restW endp rest.length) ⟨3, rest⟩, rest]).length = L.length + 3 := by
  refine ⟨?_, ?_, ?_, ?_, by simp⟩
  · rcases h.fst with ⟨h0, hb0, he0⟩ | ⟨h0, hb0, hf0, hf1⟩
    · rw [if_pos h0, he0]
      subst hb0
      rw [Nat.min_eq_left hr]
    · rw [if_neg h0, hf0, Nat.min_eq_right (by omega)]
  · rcases h.fst with ⟨h0, hb0, he0⟩ | ⟨h0, hb0, hf0, hf1⟩
    · rw [if_pos h0]; omega
    · rw [if_neg h0]; omega
  · rw [h.end_eq, ck_last hr]
    simp only [endW]
    omega
  · rw [h.all, ck_last hr, encW_app, ← h.ende, List.flatten_append, h.txt]
    simp only [List.flatten_cons, List.flatten_nil, List.append_nil, encW, frmW, List.append_assoc]
/-- What Checkpoint leaves. -/
def CkPost (w : World) (B lg d g m n N count : Nat) (T : List UInt8) (begin gr : Nat) (wv : Value) (b : List UInt8) (e : Ending) (w' : World) : Prop :=
  (endW T.length (ckF b.length b) - T.length ≤ leftN begin T.length count ∧ e = .returned (.int .i64 0) ∧ (∃ r2 k2 S2 t2 x2 n2, LogS w' B lg d r2 k2 g m n2 x2 N count S2 t2 (T ++ encW smW T.length (ckF b.length b)) (T.length + restW T.length (min b.length 2039)) (gr + 2) wv [] ∧ n2 ≤ n + 600000) ∧ Below B w w') ∨
  (leftN begin T.length count < endW T.length (ckF b.length b) - T.length ∧ e = .returned (.int .i64 3) ∧ Below w.heap.size w w')
set_option maxRecDepth 100000 in
set_option maxHeartbeats 8000000 in
theorem wcheck_any {w : World} {B lg d r k g m n : Nat} {x : DS} {N count : Nat} {S : List UInt8} {t : TypeId} {T : List UInt8} {begin gr : Nat} {wv : Value} (h : LogS w B lg d r k g m n x N count S t T begin gr wv [])
    (ht : T.length ≤ 3000000000) (hn : n ≤ 800000000) (hgr : gr ≤ 1000000000) (hB : B ≤ w.heap.size) {gb ob cb : Nat} {b : List UInt8} (hb : w.rangeAt gb ob (bvs b)) (hgb : gb < w.heap.size) (hbc : b.length ≤ cb) (hbl : b.length ≤ 1000000) :
    Calls Try.prog 29 #[.pointer (some ⟨lg, 0, none⟩), .slice (some ⟨gb, ob, none⟩) b.length cb] w (CkPost w B lg d g m n N count T begin gr wv b) := by
  have hbl2 : begin < 18446744073709551616 := by have := h.logd.le; omega
  have hcl : count ≤ 4096 := by have := h.cnt; have := h.few; omega
  have hroom : leftN begin T.length count ≤ 524288 := by unfold leftN; omega
  have DR := Lib.hid (wdraft_any h.lgat h.ring (by omega) hbl2 (by omega))
  obtain ⟨room, hrm⟩ : ∃ room, room = leftN begin T.length count := ⟨_, rfl⟩
  rw [← hrm] at DR hroom
  unfold CkPost
  rw [← hrm]
  have HRM := Lib.hid hrm
  have HL := Lib.hid h
  have HB := Lib.hid hb
  obtain ⟨aw, cw, hwv, hwc⟩ := h.wait.cap
  subst hwv
  obtain ⟨c0, c1, c2, c3, c4⟩ := h.lgat.cells
  have FLG := Lib.hid h.lgat.lt
  clear h hrm hb hwc
  go_enter Try.func29, Try.ntmps29
  go_wp2_with fail
  refine DR.out.mono ?_
  rintro e w1 ⟨f, rfl, hdf, hfl, hb1⟩
  have R0 := Lib.hid (show CkRel w gb b f T.length room (.slice (some ⟨gb, ob, none⟩) b.length cb) w1 b.length b ob cb none 0 [] T.length 0 [] from
    ⟨rfl, hdf, PartsD.nil _ _, rfl, rfl, rfl, Nat.le_refl _, by omega, rfl, Nat.le_refl _, hbc, HB.out, by simp, .inl ⟨rfl, rfl, rfl⟩, hb1⟩)
  have HFL := Lib.hid hfl
  clear hdf hfl hb1 DR c0 c1 c2 c3 c4
  go_wp2_with fail
  go_loopw [1] (fun vb wr => ∃ fu rest off c ao pc L endp fp fs, CkRel w gb b f T.length room vb wr fu rest off c ao pc L endp fp fs) (fun vb _ => lenOf2 vb)
  case atStart => exact ⟨_, _, _, _, _, _, _, _, _, _, R0.out⟩
  case round =>
    obtain ⟨wo, rfl⟩ : ∃ wo : World, wo = wr := ⟨_, rfl⟩
    obtain ⟨fu, rest, off, c, ao, pc, L, endp, fp, fs, HR⟩ := hrel
    have hv := HR.val
    subst hv
    have hcap := HR.cap
    have HRR := Lib.hid HR
    have LS := Lib.hid (HL.out.low HR.low)
    have hln : endp ≤ T.length + room := by have := HR.inr; have := HR.ge; omega
    have hL3 : L.length ≤ 1000 := by have := HR.cnt; have := HR.many; omega
    obtain ⟨c0, c1, c2, c3, c4⟩ := LS.out.lgat.cells
    clear HR
    by_cases hr : 2039 < rest.length
    · have hri : (2039 : Int) < (rest.length : Int) := by omega
      have htl : (rest.take 2039).length = 2039 := by rw [List.length_take]; omega
      have hrx : wo.rangeAt gb off (bvs (rest.take 2039)) := range_below (by have h1 := range_sub HRR.out.row 0 2039; rwa [List.drop_zero, Nat.add_zero] at h1) HRR.out.low (Nat.le_refl _)
      by_cases hfit : endp + restW endp 2039 + 9 + 2039 - T.length ≤ room
      · have AY := wadd_yes HRR.out.df HRR.out.parts HRR.out.low.size HFL.out (k := 2) (by omega) (d := rest.take 2039) (n := 2039) (cc := c) htl (by omega) hgb hrx HRR.out.ge (by omega) (by omega) hfit (by omega)
        have HNX := Lib.hid (fun (w2 : World) (ao' : Option Addr) (pc' : Nat) => HRR.out.next (w2 := w2) hr (ao' := ao') (pc' := pc') hfit)
        have AYH := Lib.hid AY
        have hce : c ≠ 2039 := by omega
        clear AY hfit hrx htl c0 c1 c2 c3 c4
        go_wp2_with fail
        refine AYH.out.mono ?_
        rintro e w2 ⟨rfl, ao', pc', hdf, hpd, hb2⟩
        obtain ⟨f', hnx⟩ := HNX.out w2 ao' pc' hdf hpd hb2
        have NX := Lib.hid hnx
        clear hnx hdf hpd hb2 AYH HNX
        go_wp2_with fail
        have h1 := NX.out
        rw [show (rest.drop 2039).length = rest.length - 2039 from List.length_drop] at h1
        exact ⟨⟨_, _, _, _, _, _, _, _, _, _, h1⟩, show rest.length - 2039 < rest.length by omega⟩
      · have AN := wadd_no HRR.out.df (k := 2) (g := gb) (off := off) (n := 2039) (cc := c) (by omega) HRR.out.ge (by omega) (by omega)
        have ANH := Lib.hid AN
        have HNO := Lib.hid (show room < endW T.length (ckF b.length b) - T.length from by
          obtain ⟨f', _, hck⟩ := ck_more HRR.out.fuel hr
          rw [HRR.out.end_eq, hck, endW, htl]
          have := endW_ge (ckF f' (rest.drop 2039)) (endp + (restW endp 2039 + 9 + 2039))
          omega)
        clear AN hfit hrx htl c0 c1 c2 c3 c4
        go_wp2_with fail
        refine ANH.out.mono ?_
        rintro e w2 ⟨rfl, q2, hw2⟩
        have LOW := Lib.hid (show Below w.heap.size w w2 from by rw [hw2]; exact below_drewN HRR.out.low q2)
        clear hw2 ANH
        go_wp2_with fail
        go_ret
        exact .inr ⟨HNO.out, rfl, LOW.out⟩
    · have hri : ¬ (2039 : Int) < (rest.length : Int) := by omega
      have hrx : wo.rangeAt gb off (bvs rest) := range_below HRR.out.row HRR.out.low (Nat.le_refl _)
      by_cases hfit : endp + restW endp rest.length + 9 + rest.length - T.length ≤ room
      · have AY := wadd_yes HRR.out.df HRR.out.parts HRR.out.low.size HFL.out (k := 3) (by omega) (d := rest) (n := rest.length) (cc := c) rfl (by omega) hgb hrx HRR.out.ge (by omega) (by omega) hfit (by omega)
        obtain ⟨D1, D2, D3, D4, D5⟩ := HRR.out.done (w2 := wo) (by omega)
        have AYH := Lib.hid AY
        have HFIT := Lib.hid (show endW T.length (ckF b.length b) - T.length ≤ room by omega)
        clear AY hfit hrx c0 c1 c2 c3 c4
        go_wp2_with fail
        refine AYH.out.mono ?_
        rintro e w2 ⟨rfl, ao', pc', hdf, hpd, hb2⟩
        rw [D1, D3] at hdf
        rw [← D5] at hdf hpd
        have LS2 := Lib.hid (HL.out.low (HRR.out.low.trans hb2))
        have hsl : ∀ X : List (List UInt8), sumLen X = X.flatten.length := fun _ => rfl
        have hel : endW T.length (ckF b.length b) = T.length + (encW smW T.length (ckF b.length b)).length := endW_eq smW _ _
        have PU := wput_any LS2.out (by omega) (by omega) hdf hpd.parts (by rw [D5]; omega) (by rw [hsl, D4]; have := HFIT.out; omega) (by rw [hsl, D4, ← HRM.out]; have := HFIT.out; omega) hgr (by rw [hsl, D4]; exact hel) (b' := T.length + restW T.length (min b.length 2039)) (by rw [← D1, ← D3]; exact D2)
        rw [D4] at PU
        have PUH := Lib.hid PU
        have LOW := Lib.hid (HRR.out.low.trans hb2)
        have HSL := Lib.hid (show sumLen (L ++ [List.replicate (restW endp rest.length) 0, headW smW (endp + restW endp rest.length) ⟨3, rest⟩, rest]) ≤ 524288 by rw [hsl, D4]; have := HFIT.out; omega)
        obtain ⟨d0, d1, d2, d3, d4⟩ := hdf.cells
        clear PU hdf hpd hb2 D1 D2 D3 D4 D5 hsl hel d0 d1 d3 d4
        go_wp2_with fail
        refine PUH.out.mono ?_
        rintro e w3 ⟨rfl, r3, k3, S3, t3, x3, n3, hL3', hn3, _, _, hf3⟩
        have L3 := Lib.hid hL3'
        have N3 := Lib.hid hn3
        have F3 := Lib.hid hf3
        clear hL3' hn3 hf3 PUH
        go_wp2_with fail
        go_ret
        refine .inl ⟨HFIT.out, rfl, ⟨r3, k3, S3, t3, x3, n3, L3.out, by have := N3.out; have := HSL.out; omega⟩, ?_⟩
        exact below_log LOW.out hB (F3.out.mono fun q _ h => h.elim .inl (fun h => .inr (.inl h))) L3.out.bas L3.out.wait.base
      · have AN := wadd_no HRR.out.df (k := 3) (g := gb) (off := off) (n := rest.length) (cc := c) (by omega) HRR.out.ge (by omega) (by omega)
        have ANH := Lib.hid AN
        have HNO := Lib.hid (show room < endW T.length (ckF b.length b) - T.length from by
          rw [HRR.out.end_eq, ck_last (by omega)]
          simp only [endW]
          omega)
        clear AN hfit hrx c0 c1 c2 c3 c4
        go_wp2_with fail
        refine ANH.out.mono ?_
        rintro e w2 ⟨rfl, q2, hw2⟩
        have LOW := Lib.hid (show Below w.heap.size w w2 from by rw [hw2]; exact below_drewN HRR.out.low q2)
        clear hw2 ANH
        go_wp2_with fail
        go_ret
        exact .inr ⟨HNO.out, rfl, LOW.out⟩
end Go.Proofs.Ytdjpeebekpjiiaa.Dk
/- Open: a log on a disk. -/
namespace Go.Proofs.Ytdjpeebekpjiiaa.Dk
open Go Go.RowKit
set_option linter.unusedVariables false
set_option linter.unusedSimpArgs false
theorem logD_get {x : DS} {N count : Nat} {T : List UInt8} {begin gr : Nat} (h : LogD x N count T begin gr) : ∃ (s : Nat) (ec : Int), (ec = 0 ∨ ec = 4) ∧ (if 0 < (x.lastMark 0).seq then x.lastMark 0 else noM).cells = [uv s, uv begin, uv T.length, uv 0, uv 0, uv 0, uv 0] ∧ (if 0 < (x.lastMark 0).seq then (0 : Int) else 4) = ec := by
  rcases h.mark with ⟨rfl, rfl, h0⟩ | ⟨h0, hw⟩
  · exact ⟨0, 4, .inr rfl, by rw [h0, if_neg (by decide)]; rfl, by rw [h0, if_neg (by decide)]⟩
  · exact ⟨(x.lastMark 0).seq, 0, .inl rfl, by rw [if_pos h0]; unfold MkD.cells; rw [hw]; rfl, by rw [if_pos h0]⟩
theorem encW_ge : ∀ (l : List Fm) (p : Nat), 9 * l.length ≤ (encW smW p l).length
  | [], p => Nat.zero_le _
  | f :: l, p => by
    rw [encW, List.length_append, frmW_length, List.length_cons]
    have := encW_ge l (p + (restW p f.data.length + 9 + f.data.length))
    omega
theorem FrRow.base {w : World} {B B' : Nat} {v : Value} {l : List Fm} (h : FrRow w B v l) (hB : B' ≤ B) : FrRow w B' v l := by
  obtain ⟨vs, h1, h2, h3⟩ := h
  exact ⟨vs, h1, own_base h2 hB, fun j f u hf hu => own_base (h3 j f u hf hu) hB⟩
set_option maxRecDepth 100000 in
set_option maxHeartbeats 8000000 in
theorem wopen_any {w : World} {B d g m n : Nat} {x : DS} {N count : Nat} {T : List UInt8} {begin gr : Nat} (h : DiskAt Try.prog w d g m n x) (hD : LogD x N count T begin gr) (hc : count = (N - 2) / 16 * 16) (h2 : 2 ≤ (N - 2) / 16) (hN : N ≤ 4096) (ht : T.length ≤ 3000000000)
    {fs : List Fm} (hfr : T.drop begin = encW smW begin fs) (hok : ∀ f ∈ fs, f.Ok) (hth : T.length - begin ≤ thereN T.length count) (hB : B ≤ w.heap.size) (hbas : B ≤ d ∧ B ≤ g ∧ B ≤ m) :
    Calls Try.prog 12 #[.pointer (some ⟨d, 0, none⟩)] w fun e w' => ∃ lg r k S v, e = .returned (.tuple #[.pointer (some ⟨lg, 0, none⟩), v, .int .i64 0]) ∧ LogS w' B lg d r k g m n x N count S 112 T begin gr (.slice none 0 0) [] ∧ FrRow w' w.heap.size v fs ∧ w.heap.size ≤ lg ∧ w.heap.size ≤ r ∧ w.heap.size ≤ k ∧ Below w.heap.size w w' := by
  have hlen := hD.good.n
  have hfit := hD.fit
  have hle := hD.le
  obtain ⟨s, ec, hec, hcs, hce⟩ := logD_get hD
  have SG := wsegments_any h (by omega)
  rw [hlen] at SG
  have GT := get_ok h 0 (by omega) hD.good.up
  rw [hcs, hce] at GT
  obtain ⟨row, hrow⟩ : ∃ row : Array Value, row = [uv s, uv begin, uv T.length, uv 0, uv 0, uv 0, uv 0].toArray := ⟨_, rfl⟩
  rw [← hrow] at GT
  have HROW := Lib.hid hrow
  have HSZ := Lib.hid (show row.size = 7 by rw [hrow]; rfl)
  have HON := Lib.hid (show row.all (·.oneCell') = true by rw [hrow]; simp [Value.oneCell', uv])
  have HSG := Lib.hid SG
  have HGT := Lib.hid GT
  have H := Lib.hid h
  have HLD := Lib.hid hD
  have HC := Lib.hid hc
  have HFR := Lib.hid hfr
  have HOK := Lib.hid hok
  have HTH := Lib.hid hth
  have HSM7 := Lib.hid (show (Try.prog.info? 88).map (·.size) = some row.size by rw [HSZ.out]; kernel_rfl)
  obtain ⟨sg, hsg⟩ : ∃ sg, sg = (N - 2) / 16 := ⟨_, rfl⟩
  rw [← hsg] at HSG h2
  have h2i : (2 : Int) ≤ (sg : Int) := by omega
  have hel : T.length - begin = (encW smW begin fs).length := by rw [← hfr, List.length_drop]
  have hth2 : thereN T.length count ≤ 524288 := by unfold thereN; have := hD.fit; split <;> omega
  have HEL := Lib.hid hel
  have HEN := Lib.hid (show (encW smW begin fs).length ≤ 524288 by omega)
  have HFI := Lib.hid hfit
  have HRW := Lib.hid (show readW smW ((encW smW begin fs).length + 1) begin (encW smW begin fs) = (fs, 0) from readW_fwd smW smW_lt fs _ begin hok (by have := encW_ge fs begin; omega))
  clear SG GT h hD hc hfr hok hth hcs hce hsg hrow hel hth2
  go_enter Try.func12, Try.ntmps12
  go_wp2_with fail
  refine HSG.out.mono ?_
  rintro e w1 ⟨rfl, rfl⟩
  go_wp2_with fail
  refine HGT.out.mono ?_
  rintro e w1 ⟨rfl, hb1⟩
  have B1 := Lib.hid hb1
  clear hb1
  go_upto_region 4 with (first
    | (with_reducible show wpList _ _ _ _ _ _; refine wpList_store_new rfl 88 (.tmp 5) (.tmp 18) rfl 88 _ row (by with_unfolding_all rfl) (by with_unfolding_all rfl) HSM7.out (by with_unfolding_all exact HSZ.out.symm) HON.out ?_))
  obtain ⟨w2, hw2⟩ : ∃ w2, w2 = w1.alloc (.cells row 88) := ⟨_, rfl⟩
  obtain ⟨gk, hgk⟩ : ∃ gk, gk = w1.heap.size := ⟨_, rfl⟩
  rw [← hw2, ← hgk]
  have r2 : w2.heap[gk]? = some (.cells row 88 (0, 0)) := by rw [hw2, hgk]; exact heap_alloc_new _ _
  have q1 : w2.cell? ⟨gk, 1, none⟩ = some (.int .u64 (begin : Int)) := by rw [cell_of_row w2 gk 1 _ _ _ r2, HROW.out]; rfl
  have q2 : w2.cell? ⟨gk, 2, none⟩ = some (.int .u64 (T.length : Int)) := by rw [cell_of_row w2 gk 2 _ _ _ r2, HROW.out]; rfl
  have B2 := Lib.hid (show Below w.heap.size w w2 by rw [hw2]; exact B1.out.alloc B1.out.size _)
  have D2 := Lib.hid (H.out.below B2.out (Nat.le_refl _))
  clear hw2 hgk r2
  have hbe : ¬ (T.length : Int) < (begin : Int) := by omega
  have hte : ¬ (4611686018427387904 : Int) < (T.length : Int) := by omega
  rcases hec with rfl | rfl
  · go_wp2_with fail
    go_quiet (fail)
    obtain ⟨w3, hw3⟩ : ∃ w3, w3 = w2.drewN nq := ⟨_, rfl⟩
    rw [← hw3]
    have b3 : Below w2.heap.size w2 w3 := by rw [hw3]; exact below_drewN (Below.refl _ _) _
    have B3 := Lib.hid (B2.out.trans (b3.mono B2.out.size))
    have D3 := Lib.hid (D2.out.below b3 (Nat.le_refl _))
    clear hw3 b3 q1 q2
    have OR := Lib.hid (wopenRing_any (w := w3) D3.out HLD.out HC.out (by omega))
    go_wp2_with fail
    refine OR.out.mono ?_
    rintro e w4 ⟨r, k, S, rfl, hR4, hK4, hb4, hr4, hk4⟩
    have D4 := Lib.hid (D3.out.below hb4 (Nat.le_refl _))
    have R4 := Lib.hid hR4
    have B4 := Lib.hid (B3.out.trans (hb4.mono B3.out.size))
    have Z4 := Lib.hid (And.intro (Nat.le_trans B3.out.size hr4) (Nat.le_trans B3.out.size hk4))
    have RK := read_keepsC hR4 (by omega) D4.out hK4 HFI.out begin (T.length - begin) (by omega) HTH.out
    rw [List.take_of_length_le (by rw [List.length_drop]; exact Nat.le_refl _), HFR.out, HEL.out] at RK
    have HRK := Lib.hid RK
    clear hR4 hK4 hb4 hr4 hk4 RK OR
    go_wp2_with fail
    rw [show (T.length : Int) - (begin : Int) = ((encW smW begin fs).length : Int) by have := HEL.out; omega]
    refine HRK.out.mono ?_
    rintro e w5 ⟨ko, rfl, hrow5, hko, hb5⟩
    have RA := wreadAll_any (p := begin) (w := w5) (ko := ko) (c := (encW smW begin fs).length) (b := encW smW begin fs) (by have := HEN.out; omega) (by have := HEN.out; omega) (Nat.le_refl _) (fun i u hi => by
      rw [cell_of_row w5 ko (0 + i) _ _ _ hrow5, Nat.zero_add]
      simpa using hi)
    rw [HRW.out] at RA
    have HRA := Lib.hid RA
    have B5 := Lib.hid (B4.out.trans (hb5.mono B4.out.size))
    have D5 := Lib.hid (D4.out.below hb5 (Nat.le_refl _))
    have R5 := Lib.hid (R4.out.below hb5 (Nat.le_refl _))
    clear RA hrow5 hko hb5 HRK
    go_wp2_with fail
    refine HRA.out.mono ?_
    rintro e w6 ⟨hb6, (⟨h0, _⟩ | ⟨_, v, rfl, hfr6⟩)⟩
    · exact absurd rfl h0
    have B6 := Lib.hid (B5.out.trans (hb6.mono B5.out.size))
    have D6 := Lib.hid (D5.out.below hb6 (Nat.le_refl _))
    have R6 := Lib.hid (R5.out.below hb6 (Nat.le_refl _))
    obtain ⟨vs6, f61, f62, f63⟩ := hfr6
    obtain ⟨a6, c6, hv6⟩ := own_slK f62
    subst hv6
    have F6 := Lib.hid (show FrRow w6 w5.heap.size (.slice a6 fs.length c6) fs from ⟨vs6, f61, f62, f63⟩)
    clear hb6 f61 f62 f63
    go_wp2_with fail
    go_ret3
    have hbn : Below w6.heap.size w6 (w6.alloc (.cells #[.pointer (some ⟨d, 0, none⟩), .pointer (some ⟨r, 0, none⟩), .int .u64 (begin : Int), .slice none 0 0, .bool false] 100)) := (Below.refl _ _).alloc (Nat.le_refl _) _
    have hb7 := B6.out.trans (hbn.mono B6.out.size)
    have hk := R6.out.klt
    refine ⟨w6.heap.size, r, k, S, _, rfl, ⟨heap_alloc_new _ _, R6.out.below hbn (Nat.le_refl _), D6.out.below hbn (Nat.le_refl _), HLD.out, WaitD.nil _ _, ⟨Nat.le_trans hB B6.out.size, hbas⟩, HC.out, hN, ⟨by omega, fun e => by cases e⟩⟩, ?_, B6.out.size, Z4.out.1, Z4.out.2, hb7⟩
    exact (F6.out.below hbn).base B5.out.size
  · go_wp2_with fail
    go_quiet (fail)
    obtain ⟨w3, hw3⟩ : ∃ w3, w3 = w2.drewN nq := ⟨_, rfl⟩
    rw [← hw3]
    have b3 : Below w2.heap.size w2 w3 := by rw [hw3]; exact below_drewN (Below.refl _ _) _
    have B3 := Lib.hid (B2.out.trans (b3.mono B2.out.size))
    have D3 := Lib.hid (D2.out.below b3 (Nat.le_refl _))
    clear hw3 b3 q1 q2
    have OR := Lib.hid (wopenRing_any (w := w3) D3.out HLD.out HC.out (by omega))
    go_wp2_with fail
    refine OR.out.mono ?_
    rintro e w4 ⟨r, k, S, rfl, hR4, hK4, hb4, hr4, hk4⟩
    have D4 := Lib.hid (D3.out.below hb4 (Nat.le_refl _))
    have R4 := Lib.hid hR4
    have B4 := Lib.hid (B3.out.trans (hb4.mono B3.out.size))
    have Z4 := Lib.hid (And.intro (Nat.le_trans B3.out.size hr4) (Nat.le_trans B3.out.size hk4))
    have RK := read_keepsC hR4 (by omega) D4.out hK4 HFI.out begin (T.length - begin) (by omega) HTH.out
    rw [List.take_of_length_le (by rw [List.length_drop]; exact Nat.le_refl _), HFR.out, HEL.out] at RK
    have HRK := Lib.hid RK
    clear hR4 hK4 hb4 hr4 hk4 RK OR
    go_wp2_with fail
    rw [show (T.length : Int) - (begin : Int) = ((encW smW begin fs).length : Int) by have := HEL.out; omega]
    refine HRK.out.mono ?_
    rintro e w5 ⟨ko, rfl, hrow5, hko, hb5⟩
    have RA := wreadAll_any (p := begin) (w := w5) (ko := ko) (c := (encW smW begin fs).length) (b := encW smW begin fs) (by have := HEN.out; omega) (by have := HEN.out; omega) (Nat.le_refl _) (fun i u hi => by
      rw [cell_of_row w5 ko (0 + i) _ _ _ hrow5, Nat.zero_add]
      simpa using hi)
    rw [HRW.out] at RA
    have HRA := Lib.hid RA
    have B5 := Lib.hid (B4.out.trans (hb5.mono B4.out.size))
    have D5 := Lib.hid (D4.out.below hb5 (Nat.le_refl _))
    have R5 := Lib.hid (R4.out.below hb5 (Nat.le_refl _))
    clear RA hrow5 hko hb5 HRK
    go_wp2_with fail
    refine HRA.out.mono ?_
    rintro e w6 ⟨hb6, (⟨h0, _⟩ | ⟨_, v, rfl, hfr6⟩)⟩
    · exact absurd rfl h0
    have B6 := Lib.hid (B5.out.trans (hb6.mono B5.out.size))
    have D6 := Lib.hid (D5.out.below hb6 (Nat.le_refl _))
    have R6 := Lib.hid (R5.out.below hb6 (Nat.le_refl _))
    obtain ⟨vs6, f61, f62, f63⟩ := hfr6
    obtain ⟨a6, c6, hv6⟩ := own_slK f62
    subst hv6
    have F6 := Lib.hid (show FrRow w6 w5.heap.size (.slice a6 fs.length c6) fs from ⟨vs6, f61, f62, f63⟩)
    clear hb6 f61 f62 f63
    go_wp2_with fail
    go_ret3
    have hbn : Below w6.heap.size w6 (w6.alloc (.cells #[.pointer (some ⟨d, 0, none⟩), .pointer (some ⟨r, 0, none⟩), .int .u64 (begin : Int), .slice none 0 0, .bool false] 100)) := (Below.refl _ _).alloc (Nat.le_refl _) _
    have hb7 := B6.out.trans (hbn.mono B6.out.size)
    have hk := R6.out.klt
    refine ⟨w6.heap.size, r, k, S, _, rfl, ⟨heap_alloc_new _ _, R6.out.below hbn (Nat.le_refl _), D6.out.below hbn (Nat.le_refl _), HLD.out, WaitD.nil _ _, ⟨Nat.le_trans hB B6.out.size, hbas⟩, HC.out, hN, ⟨by omega, fun e => by cases e⟩⟩, ?_, B6.out.size, Z4.out.1, Z4.out.2, hb7⟩
    exact (F6.out.below hbn).base B5.out.size
end Go.Proofs.Ytdjpeebekpjiiaa.Dk
/- The head of wal's laws: a log is written and read. -/
namespace Go.Proofs.Ytdjpeebekpjiiaa.Dk
open Go Go.RowKit
set_option linter.unusedVariables false
set_option linter.unusedSimpArgs false
theorem LogS.free {w : World} {B lg d r k g m n : Nat} {x : DS} {N count : Nat} {S : List UInt8} {t : TypeId} {T : List UInt8} {begin gr : Nat} {wv : Value} {W : List (List UInt8)} (h : LogS w B lg d r k g m n x N count S t T begin gr wv W) : ∀ q, (own3 d g m q ∨ q = r ∨ q = k) → ¬ (q = lg ∨ some q = wv.ownBlock) := by
  obtain ⟨vs, h1, h2, h3⟩ := h.wait
  intro q hq e
  rcases hq with hq | rfl | rfl
  · rcases e with rfl | e
    · exact own3_lg h.disk h.lgat hq
    · rcases h2.2 with ⟨rfl, _⟩ | ⟨gw, cap, cur, rfl, _, hh, _⟩
      · cases e
      · have e2 : q = gw := by simpa [Value.ownBlock] using e
        subst e2
        exact own3_of h.disk hh (by decide) (by decide) hq
  · rcases e with rfl | e
    · have := h.ring.blk
      rw [h.lgat] at this
      injection this with this
      injection this with _ this _
      exact absurd this (by decide)
    · exact own_neK h2 h.ring.blk (by decide) e
  · exact e.elim h.sep.1 h.sep.2
theorem sep_of {w : World} {B r d k first count tail : Nat} {S : List UInt8} {t : TypeId} (h : RingAt w r d k first count tail S t) {v : Value} {W : List (List UInt8)} (hw : WaitD w B v W) (h0 : 0 < W.length) : some k ≠ v.ownBlock := by
  obtain ⟨vs, h1, h2, h3⟩ := hw
  intro e
  rcases h2.2 with ⟨rfl, _⟩ | ⟨gw, cap, cur, rfl, _, hh, hn, _, _, ht⟩
  · cases e
  · have e2 : k = gw := by simpa [Value.ownBlock] using e
    subst e2
    rw [h.row] at hh
    injection hh with hh
    injection hh with hh _ _
    subst hh
    obtain ⟨u, hu⟩ : ∃ u, vs[0]? = some u := ⟨vs[0]'(by omega), List.getElem?_eq_getElem (by omega)⟩
    obtain ⟨ao, c, hs⟩ := own_slK (h3 0 W[0] u (List.getElem?_eq_getElem h0) hu).1
    rw [← ht, List.getElem?_take_of_lt (by omega)] at hu
    simp only [bvs, List.getElem?_map] at hu
    rw [List.getElem?_eq_getElem (by have := h.len; omega)] at hu
    simp only [Option.map_some, Option.some.injEq] at hu
    rw [hs] at hu
    cases hu
theorem wsubmitS {w : World} {B lg d r k g m n : Nat} {x : DS} {N count : Nat} {S : List UInt8} {t : TypeId} {T : List UInt8} {begin gr : Nat} {ao : Option Addr} {pc : Nat} {W : List (List UInt8)} (h : LogS w B lg d r k g m n x N count S t T begin gr (.slice ao W.length pc) W) (hB : B ≤ w.heap.size) {gb off nb c : Nat} {l : List UInt8} (hn : l.length = nb) (hr : w.rangeAt gb off (bvs l)) (hn2 : nb ≤ 2039) (hw64 : W.length < 64) :
    Calls Try.prog 24 #[.pointer (some ⟨lg, 0, none⟩), .slice (some ⟨gb, off, none⟩) nb c] w fun e w' => e = .returned (.int .i64 0) ∧ ∃ ao' pc', LogS w' B lg d r k g m n x N count S t T begin gr (.slice ao' (W ++ [l]).length pc') (W ++ [l]) ∧ Below B w w' := by
  refine (wsubmit_any h.lgat h.wait hB hn hr hn2 hw64).mono ?_
  rintro e w' ⟨rfl, ao', pc', h1, h2, h3, h4⟩
  have hl : (W ++ [l]).length = W.length + 1 := by simp
  have hR := h.ring.frame h4 (h.free _ (.inr (.inl rfl))) (h.free _ (.inr (.inr rfl)))
  refine ⟨rfl, ao', pc', ⟨by rw [hl]; exact h1, hR, h.disk.frame h4 (h.free _ (.inl (.inl rfl))) (h.free _ (.inl (.inr (.inl rfl)))) (h.free _ (.inl (.inr (.inr rfl)))), h.logd, by rw [hl]; exact h2, h.bas, h.cnt, h.few, ⟨h.sep.1, ?_⟩⟩, h3 h.bas.1⟩
  rw [hl]
  exact sep_of hR h2 (by omega)
theorem LogS.mono {w : World} {B lg d r k g m n n' : Nat} {x : DS} {N count : Nat} {S : List UInt8} {t : TypeId} {T : List UInt8} {begin gr : Nat} {wv : Value} {W : List (List UInt8)} (h : LogS w B lg d r k g m n x N count S t T begin gr wv W) (hn : n ≤ n') : LogS w B lg d r k g m n' x N count S t T begin gr wv W :=
  ⟨h.lgat, h.ring, h.disk.mono hn, h.logd, h.wait, h.bas, h.cnt, h.few, h.sep⟩
theorem conv_bytesW (w : World) (C : Array Value) (n c : Nat) : (Go.convert 37 37 (.slice (some ⟨w.heap.size, 0, none⟩) n c)).run Try.prog (w.alloc (.cells C 5)) = .ok (.slice (some ⟨w.heap.size, 0, none⟩) n c) (w.alloc (.cells C 5 (C.size, C.size + 1))) := Lib.run_convert_bytes_const (P := Try.prog) w 37 5 C n c Try.underlying37 Try.underlying5
/-- Three bytes in a block just made wait. -/
theorem sub3 {w : World} {B lg d r k g m n : Nat} {x : DS} {N count : Nat} {S : List UInt8} {t : TypeId} {T : List UInt8} {begin gr : Nat} {ao : Option Addr} {pc : Nat} {W : List (List UInt8)} (h : LogS w B lg d r k g m n x N count S t T begin gr (.slice ao W.length pc) W) (hB : B ≤ w.heap.size) (l : List UInt8) (h3 : l.length = 3) (hw64 : W.length < 64) :
    Calls Try.prog 24 #[.pointer (some ⟨lg, 0, none⟩), .slice (some ⟨w.heap.size, 0, none⟩) 3 3] (w.alloc (.cells (bvs l).toArray 5 (3, 4))) fun e w' => e = .returned (.int .i64 0) ∧ ∃ ao' pc', LogS w' B lg d r k g m n x N count S t T begin gr (.slice ao' (W ++ [l]).length pc') (W ++ [l]) ∧ Below B w w' := by
  have hb : Below w.heap.size w (w.alloc (.cells (bvs l).toArray 5 (3, 4))) := (Below.refl _ _).alloc (Nat.le_refl _) _
  have hr : (w.alloc (.cells (bvs l).toArray 5 (3, 4))).heap[w.heap.size]? = some (.cells (bvs l).toArray 5 (3, 4)) := heap_alloc_new _ _
  refine (wsubmitS (h.low hb) (Nat.le_trans hB hb.size) h3 (fun i u hi => by
    rw [cell_of_row _ _ (0 + i) _ _ _ hr, Nat.zero_add]
    simpa using hi) (by omega) hw64).mono ?_
  rintro e w' ⟨rfl, ao', pc', h1, h2⟩
  exact ⟨rfl, ao', pc', h1, (hb.mono hB).trans h2⟩
theorem chk3 {w : World} {B lg d r k g m n : Nat} {x : DS} {N count : Nat} {S : List UInt8} {t : TypeId} {T : List UInt8} {begin gr : Nat} {wv : Value} (h : LogS w B lg d r k g m n x N count S t T begin gr wv []) (ht : T.length ≤ 3000000000) (hn : n ≤ 800000000) (hgr : gr ≤ 1000000000) (hB : B ≤ w.heap.size) (l : List UInt8) (h3 : l.length = 3) :
    Calls Try.prog 29 #[.pointer (some ⟨lg, 0, none⟩), .slice (some ⟨w.heap.size, 0, none⟩) 3 3] (w.alloc (.cells (bvs l).toArray 5 (3, 4))) (CkPost (w.alloc (.cells (bvs l).toArray 5 (3, 4))) B lg d g m n N count T begin gr wv l) := by
  have hb : Below w.heap.size w (w.alloc (.cells (bvs l).toArray 5 (3, 4))) := (Below.refl _ _).alloc (Nat.le_refl _) _
  have hr : (w.alloc (.cells (bvs l).toArray 5 (3, 4))).heap[w.heap.size]? = some (.cells (bvs l).toArray 5 (3, 4)) := heap_alloc_new _ _
  have := wcheck_any (h.low hb) ht hn hgr (Nat.le_trans hB hb.size) (gb := w.heap.size) (ob := 0) (cb := 3) (b := l) (fun i u hi => by
    rw [cell_of_row _ _ (0 + i) _ _ _ hr, Nat.zero_add]
    simpa using hi) (lt_of_row hr) (by omega) (by omega)
  rw [h3] at this
  exact this
theorem FrRow.get {w : World} {B : Nat} {v : Value} {l : List Fm} (h : FrRow w B v l) (h0 : 0 < l.length) : ∃ g cap, v = .slice (some ⟨g, 0, none⟩) l.length cap ∧ l.length ≤ cap ∧ ∀ (j : Nat) f, l[j]? = some f → w.cell? ⟨g, j * 2, none⟩ = some (.int .i64 (f.kind : Int)) ∧ ∃ ao c, w.cell? ⟨g, j * 2 + 1, none⟩ = some (.slice ao f.data.length c) ∧ (Go.convert 37 9 (.slice ao f.data.length c)).run Try.prog w = .ok (.string (str f.data)) w := by
  obtain ⟨vs, h1, h2, h3⟩ := h
  rcases h2.2 with ⟨_, e0⟩ | ⟨g, cap, cur, rfl, hg, hh, hn, hc, hs, ht⟩
  · omega
  · refine ⟨g, cap, rfl, hn, fun j f hf => ?_⟩
    have hj : j < l.length := (List.getElem?_eq_some_iff.1 hf).1
    obtain ⟨u, hu⟩ : ∃ u, vs[j]? = some u := ⟨vs[j]'(by omega), List.getElem?_eq_getElem (by omega)⟩
    obtain ⟨e1, e2⟩ := fcs_at h1 hf hu
    rw [← ht, List.getElem?_take_of_lt (by omega), Array.getElem?_toList] at e1 e2
    obtain ⟨ao, c, rfl, hsl⟩ := PartW.sl (.inl (h3 j f u hf hu))
    exact ⟨by rw [cell_of_row w g _ _ _ _ hh]; exact e1, ao, c, by rw [cell_of_row w g _ _ _ _ hh]; exact e2, hsl.convert.1⟩
def bOne : List UInt8 := [111, 110, 101]
def bTwo : List UInt8 := [116, 119, 111]
def bAll : List UInt8 := [97, 108, 108]
set_option maxRecDepth 100000 in
set_option maxHeartbeats 8000000 in
theorem logs_any (w : World) : Calls Try.prog 9 #[] w fun e w' => e = .returned (.bool true) ∧ Below w.heap.size w w' := by
  obtain ⟨i0, hi0, hz0, hz1, hz2⟩ := info_parts Try.infoU8
  have NW := Lib.hid (new_any 34 (by decide) (by decide) w)
  have cv := conv_bytesW
  go_enter Try.func9, Try.ntmps9
  go_wp2_with fail
  refine NW.out.mono ?_
  rintro e w1 ⟨d, g, m, rfl, hD1, hb1, hd, hg, hm⟩
  have LD := logD_new (N := 34) (count := 32) (by decide) (by decide)
  have OP := wopen_any (B := w.heap.size) hD1 LD (by decide) (by decide) (by decide) (by decide) (fs := []) rfl (fun f hf => by cases hf) (by decide) hb1.size ⟨hd, hg, hm⟩
  have HOP := Lib.hid OP
  have B1 := Lib.hid hb1
  clear OP LD hD1 hb1 hd hg hm
  go_wp2_with fail
  refine HOP.out.mono ?_
  rintro e w2 ⟨lg, r, k, S, v, rfl, hL2, hF2, hlg2, hr2, hk2, hb2⟩
  obtain ⟨vs2, f1, f2, f3⟩ := hF2
  obtain ⟨a2, c2, hv2⟩ := own_slK f2
  subst hv2
  have B2 := Lib.hid (B1.out.trans (hb2.mono B1.out.size))
  have LF := Lib.hid (wleft_any hL2.lgat hL2.ring (by decide) (by decide))
  have L2 := Lib.hid hL2
  clear f1 f2 f3 hL2 hlg2 hr2 hk2 hb2
  go_wp2_with fail
  refine LF.out.mono ?_
  rintro e w3 ⟨rfl, q3, hw3⟩
  have b3 : Below w2.heap.size w2 w3 := by rw [hw3]; exact below_drewN (Below.refl _ _) _
  have L3 := Lib.hid (L2.out.low b3)
  have B3 := Lib.hid (B2.out.trans (b3.mono B2.out.size))
  have SZ3 := Lib.hid (show w.heap.size ≤ w3.heap.size from B3.out.size)
  clear hw3 b3 LF
  go_wp2_with fail
  refine (sub3 (W := []) L3.out SZ3.out bOne rfl (by decide)).mono ?_
  rintro e w4 ⟨rfl, ao4, pc4, hL4, hb4⟩
  have L4 := Lib.hid hL4
  have B4 := Lib.hid (B3.out.trans hb4)
  have SZ4 := Lib.hid (show w.heap.size ≤ w4.heap.size by have := hb4.size; have := SZ3.out; omega)
  clear hL4 hb4
  go_wp2_with fail
  refine (sub3 (W := [bOne]) L4.out SZ4.out bTwo rfl (by decide)).mono ?_
  rintro e w5 ⟨rfl, ao5, pc5, hL5, hb5⟩
  have CO := wcommit_any hL5 (by decide) (by decide) (by decide) (by have := hb5.size; have := SZ4.out; omega) (by decide) (by decide)
  have B5 := Lib.hid (B4.out.trans hb5)
  have SZ5 := Lib.hid (show w.heap.size ≤ w5.heap.size by have := hb5.size; have := SZ4.out; omega)
  have HCO := Lib.hid CO
  clear CO hL5 hb5
  go_wp2_with fail
  refine HCO.out.mono ?_
  rintro e w6 ⟨r6, k6, S6, t6, x6, n6, ao6, c6, he6, hL6, hn6, hb6⟩
  have hfit : fitN ([] : List UInt8).length (leftN 0 ([] : List UInt8).length 32) ([] : List UInt8).length ([bOne] ++ [bTwo]) = 2 := by decide
  rw [hfit] at he6 hL6
  rw [if_neg (by decide)] at he6
  subst he6
  obtain ⟨T1, hT1⟩ : ∃ T1, T1 = encW smW 0 [⟨1, bOne⟩, ⟨1, bTwo⟩] := ⟨_, rfl⟩
  have hl1 : T1.length = 24 := by
    have h1 := endW_eq smW [⟨1, bOne⟩, ⟨1, bTwo⟩] 0
    rw [← hT1, Nat.zero_add] at h1
    rw [← h1]
    decide
  have hL6' : LogS w6 w.heap.size lg d r6 k6 g m n6 x6 34 32 S6 t6 T1 0 2 (.slice ao6 0 c6) [] := by rw [hT1]; exact hL6
  have OP := wopen_any (B := w.heap.size) hL6'.disk hL6'.logd (by decide) (by decide) (by decide) (by rw [hl1]; decide) (fs := [⟨1, bOne⟩, ⟨1, bTwo⟩]) (by rw [hT1]; rfl) (fun f hf => by
    simp only [List.mem_cons, List.not_mem_nil, or_false] at hf
    rcases hf with rfl | rfl <;> exact ⟨by decide, by decide, by decide⟩) (by rw [hl1]; decide) (by have := hb6.size; have := SZ5.out; omega) ⟨hL6'.bas.2.1, hL6'.bas.2.2.1, hL6'.bas.2.2.2⟩
  have HOP := Lib.hid OP
  have L6 := Lib.hid hL6'
  have N6 := Lib.hid hn6
  have B6 := Lib.hid (B5.out.trans hb6)
  have HT1 := Lib.hid hT1
  have HL1 := Lib.hid hl1
  clear hL6 hL6' hn6 hb6 hT1 hl1 hfit OP HCO
  go_wp2_with fail
  refine HOP.out.mono ?_
  rintro e w7 ⟨lg7, r7, k7, S7, v7, rfl, _, hF7, _, _, _, hb7⟩
  obtain ⟨gv, cv7, rfl, hcv7, hget⟩ := hF7.get (by decide)
  obtain ⟨k0, _⟩ := hget 0 ⟨1, bOne⟩ rfl
  obtain ⟨_, ao1, co1, k1, cn1⟩ := hget 1 ⟨1, bTwo⟩ rfl
  rw [show str bTwo = ⟨#[116, 119, 111]⟩ from rfl] at cn1
  have hcv : (2 : Int) ≤ (cv7 : Int) := by have : 2 ≤ cv7 := hcv7; omega
  have L7 := Lib.hid (L6.out.low hb7)
  have B7 := Lib.hid (B6.out.trans (hb7.mono B6.out.size))
  have CK := Lib.hid (chk3 L7.out (by rw [HL1.out]; decide) (by have := N6.out; omega) (by decide) B7.out.size bAll rfl)
  clear hb7 HOP hget hF7
  go_wp2_with fail
  refine CK.out.mono ?_
  rintro e w8 (⟨_, rfl, ⟨r8, k8, S8, t8, x8, n8, hL8, hn8⟩, hb8⟩ | ⟨hno, _, _⟩)
  rotate_left
  · rw [HL1.out] at hno
    exact absurd hno (by decide)
  obtain ⟨T2, hT2⟩ : ∃ T2, T2 = T1 ++ encW smW 24 [⟨3, bAll⟩] := ⟨_, rfl⟩
  have hl2 : T2.length = 36 := by
    have h1 := endW_eq smW [⟨3, bAll⟩] 24
    rw [hT2, List.length_append, HL1.out, ← h1]
    decide
  rw [HL1.out, show 24 + restW 24 (min bAll.length 2039) = 24 by decide, show ckF bAll.length bAll = [⟨3, bAll⟩] from ck_last (by decide), ← hT2] at hL8
  have OP := wopen_any (B := w.heap.size) hL8.disk hL8.logd (by decide) (by decide) (by decide) (by rw [hl2]; decide) (fs := [⟨3, bAll⟩]) (by rw [hT2, ← HL1.out, List.drop_left]) (fun f hf => by
    simp only [List.mem_cons, List.not_mem_nil, or_false] at hf
    subst hf
    exact ⟨by decide, by decide, by decide⟩) (by rw [hl2]; decide) (Nat.le_trans B7.out.size (Nat.le_trans ((Below.refl w7.heap.size w7).alloc (Nat.le_refl _) _).size hb8.size)) ⟨hL8.bas.2.1, hL8.bas.2.2.1, hL8.bas.2.2.2⟩
  have HOP := Lib.hid OP
  have L8 := Lib.hid hL8
  have B8 := Lib.hid (B7.out.trans ((((Below.refl w7.heap.size w7).alloc (Nat.le_refl _) _).mono B7.out.size).trans hb8))
  have HL2 := Lib.hid hl2
  clear hL8 hb8 hn8 OP CK hT2 hl2 k0 k1 cn1
  go_wp2_with fail
  refine HOP.out.mono ?_
  rintro e w9 ⟨lg9, r9, k9, S9, v9, rfl, _, hF9, _, _, _, hb9⟩
  obtain ⟨gu, cu9, rfl, hcu9, hget⟩ := hF9.get (by decide)
  obtain ⟨k0, _⟩ := hget 0 ⟨3, bAll⟩ rfl
  have hcu : (1 : Int) ≤ (cu9 : Int) := by have : 1 ≤ cu9 := hcu9; omega
  have L9 := Lib.hid (L8.out.low hb9)
  have B9 := Lib.hid (B8.out.trans (hb9.mono B8.out.size))
  have EN := wends_any L9.out.lgat L9.out.ring
  rw [HL2.out] at EN
  have HEN := Lib.hid EN
  clear hb9 HOP hget hF9 EN
  go_wp2_with fail
  refine HEN.out.mono ?_
  rintro e w10 ⟨rfl, q10, rfl⟩
  have k10 : (w9.drewN q10).cell? ⟨gu, 0, none⟩ = some (.int .i64 3) := k0
  have CST := Lib.hid (wcost_any 0 (by decide) (w9.drewN q10))
  go_wp2_with fail
  refine CST.out.mono ?_
  rintro e w11 ⟨rfl, rfl⟩
  go_wp2_with fail
  go_ret
  exact ⟨rfl, below_drewN B9.out q10⟩
end Go.Proofs.Ytdjpeebekpjiiaa.Dk
