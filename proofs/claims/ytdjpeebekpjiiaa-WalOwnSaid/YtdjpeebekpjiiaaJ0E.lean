/- What a ring's call write leaves. -/
import Derived.Test.YtdjpeebekpjiiaaJ0D
import Derived.Laws.CopyOwn
import Derived.OwnWalk
import Derived.Test.YtdjpeebekpjiiaaJ0C
import Derived.Deep.QuietTactic
import Derived.BigQuiet
import Derived.Deep.RegionWith
import Derived.Test.YtdjpeebekpjiiaaJ0A
import Derived.Deep.CutBlock
import Derived.Deep.DeepCutAuto
namespace Go.Proofs.Ytdjpeebekpjiiaa.Dk
open Go Go.RowKit
set_option linter.unusedVariables false
set_option linter.unusedSimpArgs false

/-- The bytes b are laid over sectors from that of the byte at_ on, until one can't be written. -/
def lays (first count : Nat) : Nat → DS → Nat → List UInt8 → DS × Int
  | 0, x, _, _ => (x, 0)
  | f + 1, x, at_, b =>
    if b = [] then (x, 0)
    else if x.wcode (sec first count at_ : Nat) 128 = 0 then lays first count f (x.write (sec first count at_ : Nat) (pad b)) (at_ + 128) (b.drop 128)
    else (x.write (sec first count at_ : Nat) (pad b), x.wcode (sec first count at_ : Nat) 128)
theorem lays_nil (first count f : Nat) (x : DS) (at_ : Nat) : lays first count f x at_ [] = (x, 0) := by
  cases f <;> simp [lays]
theorem lays_step {first count f : Nat} {x : DS} {at_ o cn : Nat} {b : List UInt8} (ho : o < b.length) (hcn : cn = min (b.length - o) 128) (hc : x.wcode (sec first count (at_ + o) : Nat) 128 = 0) :
    lays first count (f + 1) x (at_ + o) (b.drop o) = lays first count f (x.write (sec first count (at_ + o) : Nat) (pad (b.drop o))) (at_ + (o + cn)) (b.drop (o + cn)) := by
  have hne : b.drop o ≠ [] := by
    intro e
    have := congrArg List.length e
    simp at this
    omega
  rw [lays, if_neg hne, if_pos hc, List.drop_drop]
  by_cases h : 128 ≤ b.length - o
  · have : cn = 128 := by omega
    rw [this, Nat.add_assoc]
  · have e1 : b.drop (o + 128) = [] := List.drop_eq_nil_of_le (by omega)
    have e2 : b.drop (o + cn) = [] := List.drop_eq_nil_of_le (by omega)
    rw [e1, e2, lays_nil, lays_nil]
theorem lays_stop {first count f : Nat} {x : DS} {at_ o : Nat} {b : List UInt8} (ho : o < b.length) (hc : ¬ x.wcode (sec first count (at_ + o) : Nat) 128 = 0) :
    lays first count (f + 1) x (at_ + o) (b.drop o) = (x.write (sec first count (at_ + o) : Nat) (pad (b.drop o)), x.wcode (sec first count (at_ + o) : Nat) 128) := by
  have hne : b.drop o ≠ [] := by
    intro e
    have := congrArg List.length e
    simp at this
    omega
  rw [lays, if_neg hne, if_neg hc]
/-- Where the loop of write stands. -/
structure WrRel (w : World) (r d k g m first count tail n base : Nat) (S : List UInt8) (t : TypeId) (kb c : Nat) (b : List UInt8) (X : DS × Int) (vb va vs : Value) (wr : World) (o : Nat) : Prop where
  le : o ≤ b.length
  hb : ∃ ao c', vb = .slice ao (b.length - o) c' ∧ (o < b.length → ao = some ⟨kb, o, none⟩ ∧ b.length - o ≤ c')
  ha : va = .int .u64 ((base + o : Nat) : Int)
  hs : (o = 0 ∧ vs = .slice none 0 0) ∨ ∃ ks, vs = .slice (some ⟨ks, 0, none⟩) 128 128 ∧ w.heap.size ≤ ks ∧ wr.heap[ks]? = some (.cells (bvs (pad (b.drop ((o - 1) / 128 * 128)))).toArray 5 (0, 0))
  al : o % 128 = 0 ∨ o = b.length
  dk : ∃ f x, b.length - o ≤ f ∧ X = lays first count f x (base + o) (b.drop o) ∧ DiskAt Try.prog wr d g m (n + o) x
  rg : RingAt wr r d k first count tail S t
  fr : Frm (own3 d g m) w wr
theorem pad_splice (xs : List UInt8) : splice (List.replicate 128 (Value.int .u8 0)) 0 (bvs (xs.take 128)) = bvs (pad xs) := by
  have e1 : bvs (List.replicate (128 - xs.length) 0) = List.replicate (128 - xs.length) (Value.int .u8 0) := by simp [bvs, bv]
  unfold splice pad
  rw [bvs_append, bvs_length, e1, List.take_zero, List.nil_append, List.drop_replicate, List.length_take]
  congr 2
  omega
/-- A row of 128 noughts that was just made. -/
theorem made_row {w w1 : World} (hown : w1.ownsRow 0 5 1 (.slice (some ⟨w.heap.size, 0, none⟩) 128 128) 128 (madeCells #[.int .u8 0] (128 * 1)).toList) :
    w1.heap[w.heap.size]? = some (.cells (List.replicate 128 (Value.int .u8 0)).toArray 5 (0, 0)) := by
  rcases hown.2 with ⟨e, _⟩ | ⟨g, cap, cur, e, _, hb, hc1, hc2, hc3, hc4⟩
  · cases e
  · injection e with e3 e4 e5
    cases e3
    subst e5
    rw [hb, ← made_u8 128]
    simp only [Nat.mul_one] at hc3 hc4
    have : cur.toList = (madeCells #[Value.int .u8 0] 128).toList := by
      rw [← hc4.trans rfl, List.take_of_length_le (by simp [hc3])]
    rw [← this]
def lenOf (v : Value) : Nat := match v with | .slice _ n _ => n | _ => 0
theorem keep_pre {w : World} {r d k' first count tail : Nat} {v4 : Value} {S' : List UInt8} {t' : TypeId} (hblk : w.heap[r]? = some (.cells #[.pointer (some ⟨d, 0, none⟩), .int .i64 (first : Int), .int .i64 (count : Int), .int .u64 (tail : Int), v4] 134 (0, 0)))
    (hr : w.heap[k']? = some (.cells (bvs S').toArray t' (0, 0))) (hl : S'.length = 128) (hne : r ≠ k') (hcnt : 1 ≤ count) (hfew : first + count ≤ 4096) (htl : tail < 18446744073709551616) :
    Calls Try.prog 79 #[.pointer (some ⟨r, 0, none⟩), .slice (some ⟨k', 0, none⟩) 128 128] w fun e w' => e = .returned (.tuple #[]) ∧ RingAt w' r d k' first count tail S' t' ∧ Frm (fun i => i = r) w w' := by
  have q3 : w.cell? ⟨r, 3, none⟩ = some (.int .u64 (tail : Int)) := by rw [cell_of_row w r 3 _ _ _ hblk]; rfl
  have q4 : w.cell? ⟨r, 4, none⟩ = some v4 := by rw [cell_of_row w r 4 _ _ _ hblk]; rfl
  have f4 : w.frozen? ⟨r, 4, none⟩ = false := frozen_of_row w r 4 _ _ hblk
  have IS := Lib.hid (inSector_any tail htl w)
  have hm : tail % 128 < 128 := Nat.mod_lt _ (by decide)
  generalize hq : tail % 128 = q at *
  have hqi : (q : Int) ≤ 128 := by omega
  have R := Lib.hid (show RingAt (w.setCell ⟨r, 4, none⟩ (.slice (some ⟨k', 0, none⟩) q q)) r d k' first count tail S' t' from
    ⟨by have := Go.Joins.block_setCell (i := 4) hblk (.slice (some ⟨k', 0, none⟩) q q)
        rw [hq]
        simpa using this, (Below.heap_setCell w ⟨r, 4, none⟩ _ k' (fun e => hne e.symm)).trans hr, hl, hne, hcnt, hfew, htl⟩)
  clear hblk hr hq hm htl
  go_enter Try.func79, Try.ntmps79
  go_wp2_with (go_at_call 62; refine IS.out.mono ?_; rintro e w' ⟨rfl, rfl⟩)
  go_end0
  exact ⟨rfl, R.out, (Frm.refl (fun i => i = r) w).setCell (p := ⟨r, 4, none⟩) (.inl rfl) _⟩
set_option maxRecDepth 100000 in
set_option maxHeartbeats 4000000 in
theorem rwrite_any {w : World} {r d k first count tail : Nat} {S : List UInt8} {t : TypeId} (h : RingAt w r d k first count tail S t) (ht : tail ≤ 4611686018427387904)
    {g m n : Nat} {x : DS} (hD : DiskAt Try.prog w d g m n x) (hr : ¬ own3 d g m r) (hk : ¬ own3 d g m k) {kb c : Nat} {b : List UInt8} (hb : w.rangeAt kb 0 (bvs b)) (hkb : ¬ own3 d g m kb) (hc : b.length ≤ c) (hb0 : 0 < b.length) (hbl : b.length ≤ 1000000) (hnn : n ≤ 1000000000) :
    Calls Try.prog 100 #[.pointer (some ⟨r, 0, none⟩), .slice (some ⟨kb, 0, none⟩) b.length c] w fun e w' => e = .returned (.int .i64 (lays first count b.length x (tail - tail % 128) b).2) ∧
      DiskAt Try.prog w' d g m (n + b.length) (lays first count b.length x (tail - tail % 128) b).1 ∧ Frm (fun i => i = r ∨ own3 d g m i) w w' ∧
      ((lays first count b.length x (tail - tail % 128) b).2 = 0 → ∃ ks, w.heap.size ≤ ks ∧ RingAt w' r d ks first count (tail - tail % 128 + b.length) (pad (b.drop ((b.length - 1) / 128 * 128))) 5) ∧
      ((lays first count b.length x (tail - tail % 128) b).2 ≠ 0 → RingAt w' r d k first count tail S t) := by
  obtain ⟨i0, hi, hz0, hz1, hz2⟩ := info_parts Try.infoU8
  have q3 := h.q3
  have q4 := h.q4
  obtain ⟨base, hbase⟩ : ∃ base, base = tail - tail % 128 := ⟨_, rfl⟩
  obtain ⟨X, hX⟩ : ∃ X, X = lays first count b.length x base b := ⟨_, rfl⟩
  rw [← hbase, ← hX]
  have H := Lib.hid h
  have HD := Lib.hid hD
  have HR := Lib.hid hr
  have HK := Lib.hid hk
  have HB := Lib.hid hb
  have HKB := Lib.hid hkb
  have HX := Lib.hid hX
  have HT := Lib.hid ht
  have HBS := Lib.hid hbase
  have hm := Nat.mod_lt tail (show 0 < 128 by decide)
  generalize hq : tail % 128 = q at *
  have HQ := Lib.hid hq
  clear h hD hr hk hb hkb hX ht hbase hq
  go_enter Try.func100, Try.ntmps100
  go_wp2_with fail
  go_quiet (fail)
  have ebase : IntKind.u64.wrap ((tail : Int) - (q : Int)) = ((base + 0 : Nat) : Int) := by
    have := HBS.out
    have := HT.out
    have := HQ.out
    have := Nat.mod_le tail 128
    rw [IntKind.wrap_u64]
    omega
  rw [ebase]
  have R0 := Lib.hid (show WrRel w r d k g m first count tail n base S t kb c b X (.slice (some ⟨kb, 0, none⟩) b.length c) (.int .u64 ((base + 0 : Nat) : Int)) (.slice none 0 0) (w.drewN nq) 0 from
    ⟨Nat.zero_le _, ⟨_, _, rfl, fun _ => ⟨rfl, hc⟩⟩, rfl, .inl ⟨rfl, rfl⟩, .inl rfl, ⟨b.length, x, by omega, HX.out, HD.out.drewN nq⟩, H.out.keep rfl rfl, (Frm.refl _ _).drewN nq⟩)
  clear ebase
  go_wp2_with fail
  go_loopw [1, 5, 6] (fun vb va vs wr => ∃ o, WrRel w r d k g m first count tail n base S t kb c b X vb va vs wr o) (fun vb _ _ _ => lenOf vb)
  case atStart => exact ⟨0, R0.out⟩
  case round =>
    obtain ⟨wo, rfl⟩ : ∃ wo : World, wo = wr := ⟨_, rfl⟩
    obtain ⟨o, rel⟩ := hrel
    obtain ⟨hle, ⟨ao, c', rfl, hao⟩, rfl, hs, hal, ⟨f, y, hf, hXy, hDy⟩, hRg, hFr⟩ := rel
    have HS := Lib.hid hs
    have HAL := Lib.hid hal
    have HXY := Lib.hid hXy
    have HDY := Lib.hid hDy
    have HRG := Lib.hid hRg
    have HFR := Lib.hid hFr
    have HFF := Lib.hid hf
    by_cases hol : o < b.length
    · obtain ⟨rfl, hc'⟩ := hao hol
      have hpos : (0 : Int) < ((b.length - o : Nat) : Int) := by omega
      clear hs hal hXy hDy hFr hf R0
      go_wp2_with (at_make; refine wpList_make_full _ rfl _ _ 37 rfl 0 5 i0 _ 1 Try.underlying37 hi hz0 hz1 _ _ _ _ 128 rfl rfl rfl rfl (by rw [hz2]; omega) (by unfold maxLen; omega) (by omega) ?_)
      intro w1 hown hgrow
      have hb1 := made_row hown
      have b1 : Below wo.heap.size wo w1 := (Frm.refl (fun _ => False) wo).grown hgrow (by intro j e; cases e) |>.below (fun _ _ h => h.elim) (Nat.le_refl _)
      have hz1' : wo.heap.size < w1.heap.size := lt_of_row hb1
      obtain ⟨ks, hks⟩ : ∃ ks, ks = wo.heap.size := ⟨_, rfl⟩
      rw [← hks] at hb1 hz1' ⊢
      have KS := Lib.hid hks
      have B1 := Lib.hid b1
      have HB1 := Lib.hid hb1
      have hcl : (bvs ((b.drop o).take 128)).length = Nat.min (b.length - o) 128 := by rw [bvs_length, List.length_take, List.length_drop]; exact Nat.min_comm _ _
      have hsrc : 0 < (bvs ((b.drop o).take 128)).length → (some ⟨ks, 0, none⟩ : Option Addr) = some ⟨ks, 0, none⟩ ∧ ∃ ad, (some ⟨kb, o, none⟩ : Option Addr) = some ad ∧ ∀ j v, (bvs ((b.drop o).take 128))[j]? = some v → w1.cell? (ad.add j) = some v := by
        intro _
        refine ⟨rfl, _, rfl, fun j v hv => ?_⟩
        have hv2 : (bvs b)[o + j]? = some v := by
          simp only [bvs, List.map_take, List.map_drop, List.getElem?_take, List.getElem?_drop] at hv
          split at hv
          · simpa [bvs] using hv
          · cases hv
        have h0 := HB.out (o + j) v hv2
        rw [Nat.zero_add] at h0
        have hlt := block_lt_of_cell h0
        rw [Addr.add_mid]
        have h1 := (World.cell?_of_block (a := ⟨kb, o + j, none⟩) (HFR.out.block kb hlt HKB.out)).trans h0
        exact (World.cell?_of_block (a := ⟨kb, o + j, none⟩) (b1.block kb (Nat.lt_of_lt_of_le hlt HFR.out.size))).trans h1
      have hfit : 0 + (bvs ((b.drop o).take 128)).length ≤ (List.replicate 128 (Value.int .u8 0)).length := by rw [hcl]; simp; exact Nat.min_le_right _ _
      have HN := Lib.hid hcl
      have HC := Lib.hid hsrc
      have HF := Lib.hid hfit
      have HP := Lib.hid (pad_splice (b.drop o))
      clear hown hgrow hb1 b1 hz1' hks hcl hsrc hfit
      go_wp2_with (with_reducible show wpList _ _ _ _ _ _; refine wpList_copy_splice rfl (.tmp 24) (.tmp 25) 37 37 rfl 5 Try.underlying37 (by kernel_rfl) (some ⟨ks, 0, none⟩) (some ⟨kb, o, none⟩) 128 128 (b.length - o) c' rfl rfl ks 0 (List.replicate 128 (Value.int .u8 0)) 5 HB1.out (bvs ((b.drop o).take 128)) HN.out HC.out HF.out (bvs_one _) wo.heap.size wo B1.out (by rw [← KS.out]; exact Nat.le_refl _) ?_)
      intro w2 HG hb2
      have HG := Lib.hid (show w2.heap[ks]? = some (.cells (bvs (pad (b.drop o))).toArray 5 (0, 0)) from by rw [← HP.out]; exact HG.out)
      rw [HN.out]
      obtain ⟨cn, hcn⟩ : ∃ cn, cn = Nat.min (b.length - o) 128 := ⟨_, rfl⟩
      rw [← hcn]
      have CN := Lib.hid (show cn = min (b.length - o) 128 from hcn)
      obtain ⟨sc, hsc⟩ : ∃ sc, sc = sec first count (base + o) := ⟨_, rfl⟩
      have SC := Lib.hid hsc
      have D2 := Lib.hid (HDY.out.below hb2 (Nat.le_refl _))
      have G2 := Lib.hid (HRG.out.below hb2 (Nat.le_refl _))
      have F2 := Lib.hid (HFR.out.thenBelow hb2 (Nat.le_refl _))
      have hbo : base + o < 18446744073709551616 := by have := HBS.out; have := HT.out; omega
      have RS := Lib.hid (show ∀ n, Calls Try.prog 61 #[.pointer (some ⟨r, 0, none⟩), .int .u64 ((base : Int) + (o : Int))] (w2.drewN n) fun e w' => e = .returned (.int .i64 (sc : Int)) ∧ ∃ m, w' = (w2.drewN n).drewN m from fun n => by
        have h1 := rsector_any (G2.out.keep (w' := w2.drewN n) rfl rfl) (base + o) hbo
        rw [← hsc] at h1
        rw [← Int.natCast_add]
        exact h1)
      have q0 := G2.out.q0
      have hsb : sc < 4096 := by
        rw [hsc]
        unfold sec
        have := Nat.mod_lt ((base + o) / 128) (show 0 < count by have := HRG.out.cnt; omega)
        have := HRG.out.few
        omega
      have hksn : ¬ own3 d g m ks := fun h => by have := h.elim (fun h => h ▸ HDY.out.dlt) (fun h => h.elim (fun h => h ▸ HDY.out.glt) (fun h => h ▸ HDY.out.mlt)); have := KS.out; omega
      have WR := Lib.hid (fun n => write_own (D2.out.drewN n) (by unfold maxLen; omega) (sc : Int) (WalkArith.wf_i64 (by omega)) ⟨ks, rfl, HG.out, pad_length _, hksn⟩)
      clear hb2 hcn hsc hbo hsb hksn HC HF HN HB1
      go_wp2_with fail
      refine wp_region_quiet_tail 8 (by kernel_rfl) (by kernel_rfl) ?_
      simp only [List.take_succ_cons, List.take_zero, List.drop_succ_cons, List.drop_zero]
      (repeat (go_big_quiet_step (first | (go_at_call 61; refine Calls.quiet_of (RS.out _)))))
      refine wpQuiet_nil ?_
      intro _ hw'
      obtain ⟨nq2, hw''⟩ := hw'
      subst hw''
      obtain ⟨f', rfl⟩ : ∃ f', f = f' + 1 := ⟨f - 1, by have := HFF.out; omega⟩
      have cnb := Lib.hid (show 1 ≤ cn ∧ cn ≤ 128 ∧ o + cn ≤ b.length ∧ (cn = 128 ∨ o + cn = b.length) from by
        have h1 := CN.out
        omega)
      have hcni : (cn : Int) ≤ ((b.length - o : Nat) : Int) := by have := cnb.out; omega
      by_cases hcode : y.wcode (sc : Int) 128 = 0
      · have LS := Lib.hid (lays_step (f := f') (at_ := base) hol CN.out (by rw [← SC.out]; exact hcode))
        go_wp2_with (go_at_call 103; refine (WR.out nq2).mono ?_; rintro e w3 ⟨rfl, hD3, hF3⟩; rw [hcode])
        all_goals
          have hcn := cnb.out
          have hrel : ∀ ao'' c'', (o + cn < b.length → ao'' = some ⟨kb, o + cn, none⟩ ∧ b.length - (o + cn) ≤ c'') → WrRel w r d k g m first count tail n base S t kb c b X (.slice ao'' (b.length - o - cn) c'') (.int .u64 (IntKind.u64.wrap ((base : Int) + (o : Int) + (cn : Int)))) (.slice (some ⟨ks, 0, none⟩) 128 128) w3 (o + cn) := by
            intro ao'' c'' hq
            refine ⟨by omega, ⟨ao'', c'', by rw [Nat.sub_sub], hq⟩, ?_, .inr ⟨ks, rfl, ?_, ?_⟩, ?_, ⟨f', y.write (sc : Int) (pad (b.drop o)), ?_, ?_, ?_⟩, ?_, ?_⟩
            · have := HBS.out; have := HT.out
              congr 1
              rw [IntKind.wrap_u64]
              omega
            · have := KS.out; have := HFR.out.size; omega
            · have e : (o + cn - 1) / 128 * 128 = o := by
                rcases HAL.out with h | h
                · omega
                · omega
              rw [e]
              have hksn : ¬ own3 d g m ks := fun h => by have := h.elim (fun h => h ▸ HDY.out.dlt) (fun h => h.elim (fun h => h ▸ HDY.out.glt) (fun h => h ▸ HDY.out.mlt)); have := KS.out; omega
              exact (hF3.block ks (lt_of_row HG.out) hksn).trans HG.out
            · rcases HAL.out with h | h
              · omega
              · omega
            · have := HFF.out; omega
            · rw [HXY.out, LS.out, ← SC.out]
            · exact hD3.mono (by omega)
            · exact (G2.out.keep (w' := w2.drewN nq2) rfl rfl).frame hF3 HR.out HK.out
            · exact (F2.out.drewN nq2).trans hF3
          refine ⟨⟨_, _, _, _, ⟨o + cn, hrel _ _ ?_⟩, rfl, rfl, rfl, rfl⟩, ?_⟩
          · intro h
            first
              | exact ⟨rfl, by omega⟩
              | (exfalso; omega)
          · simp only [lenOf]
            omega
      · have LS := Lib.hid (lays_stop (f := f') (at_ := base) hol (by rw [← SC.out]; exact hcode))
        have hcb : (y.wcode (sc : Int) 128 == 0) = false := by simpa using hcode
        go_wp2_with (go_at_call 103; refine (WR.out nq2).mono ?_; rintro e w3 ⟨rfl, hD3, hF3⟩)
        go_ret
        have hXX : X = (y.write (sc : Int) (pad (b.drop o)), y.wcode (sc : Int) 128) := by rw [HXY.out, LS.out, ← SC.out]
        refine ⟨by rw [hXX]; rfl, ?_, ?_, ?_, ?_⟩
        · rw [hXX]; exact hD3.mono (by omega)
        · exact ((F2.out.drewN nq2).trans hF3).mono (fun i _ h => .inr h)
        · rw [hXX]; intro h; exact absurd h hcode
        · intro _; exact (G2.out.keep (w' := w2.drewN nq2) rfl rfl).frame hF3 HR.out HK.out
    · obtain rfl : o = b.length := by omega
      have eX : X = (y, 0) := by rw [HXY.out, List.drop_length, lays_nil]
      have EX := Lib.hid eX
      rcases HS.out with ⟨h, _⟩ | ⟨ks, rfl, hks, hrow⟩
      · omega
      · clear eX hs
        have e0 : base % 128 = 0 := by have := HBS.out; have := HQ.out; omega
        have htl : base + b.length < 18446744073709551616 := by have := HBS.out; have := HT.out; omega
        have q3o := hRg.q3
        have f3o := hRg.free 3
        have hne : r ≠ ks := fun e => by have := H.out.rlt; omega
        have K := Lib.hid (keep_pre (w := wo.setCell ⟨r, 3, none⟩ (.int .u64 ((base : Int) + (b.length : Int)))) (tail := base + b.length) (by
            have := Go.Joins.block_setCell (i := 3) hRg.blk (.int .u64 ((base : Int) + (b.length : Int)))
            simpa using this) ((Below.heap_setCell wo ⟨r, 3, none⟩ _ ks (fun e => hne e.symm)).trans hrow) (pad_length _) hne hRg.cnt hRg.few htl)
        have D9 := Lib.hid (show DiskAt Try.prog (wo.setCell ⟨r, 3, none⟩ (.int .u64 ((base : Int) + (b.length : Int)))) d g m (n + b.length) y from
          hDy.keep (Below.heap_setCell wo ⟨r, 3, none⟩ _ d (fun e => HR.out (.inl e.symm))) (Below.heap_setCell wo ⟨r, 3, none⟩ _ g (fun e => HR.out (.inr (.inl e.symm)))) (Below.heap_setCell wo ⟨r, 3, none⟩ _ m (fun e => HR.out (.inr (.inr e.symm)))))
        have F9 := Lib.hid (show Frm (fun i => i = r ∨ own3 d g m i) w (wo.setCell ⟨r, 3, none⟩ (.int .u64 ((base : Int) + (b.length : Int)))) from (hFr.mono (fun i _ h => .inr h)).setCell (p := ⟨r, 3, none⟩) (.inl (.inl rfl)) _)
        have HKS := Lib.hid hks
        clear hRg hDy hFr hrow hne htl e0
        rw [Nat.sub_self] at *
        go_wp2_with (go_at_call 79; refine K.out.mono ?_; rintro e w9 ⟨rfl, hR9, hF9⟩)
        go_ret
        refine ⟨by rw [EX.out]; rfl, ?_, F9.out.trans (hF9.mono (fun i _ h => .inl h)), ?_, ?_⟩
        · rw [EX.out]
          exact D9.out.frame hF9 (fun e => HR.out (.inl e.symm)) (fun e => HR.out (.inr (.inl e.symm))) (fun e => HR.out (.inr (.inr e.symm)))
        · intro _; exact ⟨ks, HKS.out, hR9⟩
        · rw [EX.out]; intro h; exact absurd rfl h
end Go.Proofs.Ytdjpeebekpjiiaa.Dk
/- What a ring's calls total and Append leave. -/
namespace Go.Proofs.Ytdjpeebekpjiiaa.Dk
open Go Go.RowKit
set_option linter.unusedVariables false
set_option linter.unusedSimpArgs false

/-- Parts: a slice of slices of bytes. -/
def Parts (w : World) (v : Value) (L : List (List UInt8)) : Prop :=
  ∃ ao c, v = .slice ao L.length c ∧ ∀ j, j < L.length → ∃ a, ao = some a ∧ ∃ aj cj, w.cell? (a.add j) = some (.slice aj (L.getD j []).length cj) ∧ Sl w (.slice aj (L.getD j []).length cj) (L.getD j [])
theorem Parts.below {w w' : World} {v : Value} {L : List (List UInt8)} (h : Parts w v L) {B : Nat} (hb : Below B w w') (hB : w.heap.size ≤ B) : Parts w' v L := by
  obtain ⟨ao, c, rfl, hc⟩ := h
  refine ⟨ao, c, rfl, fun j hj => ?_⟩
  obtain ⟨a, ha, aj, cj, h1, h2⟩ := hc j hj
  refine ⟨a, ha, aj, cj, ?_, h2.below (hb.mono hB)⟩
  rw [hb.cell (Nat.lt_of_lt_of_le (World.block_lt_of_cell? w _ h1) hB)]
  exact h1
def sumLen (L : List (List UInt8)) : Nat := L.flatten.length
theorem flat_take {L : List (List UInt8)} {j : Nat} (hj : j < L.length) : (L.take (j + 1)).flatten = (L.take j).flatten ++ L.getD j [] := by
  rw [List.take_add_one, List.flatten_append, List.getElem?_eq_getElem hj]
  simp [List.getD, hj]
theorem sumLen_take {L : List (List UInt8)} {j : Nat} (hj : j < L.length) : sumLen (L.take (j + 1)) = sumLen (L.take j) + (L.getD j []).length := by
  unfold sumLen
  rw [flat_take hj, List.length_append]
theorem sumLen_le {L : List (List UInt8)} (j : Nat) : sumLen (L.take j) ≤ sumLen L := by
  have h : L.flatten = (L.take j).flatten ++ (L.drop j).flatten := by rw [← List.flatten_append, List.take_append_drop]
  unfold sumLen
  rw [h, List.length_append]
  omega
def TotRel (L : List (List UInt8)) (room : Nat) (w : World) (u v : Value) (wr : World) : Prop := ∃ j : Nat, u = .int .i64 (j : Int) ∧ v = .int .i64 ((sumLen (L.take j) : Nat) : Int) ∧ j ≤ L.length ∧ sumLen (L.take j) ≤ room ∧ wr = w
set_option maxRecDepth 100000 in
theorem total_any (room : Nat) (hr : room ≤ 1000000) (ao : Option Addr) (c : Nat) (L : List (List UInt8)) (w : World) (hP : Parts w (.slice ao L.length c) L) (hl : L.length ≤ 1000000) :
    Calls Try.prog 99 #[.int .i64 (room : Int), .slice ao L.length c] w fun e w' => ((sumLen L ≤ room ∧ e = .returned (.tuple #[.int .i64 ((sumLen L : Nat) : Int), .int .i64 0])) ∨ (room < sumLen L ∧ e = .returned (.tuple #[.int .i64 0, .int .i64 3]))) ∧ w = w' := by
  obtain ⟨ao', c', e, hc⟩ := hP
  injection e with e1 e2 e3
  subst e1 e3
  have HC := Lib.hid hc
  clear hc e2
  go_enter Try.func99, Try.ntmps99
  go_wp2_with fail
  go_loopw [11, 6] (fun u v wr => TotRel L room w u v wr) (fun u _ _ => L.length - (intOf u).toNat)
  case atStart => exact ⟨0, rfl, by simp [sumLen], Nat.zero_le _, by simp [sumLen], rfl⟩
  case round =>
    obtain ⟨wo, rfl⟩ : ∃ wo : World, wo = wr := ⟨_, rfl⟩
    obtain ⟨j, rfl, rfl, hj, hs, rfl⟩ := hrel
    by_cases hjl : j < L.length
    · have hji : (j : Int) < (L.length : Int) := by omega
      obtain ⟨a, rfl, aj, cj, hcell, hsl⟩ := HC.out j hjl
      have st := sumLen_take hjl
      have sle := sumLen_le (L := L) (j + 1)
      generalize hp : (L.getD j []).length = pl at *
      obtain ⟨sj, hsj⟩ : ∃ sj, sj = sumLen (L.take j) := ⟨_, rfl⟩
      rw [← hsj] at st hs ⊢
      by_cases hbig : room < sj + pl
      · have hbi : (room : Int) - (sj : Int) < (pl : Int) := by omega
        have hno : ¬ sumLen L ≤ room := by omega
        have HNO := Lib.hid hno
        clear hsl st sle hsj hp hbig hno
        go_wp2_with fail
        go_ret2
        exact ⟨.inr ⟨by have := HNO.out; omega, rfl⟩, rfl⟩
      · have hbi : ¬ (room : Int) - (sj : Int) < (pl : Int) := by omega
        have RR := Lib.hid (show TotRel L room wo (.int .i64 ((j + 1 : Nat) : Int)) (.int .i64 ((sj : Int) + (pl : Int))) wo from ⟨j + 1, rfl, by rw [st]; simp, by omega, by omega, rfl⟩)
        have hb2 : sj + pl ≤ 1000000 := by omega
        clear hsl st sle hsj hp hbig
        go_wp2_with fail
        exact ⟨RR.out, by simp [intOf]; omega⟩
    · obtain rfl : j = L.length := by omega
      rw [List.take_length] at hs ⊢
      have HS := Lib.hid hs
      clear hs
      go_wp2_with fail
      go_ret2
      exact ⟨.inl ⟨HS.out, rfl⟩, rfl⟩
end Go.Proofs.Ytdjpeebekpjiiaa.Dk
/- Words in a mark's sector: what word and putWord do. -/
namespace Go.Proofs.Ytdjpeebekpjiiaa.Dk
open Go Go.RowKit
set_option linter.unusedVariables false
set_option linter.unusedSimpArgs false

/-- A sector's bytes in a block. -/
def SecAt (w : World) (g : Nat) (l : List UInt8) : Prop := w.heap[g]? = some (.cells (bvs l).toArray 125 (0, 0)) ∧ l.length = 128
/-- The number that some bytes are, the lowest first. -/
def wordN (l : List UInt8) (at_ : Nat) : Nat → Nat
  | 0 => 0
  | i + 1 => wordN l at_ i + (l.getD (at_ + i) 0).toNat * 256 ^ i
theorem wordN_lt (l : List UInt8) (at_ : Nat) : ∀ i, wordN l at_ i < 256 ^ i
  | 0 => by simp [wordN]
  | i + 1 => by
    have ih := wordN_lt l at_ i
    have hb := (l.getD (at_ + i) 0).toNat_lt
    have h1 : (l.getD (at_ + i) 0).toNat * 256 ^ i ≤ 255 * 256 ^ i := Nat.mul_le_mul_right _ (by omega)
    rw [wordN, Nat.pow_succ]
    omega
theorem sec_cell {w : World} {g : Nat} {l : List UInt8} (h : SecAt w g l) {j : Nat} (hj : j < 128) : w.cell? ⟨g, j, none⟩ = some (.int .u8 ((l.getD j 0).toNat : Int)) := by
  rw [cell_of_row w g j _ _ _ h.1]
  have : j < l.length := by rw [h.2]; exact hj
  simp [bvs, bv, List.getD, this]
theorem word_or {l : List UInt8} (hl : l.length = 128) (at_ i : Nat) (hi : i < 8) :
    bits BinOp.or IntKind.u64 ((wordN l at_ i : Nat) : Int) (IntKind.u64.wrap (IntKind.u64.wrap (((l.getD (at_ + i) 0).toNat : Nat) : Int) * 2 ^ (8 * i))) = ((wordN l at_ (i + 1) : Nat) : Int) := by
  have h1 := wordN_lt l at_ i
  have h2 := wordN_lt l at_ (i + 1)
  have hb := (l.getD (at_ + i) 0).toNat_lt
  have e0 : (2 : Nat) ^ (8 * i) = 256 ^ i := by rw [Nat.pow_mul]
  have hp : (256 : Nat) ^ (i + 1) ≤ 256 ^ 8 := Nat.pow_le_pow_right (by decide) (by omega)
  have hp8 : (256 : Nat) ^ 8 = 18446744073709551616 := by decide
  have hm : (l.getD (at_ + i) 0).toNat * 256 ^ i < 18446744073709551616 := by
    rw [wordN] at h2
    omega
  have e1 : IntKind.u64.wrap (((l.getD (at_ + i) 0).toNat : Nat) : Int) = (((l.getD (at_ + i) 0).toNat : Nat) : Int) := by rw [IntKind.wrap_u64]; omega
  have e2 : IntKind.u64.wrap ((((l.getD (at_ + i) 0).toNat : Nat) : Int) * 2 ^ (8 * i)) = (((l.getD (at_ + i) 0).toNat * 256 ^ i : Nat) : Int) := by
    have e3 : (2 : Int) ^ (8 * i) = ((256 ^ i : Nat) : Int) := by rw [← e0]; simp
    rw [e3, ← Int.natCast_mul, IntKind.wrap_u64]
    omega
  rw [e1, e2, u64_or_nat _ _ (by omega) hm, Nat.or_comm, nat_join (8 * i) _ _ (by rw [e0]; exact Nat.mul_mod_left _ _) (by rw [e0]; exact h1), wordN]
  congr 1
  omega
def WoRel (l : List UInt8) (at_ : Nat) (w : World) (u v : Value) (wr : World) : Prop := ∃ i : Nat, u = .int .i64 (i : Int) ∧ v = .int .u64 ((wordN l at_ i : Nat) : Int) ∧ i ≤ 8 ∧ wr = w
set_option maxRecDepth 100000 in
set_option maxHeartbeats 1600000 in
theorem word_any {w : World} {g : Nat} {l : List UInt8} (h : SecAt w g l) (at_ : Nat) (hat : at_ + 8 ≤ 128) :
    Calls Try.prog 94 #[.pointer (some ⟨g, 0, none⟩), .int .i64 (at_ : Int)] w fun e w' => e = .returned (.int .u64 ((wordN l at_ 8 : Nat) : Int)) ∧ w = w' := by
  have H := Lib.hid h
  clear h
  go_enter Try.func94, Try.ntmps94
  go_wp2_with fail
  go_loopw [7, 5] (fun u v wr => WoRel l at_ w u v wr) (fun u _ _ => 8 - (intOf u).toNat)
  case atStart => exact ⟨0, rfl, rfl, Nat.zero_le _, rfl⟩
  case round =>
    obtain ⟨wo, rfl⟩ : ∃ wo : World, wo = wr := ⟨_, rfl⟩
    obtain ⟨i, rfl, rfl, hi, hwr⟩ := hrel
    obtain rfl := hwr.symm
    clear hwr
    by_cases hil : i < 8
    · have hii : (i : Int) < 8 := by omega
      have hc := sec_cell H.out (show at_ + i < 128 by omega)
      have hb1 : (at_ : Int) + (i : Int) < 128 := by omega
      have hatI : (at_ : Int) ≤ 120 := by omega
      have hor := word_or H.out.2 at_ i hil
      have RL := Lib.hid (show WoRel l at_ w (.int .i64 ((i + 1 : Nat) : Int)) (.int .u64 ((wordN l at_ (i + 1) : Nat) : Int)) w from ⟨i + 1, rfl, rfl, by omega, rfl⟩)
      have HOR := Lib.hid hor
      clear hor
      go_wp2_with fail
      rw [show l[at_ + i]?.getD 0 = l.getD (at_ + i) 0 from rfl, HOR.out]
      exact ⟨RL.out, by simp [intOf]; omega⟩
    · obtain rfl : i = 8 := by omega
      rw [show ((8 : Nat) : Int) = 8 from rfl]
      go_wp2_with fail
      go_ret
      exact ⟨rfl, rfl⟩
def leTo (n : Nat) : Nat → List UInt8
  | 0 => []
  | i + 1 => leTo n i ++ [UInt8.ofNat (n / 256 ^ i)]
theorem leTo_length (n : Nat) : ∀ i, (leTo n i).length = i
  | 0 => rfl
  | i + 1 => by rw [leTo, List.length_append, leTo_length n i]; rfl
/-- Bytes laid over others from a place on. -/
def lay8 (l : List UInt8) (at_ : Nat) (b : List UInt8) : List UInt8 := l.take at_ ++ (b ++ l.drop (at_ + b.length))
def PwRel (l : List UInt8) (at_ n g : Nat) (w : World) (u : Value) (wr : World) : Prop := ∃ i : Nat, u = .int .i64 (i : Int) ∧ i ≤ 8 ∧ SecAt wr g (lay8 l at_ (leTo n i)) ∧ Frm (fun k => k = g) w wr
theorem lay8_length {l b : List UInt8} {at_ : Nat} (h : at_ + b.length ≤ l.length) : (lay8 l at_ b).length = l.length := by
  unfold lay8
  rw [List.length_append, List.length_append, List.length_take, List.length_drop]
  omega
theorem lay8_snoc {l b : List UInt8} {at_ : Nat} {x : UInt8} (h : at_ + b.length < l.length) : (lay8 l at_ b).set (at_ + b.length) x = lay8 l at_ (b ++ [x]) := by
  unfold lay8
  have h1 : (l.take at_).length = at_ := by rw [List.length_take]; omega
  rw [List.set_append, if_neg (by rw [h1]; omega), h1, List.set_append, if_neg (by omega)]
  rw [show at_ + b.length - at_ - b.length = 0 by omega]
  have h2 : l.drop (at_ + b.length) = l[at_ + b.length] :: l.drop (at_ + b.length + 1) := List.drop_eq_getElem_cons h
  rw [h2, List.set_cons_zero, List.length_append]
  simp [List.append_assoc]
  rfl
set_option maxRecDepth 100000 in
set_option maxHeartbeats 1600000 in
theorem putWord_any {w : World} {g : Nat} {l : List UInt8} (h : SecAt w g l) (at_ n : Nat) (hat : at_ + 8 ≤ 128) (hn : n < 18446744073709551616) :
    Calls Try.prog 95 #[.pointer (some ⟨g, 0, none⟩), .int .i64 (at_ : Int), .int .u64 (n : Int)] w fun e w' => e = .returned (.tuple #[]) ∧ SecAt w' g (lay8 l at_ (leTo n 8)) ∧ Frm (fun k => k = g) w w' := by
  have H := Lib.hid h
  have HN := Lib.hid hn
  clear h hn
  have P0 := Lib.hid (show PwRel l at_ n g w (.int .i64 0) w from ⟨0, rfl, Nat.zero_le _, by simpa [lay8, leTo] using H.out, Frm.refl _ _⟩)
  go_enter Try.func95, Try.ntmps95
  go_wp2_with fail
  go_loopw [7] (fun u wr => PwRel l at_ n g w u wr) (fun u _ => 8 - (intOf u).toNat)
  case atStart => exact P0.out
  case round =>
    obtain ⟨wo, rfl⟩ : ∃ wo : World, wo = wr := ⟨_, rfl⟩
    obtain ⟨i, rfl, hi, hS, hF⟩ := hrel
    by_cases hil : i < 8
    · have hii : (i : Int) < 8 := by omega
      have hll := leTo_length n i
      have hl8 : (lay8 l at_ (leTo n i)).length = 128 := hS.2
      have e2 : (2 : Int) ^ (8 * i) = ((256 ^ i : Nat) : Int) := by
        have e1 : (2 : Nat) ^ (8 * i) = 256 ^ i := by rw [Nat.pow_mul]
        rw [← e1]; simp
      have hx : (n : Int) / 2 ^ (8 * i) % 256 = (((UInt8.ofNat (n / 256 ^ i)).toNat : Nat) : Int) := by
        rw [UInt8.toNat_ofNat', e2, ← Int.natCast_ediv]; omega
      have hc := sec_cell hS (show at_ + i < 128 by omega)
      have hf := frozen_of_row wo g (at_ + i) _ _ hS.1
      have hst := Go.Joins.block_setCell (i := at_ + i) hS.1 (.int .u8 (((UInt8.ofNat (n / 256 ^ i)).toNat : Nat) : Int))
      have hset : (bvs (lay8 l at_ (leTo n i))).toArray.setIfInBounds (at_ + i) (.int .u8 (((UInt8.ofNat (n / 256 ^ i)).toNat : Nat) : Int)) = (bvs (lay8 l at_ (leTo n (i + 1)))).toArray := by
        have h1 := bvs_set (lay8 l at_ (leTo n i)) (at_ + i) (UInt8.ofNat (n / 256 ^ i))
        have h2 := lay8_snoc (l := l) (b := leTo n i) (at_ := at_) (x := UInt8.ofNat (n / 256 ^ i)) (by rw [hll, H.out.2]; omega)
        rw [hll] at h2
        rw [h2] at h1
        exact h1
      rw [hset] at hst
      have RL := Lib.hid (fun q => show PwRel l at_ n g w (.int .i64 ((i + 1 : Nat) : Int)) ((wo.drewN q).setCell ⟨g, at_ + i, none⟩ (.int .u8 (((UInt8.ofNat (n / 256 ^ i)).toNat : Nat) : Int))) from
        ⟨i + 1, rfl, by omega, ⟨hst, by rw [lay8_length (by rw [leTo_length, H.out.2]; omega)]; exact H.out.2⟩, (hF.drewN q).setCell (p := ⟨g, at_ + i, none⟩) (.inl rfl) _⟩)
      have hb1 : (at_ : Int) + (i : Int) < 128 := by omega
      have hatI : (at_ : Int) ≤ 120 := by omega
      have HX := Lib.hid hx
      clear hst hset e2 hll hl8 hS hF P0 hx
      go_wp2_with fail
      (refine wp_region_quiet_tail 11 (by kernel_rfl) (by kernel_rfl) ?_; simp only [List.take_succ_cons, List.take_zero, List.drop_succ_cons, List.drop_zero]; (repeat (go_big_quiet_step (fail))); refine wpQuiet_nil ?_; intro _ hw'; obtain ⟨nq, hw''⟩ := hw'; subst hw'')
      go_wp2_with fail
      rw [HX.out]
      exact ⟨RL.out _, by simp [intOf]; omega⟩
    · obtain rfl : i = 8 := by omega
      rw [show ((8 : Nat) : Int) = 8 from rfl]
      have HS := Lib.hid hS
      have HF := Lib.hid hF
      clear hS hF P0
      go_wp2_with fail
      go_end0
      exact ⟨rfl, HS.out, HF.out⟩
end Go.Proofs.Ytdjpeebekpjiiaa.Dk
/- Wal's numbers: number, numberOf, toSegment, restAhead. -/
namespace Go.Proofs.Ytdjpeebekpjiiaa.Dk
open Go Go.RowKit
set_option linter.unusedVariables false
set_option linter.unusedSimpArgs false
theorem wseg_any (p : Nat) (hp : p < 18446744073709551616) (w : World) : Calls Try.prog 63 #[.int .u64 (p : Int)] w fun e w' => e = .returned (.int .i64 ((toSeg p : Nat) : Int)) ∧ w = w' := by
  have e : ((toSeg p : Nat) : Int) = 2048 - (p : Int) % 2048 := by unfold toSeg; omega
  rw [e]
  go_enter Try.func63, Try.ntmps63
  go_wp2
  go_ret
  exact ⟨rfl, rfl⟩
theorem wrest_any (p n : Nat) (hp : p < 18446744073709551616) (hn : n ≤ 1000000000) (w : World) : Calls Try.prog 69 #[.int .u64 (p : Int), .int .i64 (n : Int)] w fun e w' => e = .returned (.int .i64 ((restW p n : Nat) : Int)) ∧ w = w' := by
  have S := Lib.hid (wseg_any p hp w)
  have hs : toSeg p ≤ 2048 := by unfold toSeg; omega
  obtain ⟨t, ht⟩ : ∃ t, t = toSeg p := ⟨_, rfl⟩
  have hR : restW p n = if t < 9 + n then t else 0 := by unfold restW; rw [ht]
  rw [← ht] at S hs
  clear ht
  obtain ⟨R, hRR⟩ : ∃ R, R = restW p n := ⟨_, rfl⟩
  rw [← hRR] at hR ⊢
  clear hRR
  by_cases h : t < 9 + n
  · obtain rfl : R = t := by rw [hR, if_pos h]
    have h2 : (R : Int) < 9 + (n : Int) := by omega
    clear hR
    go_enter Try.func69, Try.ntmps69
    go_wp2_with (with_reducible refine S.out.mono ?_; rintro e w2 ⟨rfl, rfl⟩)
    go_ret
    exact ⟨rfl, rfl⟩
  · obtain rfl : R = 0 := by rw [hR, if_neg h]
    have h2 : ¬ (t : Int) < 9 + (n : Int) := by omega
    clear hR
    go_enter Try.func69, Try.ntmps69
    go_wp2_with (with_reducible refine S.out.mono ?_; rintro e w2 ⟨rfl, rfl⟩)
    go_ret
    exact ⟨rfl, rfl⟩
/-- A row of n noughts that was made. -/
theorem made_rowN {w w1 : World} {n : Nat} (hown : w1.ownsRow 0 5 1 (.slice (some ⟨w.heap.size, 0, none⟩) n n) n (madeCells #[Value.int .u8 0] n).toList) (hgrow : w.grownBy w1 none) :
    w1.heap[w.heap.size]? = some (.cells (bvs (List.replicate n 0)).toArray 5 (0, 0)) ∧ Below w.heap.size w w1 := by
  have b1 : Below w.heap.size w w1 := (Frm.refl (fun _ => False) w).grown hgrow (by intro j e; cases e) |>.below (fun _ _ h => h.elim) (Nat.le_refl _)
  refine ⟨?_, b1⟩
  rcases hown.2 with ⟨e, _⟩ | ⟨g, cap, cur, e, _, hb, hc1, hc2, hc3, hc4⟩
  · cases e
  · injection e with e3 e4 e5
    cases e3
    subst e5
    have e6 : bvs (List.replicate n 0) = List.replicate n (Value.int .u8 0) := by simp [bvs, bv]
    rw [hb, e6, ← made_u8 n]
    simp only [Nat.mul_one] at hc3 hc4
    have : cur.toList = (madeCells #[Value.int .u8 0] n).toList := by
      rw [← hc4.trans rfl, List.take_of_length_le (by simp [hc3])]
    rw [← this]
def NmRel (n s g : Nat) (w : World) (u : Value) (wr : World) : Prop := ∃ i : Nat, u = .int .i64 (i : Int) ∧ i ≤ s ∧ wr.heap[g]? = some (.cells (bvs (w8le n i ++ List.replicate (s - i) 0)).toArray 5 (0, 0)) ∧ Below w.heap.size w wr
set_option maxRecDepth 100000 in
set_option maxHeartbeats 4000000 in
theorem wnumber_any (n s : Nat) (hn : n < 18446744073709551616) (hs : s ≤ 8) (w : World) : Calls Try.prog 86 #[.int .u64 (n : Int), .int .i64 (s : Int)] w fun e w' => ∃ ko, e = .returned (.slice (some ⟨ko, 0, none⟩) s s) ∧ w'.heap[ko]? = some (.cells (bvs (w8le n s)).toArray 5 (0, 0)) ∧ w.heap.size ≤ ko ∧ Below w.heap.size w w' := by
  obtain ⟨i0, hi, hz0, hz1, hz2⟩ := info_parts Try.infoU8
  have HN := Lib.hid hn
  clear hn
  go_enter Try.func86, Try.ntmps86
  go_wp2_with (at_make; refine wpList_make_full _ rfl _ _ 37 rfl 0 5 i0 _ 1 Try.underlying37 hi hz0 hz1 _ _ _ _ s rfl rfl rfl rfl (by rw [hz2]; omega) (by unfold maxLen; omega) (by omega) ?_)
  intro w1 hown hgrow
  obtain ⟨hb, b1⟩ := made_rowN hown hgrow
  obtain ⟨g, hg⟩ : ∃ g, g = w.heap.size := ⟨_, rfl⟩
  rw [← hg] at hb ⊢
  have HG := Lib.hid hg
  have P0 := Lib.hid (show NmRel n s g w (.int .i64 0) w1 from ⟨0, rfl, Nat.zero_le _, by simpa [w8le] using hb, b1⟩)
  clear hown hgrow hb b1 hg
  go_wp2_with fail
  go_loopw [11] (fun u wr => NmRel n s g w u wr) (fun u _ => s - (intOf u).toNat)
  case atStart => exact P0.out
  case round =>
    obtain ⟨wo, rfl⟩ : ∃ wo : World, wo = wr := ⟨_, rfl⟩
    obtain ⟨i, rfl, hi, hrow, hbw⟩ := hrel
    by_cases hil : i < s
    · have hii : (i : Int) < (s : Int) := by omega
      have hll := w8le_length n i
      have e2 : (2 : Int) ^ (8 * i) = ((256 ^ i : Nat) : Int) := by
        have e1 : (2 : Nat) ^ (8 * i) = 256 ^ i := by rw [Nat.pow_mul]
        rw [← e1]; simp
      have hx : (n : Int) / 2 ^ (8 * i) % 256 = (((UInt8.ofNat (n / 256 ^ i)).toNat : Nat) : Int) := by
        rw [UInt8.toNat_ofNat', e2, ← Int.natCast_ediv]; omega
      have hc : wo.cell? ⟨g, i, none⟩ = some (bv ((w8le n i ++ List.replicate (s - i) 0).getD i 0)) := by
        rw [cell_of_row wo g i _ _ _ hrow]
        have hl : i < (w8le n i ++ List.replicate (s - i) (0 : UInt8)).length := by rw [List.length_append, hll, List.length_replicate]; omega
        rw [List.getElem?_toArray, bvs, List.getElem?_map, List.getElem?_eq_getElem hl, Option.map_some, List.getD, List.getElem?_eq_getElem hl, Option.getD_some]
      have hf : wo.frozen? ⟨g, i, none⟩ = false := frozen_of_row wo g i _ _ hrow
      have hr2 := Go.Joins.block_setCell (i := i) hrow (bv (UInt8.ofNat (n / 256 ^ i)))
      rw [bvs_set] at hr2
      have hset : (w8le n i ++ List.replicate (s - i) (0 : UInt8)).set i (UInt8.ofNat (n / 256 ^ i)) = w8le n (i + 1) ++ List.replicate (s - (i + 1)) 0 := by
        rw [List.set_append, if_neg (by rw [hll]; omega), hll, Nat.sub_self, show s - i = (s - (i + 1)) + 1 by omega, List.replicate_succ, List.set_cons_zero, w8le, List.append_assoc]
        rfl
      rw [hset] at hr2
      have hb2 := hbw.setCell (p := ⟨g, i, none⟩) (by have := HG.out; simp; omega) (bv (UInt8.ofNat (n / 256 ^ i)))
      have RL := Lib.hid (show NmRel n s g w (.int .i64 ((i + 1 : Nat) : Int)) (wo.setCell ⟨g, i, none⟩ (bv (UInt8.ofNat (n / 256 ^ i)))) from ⟨i + 1, rfl, by omega, hr2, hb2⟩)
      have HX := Lib.hid hx
      clear hr2 hb2 hrow hbw hset e2 hx hll
      obtain ⟨oldv, hov⟩ : ∃ v, v = bv ((w8le n i ++ List.replicate (s - i) 0).getD i 0) := ⟨_, rfl⟩
      rw [← hov] at hc
      clear hov
      unfold bv at *
      go_wp2_with fail
      rw [HX.out]
      exact ⟨RL.out, by simp [intOf]; omega⟩
    · obtain rfl : i = s := by omega
      have q1 : ¬ (i : Int) < (i : Int) := by omega
      rw [Nat.sub_self, List.replicate_zero, List.append_nil] at hrow
      have HR := Lib.hid hrow
      have HBW := Lib.hid hbw
      clear hrow hbw
      go_wp2_with fail
      go_ret
      exact ⟨g, rfl, HR.out, by have := HG.out; omega, HBW.out⟩
/-- The number that the first i bytes are. -/
def numTo (l : List UInt8) : Nat → Nat
  | 0 => 0
  | i + 1 => numTo l i + (l.getD i 0).toNat * 256 ^ i
theorem numTo_lt (l : List UInt8) : ∀ i, numTo l i < 256 ^ i
  | 0 => by simp [numTo]
  | i + 1 => by
    have ih := numTo_lt l i
    have hb := (l.getD i 0).toNat_lt
    have h1 : (l.getD i 0).toNat * 256 ^ i ≤ 255 * 256 ^ i := Nat.mul_le_mul_right _ (by omega)
    rw [numTo, Nat.pow_succ]
    omega
theorem numTo_cons (b : UInt8) (l : List UInt8) : ∀ i, numTo (b :: l) (i + 1) = b.toNat + 256 * numTo l i
  | 0 => by simp [numTo]
  | i + 1 => by
    rw [numTo, numTo_cons b l i, numTo, List.getD_cons_succ, Nat.pow_succ, Nat.mul_add]
    rw [Nat.mul_comm 256 ((l.getD i 0).toNat * 256 ^ i), Nat.mul_assoc]
    omega
theorem numTo_all : ∀ l : List UInt8, numTo l l.length = w8num l
  | [] => rfl
  | b :: l => by rw [List.length_cons, numTo_cons, numTo_all l]; rfl
theorem num_or {l : List UInt8} (i : Nat) (hi : i < 8) :
    bits BinOp.or IntKind.u64 ((numTo l i : Nat) : Int) (IntKind.u64.wrap ((((l.getD i 0).toNat : Nat) : Int) * 2 ^ (8 * i))) = ((numTo l (i + 1) : Nat) : Int) := by
  have h1 := numTo_lt l i
  have h2 := numTo_lt l (i + 1)
  have hb := (l.getD i 0).toNat_lt
  have e0 : (2 : Nat) ^ (8 * i) = 256 ^ i := by rw [Nat.pow_mul]
  have hp : (256 : Nat) ^ (i + 1) ≤ 256 ^ 8 := Nat.pow_le_pow_right (by decide) (by omega)
  have hp8 : (256 : Nat) ^ 8 = 18446744073709551616 := by decide
  have hm : (l.getD i 0).toNat * 256 ^ i < 18446744073709551616 := by
    rw [numTo] at h2
    omega
  have e2 : IntKind.u64.wrap ((((l.getD i 0).toNat : Nat) : Int) * 2 ^ (8 * i)) = (((l.getD i 0).toNat * 256 ^ i : Nat) : Int) := by
    have e3 : (2 : Int) ^ (8 * i) = ((256 ^ i : Nat) : Int) := by rw [← e0]; simp
    rw [e3, ← Int.natCast_mul, IntKind.wrap_u64]
    omega
  rw [e2, u64_or_nat _ _ (by omega) hm, Nat.or_comm, nat_join (8 * i) _ _ (by rw [e0]; exact Nat.mul_mod_left _ _) (by rw [e0]; exact h1), numTo]
  congr 1
  omega
def NoRel (l : List UInt8) (w : World) (v u : Value) (wr : World) : Prop := ∃ i : Nat, u = .int .i64 (i : Int) ∧ v = .int .u64 ((numTo l i : Nat) : Int) ∧ i ≤ l.length ∧ wr = w
set_option maxRecDepth 100000 in
set_option maxHeartbeats 4000000 in
theorem wnumOf_any {w : World} {ao : Option Addr} {c : Nat} {l : List UInt8} (h : Sl w (.slice ao l.length c) l) (hl : l.length ≤ 8) :
    Calls Try.prog 83 #[.slice ao l.length c] w fun e w' => e = .returned (.int .u64 ((w8num l : Nat) : Int)) ∧ w = w' := by
  obtain ⟨ao', c', he, hno, hs⟩ := h
  injection he with he1 he2 he3
  subst he1
  have HS := Lib.hid hs
  have HNO := Lib.hid hno
  have HL := Lib.hid (numTo_all l)
  clear hs hno he2 he3
  go_enter Try.func83, Try.ntmps83
  go_wp2_with fail
  go_loopw [3, 8] (fun v u wr => NoRel l w v u wr) (fun _ u _ => l.length - (intOf u).toNat)
  case atStart => exact ⟨0, rfl, rfl, Nat.zero_le _, rfl⟩
  case round =>
    obtain ⟨wo, rfl⟩ : ∃ wo : World, wo = wr := ⟨_, rfl⟩
    obtain ⟨i, rfl, rfl, hi, hwr⟩ := hrel
    obtain rfl := hwr.symm
    clear hwr
    by_cases hil : i < l.length
    · obtain ⟨ad, rfl⟩ : ∃ ad, ao = some ad := by
        cases ao with
        | none => have := HNO.out rfl; rw [this] at hil; simp at hil
        | some ad => exact ⟨ad, rfl⟩
      have hii : (i : Int) < (l.length : Int) := by omega
      have hc := HS.out ad rfl i (bv (l.getD i 0)) (by simp [bvs, List.getD, hil])
      unfold bv at hc
      have hb1 : (i : Int) < 8 := by omega
      have hor := num_or (l := l) i (by omega)
      have RL := Lib.hid (show NoRel l w (.int .u64 ((numTo l (i + 1) : Nat) : Int)) (.int .i64 ((i + 1 : Nat) : Int)) w from ⟨i + 1, rfl, rfl, by omega, rfl⟩)
      have HOR := Lib.hid hor
      obtain ⟨bt, hbt⟩ : ∃ b, b = (l.getD i 0).toNat := ⟨_, rfl⟩
      rw [← hbt] at hc HOR
      have hb2 : bt < 256 := by rw [hbt]; exact (l.getD i 0).toNat_lt
      obtain ⟨nt, hnt⟩ : ∃ b, b = numTo l i := ⟨_, rfl⟩
      rw [← hnt] at HOR ⊢
      clear hor hbt hnt
      go_wp2_with fail
      rw [HOR.out]
      exact ⟨RL.out, by simp [intOf]; omega⟩
    · obtain rfl : i = l.length := by omega
      have q1 : ¬ (l.length : Int) < (l.length : Int) := by omega
      have hLL := HL.out
      obtain ⟨nt, hnt⟩ : ∃ b, b = numTo l l.length := ⟨_, rfl⟩
      rw [← hnt] at hLL ⊢
      have HLL := Lib.hid hLL
      clear hnt HL hLL
      go_wp2_with fail
      go_ret
      exact ⟨by rw [← HLL.out]; rfl, rfl⟩
end Go.Proofs.Ytdjpeebekpjiiaa.Dk
