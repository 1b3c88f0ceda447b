/- What a ring's call write leaves. -/
import Derived.Test.YtllnaocnojhlkaaUa
import Derived.Laws.CopyOwn
import Derived.OwnWalk
namespace Go.Proofs.Ytllnaocnojhlkaa.Dk
open Go Go.RowKit
set_option linter.unusedVariables false
set_option linter.unusedSimpArgs false

/-- The bytes b are laid over sectors from that of the byte at_ on, until one can't be written. -/
def lays (first count : Nat) : Nat → DS → Nat → List UInt8 → DS × Int
  | 0, x, _, _ => (x, 0)
  | f + 1, x, at_, b =>
    if b = [] then (x, 0)
    else if x.wcode (sec first count at_ : Nat) 128 = 0 then lays first count f (x.write (sec first count at_ : Nat) (pad b)) (at_ + 128) (b.drop 128)
    else (x.write (sec first count at_ : Nat) (pad b), x.wcode (sec first count at_ : Nat) 128)
theorem lays_nil (first count f : Nat) (x : DS) (at_ : Nat) : lays first count f x at_ [] = (x, 0) := by
  cases f <;> simp [lays]
theorem lays_step {first count f : Nat} {x : DS} {at_ o cn : Nat} {b : List UInt8} (ho : o < b.length) (hcn : cn = min (b.length - o) 128) (hc : x.wcode (sec first count (at_ + o) : Nat) 128 = 0) :
    lays first count (f + 1) x (at_ + o) (b.drop o) = lays first count f (x.write (sec first count (at_ + o) : Nat) (pad (b.drop o))) (at_ + (o + cn)) (b.drop (o + cn)) := by
  have hne : b.drop o ≠ [] := by
    intro e
    have := congrArg List.length e
    simp at this
    omega
  rw [lays, if_neg hne, if_pos hc, List.drop_drop]
  by_cases h : 128 ≤ b.length - o
  · have : cn = 128 := by omega
    rw [this, Nat.add_assoc]
  · have e1 : b.drop (o + 128) = [] := List.drop_eq_nil_of_le (by omega)
    have e2 : b.drop (o + cn) = [] := List.drop_eq_nil_of_le (by omega)
    rw [e1, e2, lays_nil, lays_nil]
theorem lays_stop {first count f : Nat} {x : DS} {at_ o : Nat} {b : List UInt8} (ho : o < b.length) (hc : ¬ x.wcode (sec first count (at_ + o) : Nat) 128 = 0) :
    lays first count (f + 1) x (at_ + o) (b.drop o) = (x.write (sec first count (at_ + o) : Nat) (pad (b.drop o)), x.wcode (sec first count (at_ + o) : Nat) 128) := by
  have hne : b.drop o ≠ [] := by
    intro e
    have := congrArg List.length e
    simp at this
    omega
  rw [lays, if_neg hne, if_neg hc]
/-- Where the loop of write stands. -/
structure WrRel (w : World) (r d k g m first count tail n base : Nat) (S : List UInt8) (t : TypeId) (kb c : Nat) (b : List UInt8) (X : DS × Int) (vb va vs : Value) (wr : World) (o : Nat) : Prop where
  le : o ≤ b.length
  hb : ∃ ao c', vb = .slice ao (b.length - o) c' ∧ (o < b.length → ao = some ⟨kb, o, none⟩ ∧ b.length - o ≤ c')
  ha : va = .int .u64 ((base + o : Nat) : Int)
  hs : (o = 0 ∧ vs = .slice none 0 0) ∨ ∃ ks, vs = .slice (some ⟨ks, 0, none⟩) 128 128 ∧ w.heap.size ≤ ks ∧ wr.heap[ks]? = some (.cells (bvs (pad (b.drop ((o - 1) / 128 * 128)))).toArray 5 (0, 0))
  al : o % 128 = 0 ∨ o = b.length
  dk : ∃ f x, b.length - o ≤ f ∧ X = lays first count f x (base + o) (b.drop o) ∧ DiskAt Try.prog wr d g m (n + o) x
  rg : RingAt wr r d k first count tail S t
  fr : Frm (own3 d g m) w wr
theorem pad_splice (xs : List UInt8) : splice (List.replicate 128 (Value.int .u8 0)) 0 (bvs (xs.take 128)) = bvs (pad xs) := by
  have e1 : bvs (List.replicate (128 - xs.length) 0) = List.replicate (128 - xs.length) (Value.int .u8 0) := by simp [bvs, bv]
  unfold splice pad
  rw [bvs_append, bvs_length, e1, List.take_zero, List.nil_append, List.drop_replicate, List.length_take]
  congr 2
  omega
/-- A row of 128 noughts that was just made. -/
theorem made_row {w w1 : World} (hown : w1.ownsRow 0 5 1 (.slice (some ⟨w.heap.size, 0, none⟩) 128 128) 128 (madeCells #[.int .u8 0] (128 * 1)).toList) :
    w1.heap[w.heap.size]? = some (.cells (List.replicate 128 (Value.int .u8 0)).toArray 5 (0, 0)) := by
  rcases hown.2 with ⟨e, _⟩ | ⟨g, cap, cur, e, _, hb, hc1, hc2, hc3, hc4⟩
  · cases e
  · injection e with e3 e4 e5
    cases e3
    subst e5
    rw [hb, ← made_u8 128]
    simp only [Nat.mul_one] at hc3 hc4
    have : cur.toList = (madeCells #[Value.int .u8 0] 128).toList := by
      rw [← hc4.trans rfl, List.take_of_length_le (by simp [hc3])]
    rw [← this]
def lenOf (v : Value) : Nat := match v with | .slice _ n _ => n | _ => 0
theorem keep_pre {w : World} {r d k' first count tail : Nat} {v4 : Value} {S' : List UInt8} {t' : TypeId} (hblk : w.heap[r]? = some (.cells #[.pointer (some ⟨d, 0, none⟩), .int .i64 (first : Int), .int .i64 (count : Int), .int .u64 (tail : Int), v4] 115 (0, 0)))
    (hr : w.heap[k']? = some (.cells (bvs S').toArray t' (0, 0))) (hl : S'.length = 128) (hne : r ≠ k') (hcnt : 1 ≤ count) (hfew : first + count ≤ 4096) (htl : tail < 18446744073709551616) :
    Calls Try.prog 49 #[.pointer (some ⟨r, 0, none⟩), .slice (some ⟨k', 0, none⟩) 128 128] w fun e w' => e = .returned (.tuple #[]) ∧ RingAt w' r d k' first count tail S' t' ∧ Frm (fun i => i = r) w w' := by
  have q3 : w.cell? ⟨r, 3, none⟩ = some (.int .u64 (tail : Int)) := by rw [cell_of_row w r 3 _ _ _ hblk]; rfl
  have q4 : w.cell? ⟨r, 4, none⟩ = some v4 := by rw [cell_of_row w r 4 _ _ _ hblk]; rfl
  have f4 : w.frozen? ⟨r, 4, none⟩ = false := frozen_of_row w r 4 _ _ hblk
  have IS := Lib.hid (inSector_any tail htl w)
  have hm : tail % 128 < 128 := Nat.mod_lt _ (by decide)
  generalize hq : tail % 128 = q at *
  have hqi : (q : Int) ≤ 128 := by omega
  have R := Lib.hid (show RingAt (w.setCell ⟨r, 4, none⟩ (.slice (some ⟨k', 0, none⟩) q q)) r d k' first count tail S' t' from
    ⟨by have := Go.Joins.block_setCell (i := 4) hblk (.slice (some ⟨k', 0, none⟩) q q)
        rw [hq]
        simpa using this, (Below.heap_setCell w ⟨r, 4, none⟩ _ k' (fun e => hne e.symm)).trans hr, hl, hne, hcnt, hfew, htl⟩)
  clear hblk hr hq hm htl
  go_enter Try.func49, Try.ntmps49
  go_wp2_with (go_at_call 50; refine IS.out.mono ?_; rintro e w' ⟨rfl, rfl⟩)
  go_end0
  exact ⟨rfl, R.out, (Frm.refl (fun i => i = r) w).setCell (p := ⟨r, 4, none⟩) (.inl rfl) _⟩
set_option maxRecDepth 100000 in
set_option maxHeartbeats 4000000 in
theorem rwrite_any {w : World} {r d k first count tail : Nat} {S : List UInt8} {t : TypeId} (h : RingAt w r d k first count tail S t) (ht : tail ≤ 4611686018427387904)
    {g m n : Nat} {x : DS} (hD : DiskAt Try.prog w d g m n x) (hr : ¬ own3 d g m r) (hk : ¬ own3 d g m k) {kb c : Nat} {b : List UInt8} (hb : w.rangeAt kb 0 (bvs b)) (hkb : ¬ own3 d g m kb) (hc : b.length ≤ c) (hb0 : 0 < b.length) (hbl : b.length ≤ 1000000) (hnn : n ≤ 1000000000) :
    Calls Try.prog 52 #[.pointer (some ⟨r, 0, none⟩), .slice (some ⟨kb, 0, none⟩) b.length c] w fun e w' => e = .returned (.int .i64 (lays first count b.length x (tail - tail % 128) b).2) ∧
      DiskAt Try.prog w' d g m (n + b.length) (lays first count b.length x (tail - tail % 128) b).1 ∧ Frm (fun i => i = r ∨ own3 d g m i) w w' ∧
      ((lays first count b.length x (tail - tail % 128) b).2 = 0 → ∃ ks, w.heap.size ≤ ks ∧ RingAt w' r d ks first count (tail - tail % 128 + b.length) (pad (b.drop ((b.length - 1) / 128 * 128))) 5) ∧
      ((lays first count b.length x (tail - tail % 128) b).2 ≠ 0 → RingAt w' r d k first count tail S t) := by
  obtain ⟨i0, hi, hz0, hz1, hz2⟩ := info_parts Try.infoU8
  have q3 := h.q3
  have q4 := h.q4
  obtain ⟨base, hbase⟩ : ∃ base, base = tail - tail % 128 := ⟨_, rfl⟩
  obtain ⟨X, hX⟩ : ∃ X, X = lays first count b.length x base b := ⟨_, rfl⟩
  rw [← hbase, ← hX]
  have H := Lib.hid h
  have HD := Lib.hid hD
  have HR := Lib.hid hr
  have HK := Lib.hid hk
  have HB := Lib.hid hb
  have HKB := Lib.hid hkb
  have HX := Lib.hid hX
  have HT := Lib.hid ht
  have HBS := Lib.hid hbase
  have hm := Nat.mod_lt tail (show 0 < 128 by decide)
  generalize hq : tail % 128 = q at *
  have HQ := Lib.hid hq
  clear h hD hr hk hb hkb hX ht hbase hq
  go_enter Try.func52, Try.ntmps52
  go_wp2_with fail
  go_quiet (fail)
  have ebase : IntKind.u64.wrap ((tail : Int) - (q : Int)) = ((base + 0 : Nat) : Int) := by
    have := HBS.out
    have := HT.out
    have := HQ.out
    have := Nat.mod_le tail 128
    rw [IntKind.wrap_u64]
    omega
  rw [ebase]
  have R0 := Lib.hid (show WrRel w r d k g m first count tail n base S t kb c b X (.slice (some ⟨kb, 0, none⟩) b.length c) (.int .u64 ((base + 0 : Nat) : Int)) (.slice none 0 0) (w.drewN nq) 0 from
    ⟨Nat.zero_le _, ⟨_, _, rfl, fun _ => ⟨rfl, hc⟩⟩, rfl, .inl ⟨rfl, rfl⟩, .inl rfl, ⟨b.length, x, by omega, HX.out, HD.out.drewN nq⟩, H.out.keep rfl rfl, (Frm.refl _ _).drewN nq⟩)
  clear ebase
  go_wp2_with fail
  go_loopw [1, 5, 6] (fun vb va vs wr => ∃ o, WrRel w r d k g m first count tail n base S t kb c b X vb va vs wr o) (fun vb _ _ _ => lenOf vb)
  case atStart => exact ⟨0, R0.out⟩
  case round =>
    obtain ⟨wo, rfl⟩ : ∃ wo : World, wo = wr := ⟨_, rfl⟩
    obtain ⟨o, rel⟩ := hrel
    obtain ⟨hle, ⟨ao, c', rfl, hao⟩, rfl, hs, hal, ⟨f, y, hf, hXy, hDy⟩, hRg, hFr⟩ := rel
    have HS := Lib.hid hs
    have HAL := Lib.hid hal
    have HXY := Lib.hid hXy
    have HDY := Lib.hid hDy
    have HRG := Lib.hid hRg
    have HFR := Lib.hid hFr
    have HFF := Lib.hid hf
    by_cases hol : o < b.length
    · obtain ⟨rfl, hc'⟩ := hao hol
      have hpos : (0 : Int) < ((b.length - o : Nat) : Int) := by omega
      clear hs hal hXy hDy hFr hf R0
      go_wp2_with (at_make; refine wpList_make_full _ rfl _ _ 32 rfl 0 5 i0 _ 1 Try.underlying32 hi hz0 hz1 _ _ _ _ 128 rfl rfl rfl rfl (by rw [hz2]; omega) (by unfold maxLen; omega) (by omega) ?_)
      intro w1 hown hgrow
      have hb1 := made_row hown
      have b1 : Below wo.heap.size wo w1 := (Frm.refl (fun _ => False) wo).grown hgrow (by intro j e; cases e) |>.below (fun _ _ h => h.elim) (Nat.le_refl _)
      have hz1' : wo.heap.size < w1.heap.size := lt_of_row hb1
      obtain ⟨ks, hks⟩ : ∃ ks, ks = wo.heap.size := ⟨_, rfl⟩
      rw [← hks] at hb1 hz1' ⊢
      have KS := Lib.hid hks
      have B1 := Lib.hid b1
      have HB1 := Lib.hid hb1
      have hcl : (bvs ((b.drop o).take 128)).length = Nat.min (b.length - o) 128 := by rw [bvs_length, List.length_take, List.length_drop]; exact Nat.min_comm _ _
      have hsrc : 0 < (bvs ((b.drop o).take 128)).length → (some ⟨ks, 0, none⟩ : Option Addr) = some ⟨ks, 0, none⟩ ∧ ∃ ad, (some ⟨kb, o, none⟩ : Option Addr) = some ad ∧ ∀ j v, (bvs ((b.drop o).take 128))[j]? = some v → w1.cell? (ad.add j) = some v := by
        intro _
        refine ⟨rfl, _, rfl, fun j v hv => ?_⟩
        have hv2 : (bvs b)[o + j]? = some v := by
          simp only [bvs, List.map_take, List.map_drop, List.getElem?_take, List.getElem?_drop] at hv
          split at hv
          · simpa [bvs] using hv
          · cases hv
        have h0 := HB.out (o + j) v hv2
        rw [Nat.zero_add] at h0
        have hlt := block_lt_of_cell h0
        rw [Addr.add_mid]
        have h1 := (World.cell?_of_block (a := ⟨kb, o + j, none⟩) (HFR.out.block kb hlt HKB.out)).trans h0
        exact (World.cell?_of_block (a := ⟨kb, o + j, none⟩) (b1.block kb (Nat.lt_of_lt_of_le hlt HFR.out.size))).trans h1
      have hfit : 0 + (bvs ((b.drop o).take 128)).length ≤ (List.replicate 128 (Value.int .u8 0)).length := by rw [hcl]; simp; exact Nat.min_le_right _ _
      have HN := Lib.hid hcl
      have HC := Lib.hid hsrc
      have HF := Lib.hid hfit
      have HP := Lib.hid (pad_splice (b.drop o))
      clear hown hgrow hb1 b1 hz1' hks hcl hsrc hfit
      go_wp2_with (with_reducible show wpList _ _ _ _ _ _; refine wpList_copy_splice rfl (.tmp 24) (.tmp 25) 32 32 rfl 5 Try.underlying32 (by kernel_rfl) (some ⟨ks, 0, none⟩) (some ⟨kb, o, none⟩) 128 128 (b.length - o) c' rfl rfl ks 0 (List.replicate 128 (Value.int .u8 0)) 5 HB1.out (bvs ((b.drop o).take 128)) HN.out HC.out HF.out (bvs_one _) wo.heap.size wo B1.out (by rw [← KS.out]; exact Nat.le_refl _) ?_)
      intro w2 HG hb2
      have HG := Lib.hid (show w2.heap[ks]? = some (.cells (bvs (pad (b.drop o))).toArray 5 (0, 0)) from by rw [← HP.out]; exact HG.out)
      rw [HN.out]
      obtain ⟨cn, hcn⟩ : ∃ cn, cn = Nat.min (b.length - o) 128 := ⟨_, rfl⟩
      rw [← hcn]
      have CN := Lib.hid (show cn = min (b.length - o) 128 from hcn)
      obtain ⟨sc, hsc⟩ : ∃ sc, sc = sec first count (base + o) := ⟨_, rfl⟩
      have SC := Lib.hid hsc
      have D2 := Lib.hid (HDY.out.below hb2 (Nat.le_refl _))
      have G2 := Lib.hid (HRG.out.below hb2 (Nat.le_refl _))
      have F2 := Lib.hid (HFR.out.thenBelow hb2 (Nat.le_refl _))
      have hbo : base + o < 18446744073709551616 := by have := HBS.out; have := HT.out; omega
      have RS := Lib.hid (show ∀ n, Calls Try.prog 48 #[.pointer (some ⟨r, 0, none⟩), .int .u64 ((base : Int) + (o : Int))] (w2.drewN n) fun e w' => e = .returned (.int .i64 (sc : Int)) ∧ ∃ m, w' = (w2.drewN n).drewN m from fun n => by
        have h1 := rsector_any (G2.out.keep (w' := w2.drewN n) rfl rfl) (base + o) hbo
        rw [← hsc] at h1
        rw [← Int.natCast_add]
        exact h1)
      have q0 := G2.out.q0
      have hsb : sc < 4096 := by
        rw [hsc]
        unfold sec
        have := Nat.mod_lt ((base + o) / 128) (show 0 < count by have := HRG.out.cnt; omega)
        have := HRG.out.few
        omega
      have hksn : ¬ own3 d g m ks := fun h => by have := h.elim (fun h => h ▸ HDY.out.dlt) (fun h => h.elim (fun h => h ▸ HDY.out.glt) (fun h => h ▸ HDY.out.mlt)); have := KS.out; omega
      have WR := Lib.hid (fun n => write_own (D2.out.drewN n) (by unfold maxLen; omega) (sc : Int) (WalkArith.wf_i64 (by omega)) ⟨ks, rfl, HG.out, pad_length _, hksn⟩)
      clear hb2 hcn hsc hbo hsb hksn HC HF HN HB1
      go_wp2_with fail
      refine wp_region_quiet_tail 8 (by kernel_rfl) (by kernel_rfl) ?_
      simp only [List.take_succ_cons, List.take_zero, List.drop_succ_cons, List.drop_zero]
      (repeat (go_big_quiet_step (first | (go_at_call 48; refine Calls.quiet_of (RS.out _)))))
      refine wpQuiet_nil ?_
      intro _ hw'
      obtain ⟨nq2, hw''⟩ := hw'
      subst hw''
      obtain ⟨f', rfl⟩ : ∃ f', f = f' + 1 := ⟨f - 1, by have := HFF.out; omega⟩
      have cnb := Lib.hid (show 1 ≤ cn ∧ cn ≤ 128 ∧ o + cn ≤ b.length ∧ (cn = 128 ∨ o + cn = b.length) from by
        have h1 := CN.out
        omega)
      have hcni : (cn : Int) ≤ ((b.length - o : Nat) : Int) := by have := cnb.out; omega
      by_cases hcode : y.wcode (sc : Int) 128 = 0
      · have LS := Lib.hid (lays_step (f := f') (at_ := base) hol CN.out (by rw [← SC.out]; exact hcode))
        go_wp2_with (go_at_call 32; refine (WR.out nq2).mono ?_; rintro e w3 ⟨rfl, hD3, hF3⟩; rw [hcode])
        all_goals
          have hcn := cnb.out
          have hrel : ∀ ao'' c'', (o + cn < b.length → ao'' = some ⟨kb, o + cn, none⟩ ∧ b.length - (o + cn) ≤ c'') → WrRel w r d k g m first count tail n base S t kb c b X (.slice ao'' (b.length - o - cn) c'') (.int .u64 (IntKind.u64.wrap ((base : Int) + (o : Int) + (cn : Int)))) (.slice (some ⟨ks, 0, none⟩) 128 128) w3 (o + cn) := by
            intro ao'' c'' hq
            refine ⟨by omega, ⟨ao'', c'', by rw [Nat.sub_sub], hq⟩, ?_, .inr ⟨ks, rfl, ?_, ?_⟩, ?_, ⟨f', y.write (sc : Int) (pad (b.drop o)), ?_, ?_, ?_⟩, ?_, ?_⟩
            · have := HBS.out; have := HT.out
              congr 1
              rw [IntKind.wrap_u64]
              omega
            · have := KS.out; have := HFR.out.size; omega
            · have e : (o + cn - 1) / 128 * 128 = o := by
                rcases HAL.out with h | h
                · omega
                · omega
              rw [e]
              have hksn : ¬ own3 d g m ks := fun h => by have := h.elim (fun h => h ▸ HDY.out.dlt) (fun h => h.elim (fun h => h ▸ HDY.out.glt) (fun h => h ▸ HDY.out.mlt)); have := KS.out; omega
              exact (hF3.block ks (lt_of_row HG.out) hksn).trans HG.out
            · rcases HAL.out with h | h
              · omega
              · omega
            · have := HFF.out; omega
            · rw [HXY.out, LS.out, ← SC.out]
            · exact hD3.mono (by omega)
            · exact (G2.out.keep (w' := w2.drewN nq2) rfl rfl).frame hF3 HR.out HK.out
            · exact (F2.out.drewN nq2).trans hF3
          refine ⟨⟨_, _, _, _, ⟨o + cn, hrel _ _ ?_⟩, rfl, rfl, rfl, rfl⟩, ?_⟩
          · intro h
            first
              | exact ⟨rfl, by omega⟩
              | (exfalso; omega)
          · simp only [lenOf]
            omega
      · have LS := Lib.hid (lays_stop (f := f') (at_ := base) hol (by rw [← SC.out]; exact hcode))
        have hcb : (y.wcode (sc : Int) 128 == 0) = false := by simpa using hcode
        go_wp2_with (go_at_call 32; refine (WR.out nq2).mono ?_; rintro e w3 ⟨rfl, hD3, hF3⟩)
        go_ret
        have hXX : X = (y.write (sc : Int) (pad (b.drop o)), y.wcode (sc : Int) 128) := by rw [HXY.out, LS.out, ← SC.out]
        refine ⟨by rw [hXX]; rfl, ?_, ?_, ?_, ?_⟩
        · rw [hXX]; exact hD3.mono (by omega)
        · exact ((F2.out.drewN nq2).trans hF3).mono (fun i _ h => .inr h)
        · rw [hXX]; intro h; exact absurd h hcode
        · intro _; exact (G2.out.keep (w' := w2.drewN nq2) rfl rfl).frame hF3 HR.out HK.out
    · obtain rfl : o = b.length := by omega
      have eX : X = (y, 0) := by rw [HXY.out, List.drop_length, lays_nil]
      have EX := Lib.hid eX
      rcases HS.out with ⟨h, _⟩ | ⟨ks, rfl, hks, hrow⟩
      · omega
      · clear eX hs
        have e0 : base % 128 = 0 := by have := HBS.out; have := HQ.out; omega
        have htl : base + b.length < 18446744073709551616 := by have := HBS.out; have := HT.out; omega
        have q3o := hRg.q3
        have f3o := hRg.free 3
        have hne : r ≠ ks := fun e => by have := H.out.rlt; omega
        have K := Lib.hid (keep_pre (w := wo.setCell ⟨r, 3, none⟩ (.int .u64 ((base : Int) + (b.length : Int)))) (tail := base + b.length) (by
            have := Go.Joins.block_setCell (i := 3) hRg.blk (.int .u64 ((base : Int) + (b.length : Int)))
            simpa using this) ((Below.heap_setCell wo ⟨r, 3, none⟩ _ ks (fun e => hne e.symm)).trans hrow) (pad_length _) hne hRg.cnt hRg.few htl)
        have D9 := Lib.hid (show DiskAt Try.prog (wo.setCell ⟨r, 3, none⟩ (.int .u64 ((base : Int) + (b.length : Int)))) d g m (n + b.length) y from
          hDy.keep (Below.heap_setCell wo ⟨r, 3, none⟩ _ d (fun e => HR.out (.inl e.symm))) (Below.heap_setCell wo ⟨r, 3, none⟩ _ g (fun e => HR.out (.inr (.inl e.symm)))) (Below.heap_setCell wo ⟨r, 3, none⟩ _ m (fun e => HR.out (.inr (.inr e.symm)))))
        have F9 := Lib.hid (show Frm (fun i => i = r ∨ own3 d g m i) w (wo.setCell ⟨r, 3, none⟩ (.int .u64 ((base : Int) + (b.length : Int)))) from (hFr.mono (fun i _ h => .inr h)).setCell (p := ⟨r, 3, none⟩) (.inl (.inl rfl)) _)
        have HKS := Lib.hid hks
        clear hRg hDy hFr hrow hne htl e0
        rw [Nat.sub_self] at *
        go_wp2_with (go_at_call 49; refine K.out.mono ?_; rintro e w9 ⟨rfl, hR9, hF9⟩)
        go_ret
        refine ⟨by rw [EX.out]; rfl, ?_, F9.out.trans (hF9.mono (fun i _ h => .inl h)), ?_, ?_⟩
        · rw [EX.out]
          exact D9.out.frame hF9 (fun e => HR.out (.inl e.symm)) (fun e => HR.out (.inr (.inl e.symm))) (fun e => HR.out (.inr (.inr e.symm)))
        · intro _; exact ⟨ks, HKS.out, hR9⟩
        · rw [EX.out]; intro h; exact absurd rfl h
end Go.Proofs.Ytllnaocnojhlkaa.Dk
