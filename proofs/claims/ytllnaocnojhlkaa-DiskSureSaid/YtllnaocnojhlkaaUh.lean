/- What a ring's call Read leaves. -/
import Derived.Test.YtllnaocnojhlkaaUb
import Derived.Deep.RegionHeld3
namespace Go.Proofs.Ytllnaocnojhlkaa.Dk
open Go Go.RowKit
set_option linter.unusedVariables false
set_option linter.unusedSimpArgs false

variable {w : World} {r d k first count tail : Nat} {S : List UInt8} {t : TypeId}
/-- How many bytes ahead of the tail are there. -/
def thereN (tail count : Nat) : Nat := if 0 < tail % 128 then count * 128 - 128 + tail % 128 else count * 128
theorem there_any (h : RingAt w r d k first count tail S t) : Calls Try.prog 53 #[.pointer (some ⟨r, 0, none⟩)] w fun e w' => e = .returned (.int .i64 ((thereN tail count : Nat) : Int)) ∧ w = w' := by
  have q3 := h.q3
  have hf := h.few
  have hc := h.cnt
  have SZ := Lib.hid (size_any h)
  have IS := Lib.hid (inSector_any tail h.tl w)
  obtain ⟨sz, hsz⟩ : ∃ sz, sz = count * 128 := ⟨_, rfl⟩
  rw [← hsz] at SZ
  unfold thereN
  have hm := Nat.mod_lt tail (show 0 < 128 by decide)
  generalize tail % 128 = q at *
  rw [← hsz]
  have b1 : 128 ≤ sz := by omega
  have b2 : sz ≤ 524288 := by omega
  clear h hsz hf hc
  by_cases h0 : 0 < q
  · have h0i : (0 : Int) < (q : Int) := by omega
    rw [if_pos h0]
    clear h0
    go_enter Try.func53, Try.ntmps53
    go_wp2_with (first | (go_at_call 50; refine IS.out.mono ?_; rintro e w' ⟨rfl, rfl⟩) | (go_at_call 23; refine SZ.out.mono ?_; rintro e w' ⟨rfl, rfl⟩))
    go_ret
    exact ⟨ret_i64 (by omega), rfl⟩
  · have h0i : ¬ (0 : Int) < (q : Int) := by omega
    rw [if_neg h0]
    clear h0
    go_enter Try.func53, Try.ntmps53
    go_wp2_with (first | (go_at_call 50; refine IS.out.mono ?_; rintro e w' ⟨rfl, rfl⟩) | (go_at_call 23; refine SZ.out.mono ?_; rintro e w' ⟨rfl, rfl⟩))
    go_ret
    exact ⟨rfl, rfl⟩
/-- The byte of that number, as the disk has it. -/
def byteAt (first count : Nat) (x : DS) (i : Nat) : UInt8 := (x.read (sec first count i : Nat)).1.getD (i % 128) 0
def bytesAt (first count : Nat) (x : DS) (at_ n : Nat) : List UInt8 := (List.range n).map fun i => byteAt first count x (at_ + i)
theorem bytesAt_length (first count : Nat) (x : DS) (at_ n : Nat) : (bytesAt first count x at_ n).length = n := by simp [bytesAt]
/-- Where the loop of Read stands. -/
structure RdRel (w : World) (r d k g m first count tail n0 at_ n ko : Nat) (S : List UInt8) (t : TypeId) (x : DS) (va vr : Value) (wr : World) (o : Nat) : Prop where
  le : o ≤ n
  ha : va = .int .u64 ((at_ + o : Nat) : Int)
  hr : ∃ ao c', vr = .slice ao (n - o) c' ∧ (o < n → ao = some ⟨ko, o, none⟩ ∧ n - o ≤ c')
  row : wr.heap[ko]? = some (.cells (bvs ((bytesAt first count x at_ n).take o ++ List.replicate (n - o) 0)).toArray 5 (0, 0))
  dk : DiskAt Try.prog wr d g m n0 x
  rg : RingAt wr r d k first count tail S t
  be : Below w.heap.size w wr
theorem chunk_eq {first count at_ n o cn : Nat} {x : DS} {s : List UInt8} (hs : s = (x.read (sec first count (at_ + o) : Nat)).1) (hl : s.length = 128) (hcn : cn = min (n - o) (128 - (at_ + o) % 128)) (ho : o ≤ n) :
    (bytesAt first count x at_ n).take (o + cn) = (bytesAt first count x at_ n).take o ++ (s.drop ((at_ + o) % 128)).take cn := by
  rw [List.take_add]
  congr 1
  apply List.ext_getElem?
  intro j
  rw [List.getElem?_take, List.getElem?_take, List.getElem?_drop, List.getElem?_drop]
  by_cases hj : j < cn
  · rw [if_pos hj, if_pos hj]
    have h1 : o + j < n := by omega
    have h2 : (at_ + o) % 128 + j < 128 := by omega
    have e1 : (at_ + (o + j)) / 128 = (at_ + o) / 128 := by omega
    have e2 : (at_ + (o + j)) % 128 = (at_ + o) % 128 + j := by omega
    have e3 : sec first count (at_ + (o + j)) = sec first count (at_ + o) := by unfold sec; rw [e1]
    rw [List.getElem?_eq_getElem (by rw [bytesAt_length]; exact h1), List.getElem?_eq_getElem (by omega)]
    simp only [bytesAt, List.getElem_map, List.getElem_range, byteAt, e2, e3, ← hs]
    simp [List.getD, hl, h2]
  · rw [if_neg hj, if_neg hj]
theorem splice_step {L s : List UInt8} {n o i cn : Nat} (hL : L.length = n) (hs : s.length = 128) (hi : i < 128) (hcn : cn = min (n - o) (128 - i)) (ho : o ≤ n) :
    splice (bvs (L.take o ++ List.replicate (n - o) 0)) o (bvs ((s.drop i).take cn)) = bvs (L.take o ++ (s.drop i).take cn ++ List.replicate (n - (o + cn)) 0) := by
  have e1 : (L.take o).length = o := by rw [List.length_take]; omega
  have e2 : ((s.drop i).take cn).length = cn := by rw [List.length_take, List.length_drop]; omega
  have e3 : (bvs (L.take o)).drop (o + cn) = [] := List.drop_eq_nil_of_le (by rw [bvs_length, e1]; omega)
  unfold splice
  rw [bvs_append, bvs_length, e2, List.take_left' (by rw [bvs_length, e1]), List.drop_append, bvs_length, e1, e3, List.nil_append, show o + cn - o = cn by omega, bvs_append, bvs_append]
  rw [List.append_assoc]
  congr 2
  simp only [bvs, List.map_replicate, List.drop_replicate]
  congr 1
  omega
def lenOf2 (v : Value) : Nat := match v with | .slice _ n _ => n | _ => 0
set_option maxRecDepth 100000 in
set_option maxHeartbeats 4000000 in
theorem rread_row (h : RingAt w r d k first count tail S t) (ht : tail ≤ 4611686018427387904) {g m n0 : Nat} {x : DS} (hD : DiskAt Try.prog w d g m n0 x) (at_ n : Nat) (h1 : at_ + n ≤ tail) (h2 : tail - at_ ≤ thereN tail count)
    (hok : ∀ i, i < n → (x.read (sec first count (at_ + i) : Nat)).2 = 0) (hrow : ∀ i, i < n → (x.read (sec first count (at_ + i) : Nat)).1.length = 128) :
    Calls Try.prog 20 #[.pointer (some ⟨r, 0, none⟩), .int .u64 (at_ : Int), .int .i64 (n : Int)] w fun e w' => ∃ ko c, e = .returned (.tuple #[.slice (some ⟨ko, 0, none⟩) n c, .int .i64 0]) ∧ w'.heap[ko]? = some (.cells (bvs (bytesAt first count x at_ n)).toArray 5 (0, 0)) ∧ w.heap.size ≤ ko ∧ Below w.heap.size w w' := by
  obtain ⟨i0, hi, hz0, hz1, hz2⟩ := info_parts Try.infoU8
  have q3 := h.q3
  have TH := Lib.hid (fun n => there_any (w := w.drewN n) (h.keep rfl rfl))
  have hlb : thereN tail count ≤ 1000000 := by have := h.few; unfold thereN; split <;> omega
  generalize hth : thereN tail count = th at *
  have c1 : ¬ (n : Int) < 0 := by omega
  have c2 : ¬ (tail : Int) < (at_ : Int) := by omega
  obtain ⟨df, hdf⟩ : ∃ df, df = tail - at_ := ⟨_, rfl⟩
  have hwr : IntKind.u64.wrap ((tail : Int) - (at_ : Int)) = (df : Int) := by rw [IntKind.wrap_u64]; omega
  have hwt : IntKind.u64.wrap (th : Int) = (th : Int) := by rw [IntKind.wrap_u64]; omega
  have c3 : ¬ (df : Int) < (n : Int) := by omega
  have c4 : ¬ (th : Int) < (df : Int) := by omega
  have hn : n ≤ 1000000 := by omega
  have H := Lib.hid h
  have HD := Lib.hid hD
  have HOK := Lib.hid hok
  have HROW := Lib.hid hrow
  have H1 := Lib.hid h1
  have HT := Lib.hid ht
  clear h hD hok hrow h1 h2 ht hth hlb hdf
  go_enter Try.func20, Try.ntmps20
  go_wp2_with fail
  go_quiet (first | (go_at_call 53; refine Calls.quiet_of_same ((TH.out _).mono fun _ _ h => ⟨h.1, h.2.symm⟩)))
  go_wp2_with (at_make; refine wpList_make_full _ rfl _ _ 32 rfl 0 5 i0 _ 1 Try.underlying32 hi hz0 hz1 _ _ _ _ n rfl rfl rfl rfl (by rw [hz2]; omega) (by unfold maxLen; omega) (by omega) ?_)
  intro w1 hown hgrow
  have hb1 : w1.heap[w.heap.size]? = some (.cells (List.replicate n (Value.int .u8 0)).toArray 5 (0, 0)) := by
    rcases hown.2 with ⟨e, _⟩ | ⟨g, cap, cur, e, _, hb, hc1, hc2, hc3, hc4⟩
    · cases e
    · injection e with e3 e4 e5
      cases e3
      subst e5
      refine hb.trans ?_
      rw [← made_u8 n]
      simp only [Nat.mul_one] at hc3 hc4
      have : cur.toList = (madeCells #[Value.int .u8 0] n).toList := by
        rw [← hc4.trans rfl, List.take_of_length_le (by simp [hc3])]
      rw [← this]
  have b1 : Below w.heap.size w w1 := (Frm.refl (fun _ => False) (w.drewN nq)).grown hgrow (by intro j e; cases e) |>.below (B := w.heap.size) (fun _ _ h => h.elim) (Nat.le_refl _) |> fun h => (below_drewN (Below.refl _ w) nq).trans h
  have R0 := Lib.hid (show RdRel w r d k g m first count tail n0 at_ n w.heap.size S t x (.int .u64 (at_ : Int)) (.slice (some ⟨w.heap.size, 0, none⟩) n n) w1 0 from
    ⟨Nat.zero_le _, rfl, ⟨_, _, rfl, fun _ => ⟨rfl, by omega⟩⟩, by rw [hb1]; simp [bvs, bv], HD.out.below b1 (Nat.le_refl _), H.out.below b1 (Nat.le_refl _), b1⟩)
  have HR0 := Lib.hid (H.out.below b1 (Nat.le_refl _))
  clear hown hgrow hb1 b1
  go_wp2_with fail
  go_loopw [1, 9] (fun va vr wr => ∃ o, RdRel w r d k g m first count tail n0 at_ n w.heap.size S t x va vr wr o) (fun _ vr _ => lenOf2 vr)
  case atStart => exact ⟨0, R0.out⟩
  case round =>
    obtain ⟨wo, rfl⟩ : ∃ wo : World, wo = wr := ⟨_, rfl⟩
    obtain ⟨o, hle, rfl, ⟨ao, c', rfl, hao⟩, hrow2, hDo, hRo, hBo⟩ := hrel
    have HDo := Lib.hid hDo
    have HRo := Lib.hid hRo
    have HBo := Lib.hid hBo
    have HROWo := Lib.hid hrow2
    by_cases hon : o < n
    · obtain ⟨rfl, hc'⟩ := hao hon
      obtain ⟨sc, hsc⟩ : ∃ sc, sc = sec first count (at_ + o) := ⟨_, rfl⟩
      obtain ⟨s, hs⟩ : ∃ s, s = (x.read (sc : Int)).1 := ⟨_, rfl⟩
      have hcode : (x.read (sc : Int)).2 = 0 := by rw [hsc]; exact HOK.out o hon
      have hsl : s.length = 128 := by rw [hs, hsc]; exact HROW.out o hon
      have hao2 : at_ + o < 18446744073709551616 := by have := H1.out; have := HT.out; omega
      have hsb : sc < 4096 := by
        rw [hsc]
        unfold sec
        have := Nat.mod_lt ((at_ + o) / 128) (show 0 < count by have := H.out.cnt; omega)
        have := H.out.few
        omega
      have q0 := hRo.q0
      have RS1 := Lib.hid (show Calls Try.prog 48 #[.pointer (some ⟨r, 0, none⟩), .int .u64 ((at_ : Int) + (o : Int))] wo.drew fun e w' => e = .returned (.int .i64 (sc : Int)) ∧ ∃ m, w' = wo.drew.drewN m from by
        have h1 := rsector_any (hRo.keep (w' := wo.drew) rfl rfl) (at_ + o) hao2
        rw [← hsc] at h1
        rw [← Int.natCast_add]
        exact h1)
      have RDA := Lib.hid (show ∀ m2, Calls Try.prog 34 #[.pointer (some ⟨d, 0, none⟩), .int .i64 (sc : Int)] (wo.drewN m2) fun e w' => ∃ kk, e = .returned (.tuple #[.slice (some ⟨kk, 0, none⟩) 128 128, .int .i64 0]) ∧ wo.heap.size ≤ kk ∧ w'.heap[kk]? = some (.cells (bvs s).toArray 121 (0, 0)) ∧ Below wo.heap.size wo w' from fun m2 => by
        refine (read_any (hDo.keep (w' := wo.drewN m2) rfl rfl rfl) (sc : Int) (WalkArith.wf_i64 (by omega))).mono ?_
        rintro e w3 ⟨v, rfl, ha, hb3⟩
        unfold Ans at ha
        rw [if_pos hcode] at ha
        obtain ⟨kk, rfl, hk3, hr3, _⟩ := ha
        rw [hcode]
        refine ⟨kk, rfl, hk3, by rw [hs]; exact hr3, ?_⟩
        exact (below_drewN (Below.refl wo.heap.size wo) m2).trans hb3)
      have KP := Lib.hid (fun (W : World) (h : W.heap[r]? = wo.heap[r]?) => (show W.cell? ⟨r, 0, none⟩ = some (.pointer (some ⟨d, 0, none⟩)) from (World.cell?_of_block (a := ⟨r, 0, none⟩) h).trans q0))
      have RL := Lib.hid hRo.rlt
      have IS := Lib.hid (show ∀ W, Calls Try.prog 50 #[.int .u64 ((at_ : Int) + (o : Int))] W fun e w' => e = .returned (.int .i64 (((at_ + o) % 128 : Nat) : Int)) ∧ W = w' from fun W => by
        rw [← Int.natCast_add]
        exact inSector_any (at_ + o) hao2 W)
      obtain ⟨ii, hii⟩ : ∃ ii, ii = (at_ + o) % 128 := ⟨_, rfl⟩
      rw [← hii] at IS
      have hi1 : ii < 128 := by rw [hii]; exact Nat.mod_lt _ (by decide)
      have hi2 : (ii : Int) ≤ 128 := by omega
      have hi3 : ¬ 128 = ii := by omega
      have hposi : (0 : Int) < ((n - o : Nat) : Int) := by omega
      have HII := Lib.hid hii
      have HSC := Lib.hid hsc
      have HSS := Lib.hid hs
      have HSL := Lib.hid hsl
      have HI1 := Lib.hid hi1
      clear hrow2 hDo hRo hBo hii hsc hs hcode hsl hao2 hsb R0 hi1
      go_wp2_with fail
      go_region_held3 (fun w' => w'.cell? ⟨r, 0, none⟩ = some (.pointer (some ⟨d, 0, none⟩)))
        (first
          | exact KP.out _ rfl
          | exact KP.out _ K3.out)
        (first
          | (go_at_call 48; (with_reducible refine RS1.out.mono ?_); rintro e w2 ⟨rfl, m2, rfl⟩)
          | (go_at_call 34; (with_reducible refine (RDA.out _).mono ?_); rintro e w3 ⟨kk, rfl, hkk, hrr, hb3⟩; have K3 := Lib.hid (hb3.block r RL.out); have KK := Lib.hid hkk; have RR := Lib.hid hrr; have B3 := Lib.hid hb3; clear hkk hrr hb3))
      all_goals
        have hcl : (bvs ((s.drop ii).take (min (n - o) (128 - ii)))).length = Nat.min (128 - ii) (n - o) := by
          rw [bvs_length, List.length_take, List.length_drop, HSL.out]
          show _ = min (128 - ii) (n - o)
          omega
        have hrow3 := (B3.out.block w.heap.size (lt_of_row HROWo.out)).trans HROWo.out
        have hsrc : 0 < (bvs ((s.drop ii).take (min (n - o) (128 - ii)))).length → ∃ ad, (some ⟨kk, ii, none⟩ : Option Addr) = some ad ∧ ∀ j v, (bvs ((s.drop ii).take (min (n - o) (128 - ii))))[j]? = some v → w3.cell? (ad.add j) = some v := by
          intro _
          refine ⟨_, rfl, fun j v hv => ?_⟩
          rw [Addr.add_mid, cell_of_row w3 kk (ii + j) _ _ _ RR.out]
          simp only [bvs, List.map_take, List.map_drop, List.getElem?_take, List.getElem?_drop] at hv
          split at hv
          · simpa [bvs] using hv
          · cases hv
        have hfit : o + (bvs ((s.drop ii).take (min (n - o) (128 - ii)))).length ≤ (bvs ((bytesAt first count x at_ n).take o ++ List.replicate (n - o) 0)).length := by
          rw [hcl, bvs_length, List.length_append, List.length_take, bytesAt_length, List.length_replicate]
          show o + min (128 - ii) (n - o) ≤ _
          omega
        have HCL := Lib.hid hcl
        have HR3 := Lib.hid hrow3
        have HSR := Lib.hid hsrc
        have HFT := Lib.hid hfit
        have HB3 := Lib.hid (HBo.out.trans (B3.out.mono HBo.out.size))
        clear hcl hrow3 hsrc hfit
        go_wp2_with (first | (go_at_call 50; refine (IS.out _).mono ?_; rintro e w' ⟨rfl, rfl⟩) | (with_reducible show wpList _ _ _ _ _ _; refine wpList_copy_splice rfl (.tmp 64) (.tmp 68) 32 32 rfl 5 Try.underlying32 (by kernel_rfl) (some ⟨w.heap.size, o, none⟩) (some ⟨kk, ii, none⟩) (n - o) c' (128 - ii) (128 - ii) rfl rfl w.heap.size o (bvs ((bytesAt first count x at_ n).take o ++ List.replicate (n - o) 0)) 5 HR3.out (bvs ((s.drop ii).take (min (n - o) (128 - ii)))) HCL.out (fun h => ⟨rfl, HSR.out h⟩) HFT.out (bvs_one _) w.heap.size w HB3.out (Nat.le_refl _) ?_))
        intro w4 HG hb4
        obtain ⟨cn, hcn⟩ : ∃ cn, cn = min (n - o) (128 - ii) := ⟨_, rfl⟩
        have ecn : (bvs ((s.drop ii).take (min (n - o) (128 - ii)))).length = cn := by
          rw [HCL.out, hcn]
          show min (128 - ii) (n - o) = _
          omega
        rw [ecn]
        have hg4 : w4.heap[w.heap.size]? = some (.cells (bvs ((bytesAt first count x at_ n).take (o + cn) ++ List.replicate (n - (o + cn)) 0)).toArray 5 (0, 0)) := by
          have h1 := HG.out
          rw [← hcn, splice_step (bytesAt_length first count x at_ n) HSL.out HI1.out hcn hle] at h1
          rw [h1]
          have h2 := chunk_eq (first := first) (count := count) (at_ := at_) (n := n) (o := o) (cn := cn) (x := x) (s := s) (by rw [HSS.out, HSC.out]) HSL.out (by rw [hcn, HII.out]) hle
          rw [h2, HII.out]
        have cnb := Lib.hid (show 1 ≤ cn ∧ o + cn ≤ n ∧ cn ≤ n - o from by have := HI1.out; omega)
        have hcni : (cn : Int) ≤ ((n - o : Nat) : Int) := by have := cnb.out; omega
        have REL := Lib.hid (show ∀ ao'' c'', (o + cn < n → ao'' = some ⟨w.heap.size, o + cn, none⟩ ∧ n - (o + cn) ≤ c'') → RdRel w r d k g m first count tail n0 at_ n w.heap.size S t x (.int .u64 (IntKind.u64.wrap ((at_ : Int) + (o : Int) + (cn : Int)))) (.slice ao'' (n - o - cn) c'') w4 (o + cn) from fun ao'' c'' hq => by
          refine ⟨cnb.out.2.1, ?_, ⟨ao'', c'', by rw [Nat.sub_sub], hq⟩, hg4, HD.out.below hb4 (Nat.le_refl _), H.out.below hb4 (Nat.le_refl _), hb4⟩
          have := cnb.out; have := H1.out; have := HT.out
          congr 1
          rw [IntKind.wrap_u64]
          omega)
        clear hcn ecn hg4 hb4 HG
        go_wp2_with fail
        all_goals
          have hcb := cnb.out
          refine ⟨⟨o + cn, REL.out _ _ ?_⟩, ?_⟩
          · intro h
            rw [if_neg (by omega)]
            exact ⟨rfl, by omega⟩
          · simp only [lenOf2]
            omega
    · obtain rfl : o = n := by omega
      have hpos : ¬ (0 : Int) < ((o - o : Nat) : Int) := by omega
      have hfin := hrow2
      rw [Nat.sub_self, List.replicate_zero, List.append_nil] at hfin
      have ef : (bytesAt first count x at_ o).take o = bytesAt first count x at_ o := List.take_of_length_le (by rw [bytesAt_length]; exact Nat.le_refl _)
      rw [ef] at hfin
      have HFN := Lib.hid hfin
      clear hrow2 hDo hRo hBo hfin ef hao
      rw [Nat.sub_self] at *
      go_wp2_with fail
      go_ret2
      exact ⟨w.heap.size, ⟨_, rfl⟩, HFN.out, Nat.le_refl _, HBo.out⟩
theorem rread_ok (h : RingAt w r d k first count tail S t) (ht : tail ≤ 4611686018427387904) {g m n0 : Nat} {x : DS} (hD : DiskAt Try.prog w d g m n0 x) (at_ n : Nat) (h1 : at_ + n ≤ tail) (h2 : tail - at_ ≤ thereN tail count)
    (hok : ∀ i, i < n → (x.read (sec first count (at_ + i) : Nat)).2 = 0) (hrow : ∀ i, i < n → (x.read (sec first count (at_ + i) : Nat)).1.length = 128) :
    Calls Try.prog 20 #[.pointer (some ⟨r, 0, none⟩), .int .u64 (at_ : Int), .int .i64 (n : Int)] w fun e w' => ∃ ko c, e = .returned (.tuple #[.slice (some ⟨ko, 0, none⟩) n c, .int .i64 0]) ∧ w'.rangeAt ko 0 (bvs (bytesAt first count x at_ n)) ∧ w.heap.size ≤ ko ∧ Below w.heap.size w w' := by
  refine (rread_row h ht hD at_ n h1 h2 hok hrow).mono ?_
  rintro e w' ⟨ko, c, he, hr, hk, hb⟩
  refine ⟨ko, c, he, fun j v hv => ?_, hk, hb⟩
  rw [cell_of_row w' ko (0 + j) _ _ _ hr, Nat.zero_add]
  simpa using hv
end Go.Proofs.Ytllnaocnojhlkaa.Dk
