/- WholeNoted's walk. -/
import Derived.Test.YtgbmkolpdnenlaaMt
import Derived.Test.YtgbmkolpdnenlaaMr
import Derived.Test.YtgbmkolpdnenlaaBm
import Derived.Test.YtgbmkolpdnenlaaNo
import Derived.Test.YtgbmkolpdnenlaaIn
import Derived.Test.YtgbmkolpdnenlaaDu
import Derived.Test.YtgbmkolpdnenlaaDc
namespace Go.Proofs.Ytgbmkolpdnenlaa.Dk
open Go Go.RowKit
set_option linter.unusedVariables false
set_option linter.unusedSimpArgs false
/-- A number and the one that differs from it in its last bit. -/
def flip1 (n : Nat) : Nat := n ^^^ 1
theorem flip1_lt {n : Nat} (h : n < 18446744073709551616) : flip1 n < 18446744073709551616 := by
  unfold flip1
  exact Nat.xor_lt_two_pow (n := 64) h (by decide)
theorem flip1_bits {n : Nat} (h : n < 18446744073709551616) : bits .xor .u64 (n : Int) 1 = ((flip1 n : Nat) : Int) := by
  have := u64_xor_nat n 1 h (by decide)
  simpa [flip1] using this
/-- Where the loop stands: i of the notes have been played. -/
structure NoSt (w wr : World) (d g m mb : Nat) (x : DS) (lm : MkD) (S : Int → Bool) (i nb n : Nat) : Prop where
  E : DiskAt Try.prog wr d g m n x
  R : Rest x
  top : x.great 0 ≤ 2 * (i + 1)
  last : x.lastMark 0 = lm
  ok : lm.Ok
  pos : 0 < lm.seq
  map : BMap Try.prog 28 wr mb nb S
  mn : ¬ own3 d g m mb
  mw : w.heap.size ≤ mb
  nb : nb ≤ 10
  n : n ≤ i + 1
  has : S ((lm.W.getD 0 0 : Nat) : Int) = true
  form : lm.W.getD 0 0 = 5 ∨ lm.W.getD 1 0 = flip1 (lm.W.getD 0 0)
  be : Below w.heap.size w wr
def NoRel (w : World) (d g m N : Nat) (u v : Value) (wr : World) : Prop :=
  ∃ (i mb : Nat) (x : DS) (lm : MkD) (S : Int → Bool) (nb n : Nat), u = .int .i64 (i : Int) ∧ v = .map (some mb) ∧ i ≤ N ∧ NoSt w wr d g m mb x lm S i nb n
theorem six_get {mk : MkD} {s a b c d e f : Nat} (h : mk = ⟨s, [a, b, c, d, e, f]⟩) : mk.W.getD 0 0 = a ∧ mk.W.getD 1 0 = b := by
  subst h
  exact ⟨rfl, rfl⟩
theorem row_word {w : World} {k : Nat} {mk : MkD} (hok : mk.Ok) (h : w.heap[k]? = some (.cells mk.cells.toArray 34 (0, 0))) :
    w.cell? ⟨k, 0, none⟩ = some (.int .u64 (mk.seq : Int)) ∧ w.cell? ⟨k, 1, none⟩ = some (.int .u64 ((mk.W.getD 0 0 : Nat) : Int)) ∧ w.cell? ⟨k, 2, none⟩ = some (.int .u64 ((mk.W.getD 1 0 : Nat) : Int)) := by
  obtain ⟨s, a, b, c, d, e, f, rfl⟩ := six_of hok
  obtain ⟨l0, l1, l2, _⟩ := seven h
  exact ⟨l0, l1, l2⟩
theorem noted_next {z : DS} {lm m2 : MkD} {N : Nat} {S SX : Int → Bool} {C : Int} (h : z.lastMark 0 = m2 ∨ C = 50 ∧ z.lastMark 0 = lm) (hC : C = 0 ∨ SX = S) (has : S ((lm.W.getD 0 0 : Nat) : Int) = true)
    (ok : lm.Ok) (pos : 0 < lm.seq) (form : lm.W.getD 0 0 = 5 ∨ lm.W.getD 1 0 = flip1 (lm.W.getD 0 0)) (ok2 : m2.Ok) (pos2 : 0 < m2.seq) (h0 : m2.W.getD 0 0 = N) (h1 : m2.W.getD 1 0 = flip1 N) :
    ∃ l, z.lastMark 0 = l ∧ l.Ok ∧ 0 < l.seq ∧ (l.W.getD 0 0 = 5 ∨ l.W.getD 1 0 = flip1 (l.W.getD 0 0)) ∧ (if ((l.W.getD 0 0 : Nat) : Int) = (N : Int) then true else SX ((l.W.getD 0 0 : Nat) : Int)) = true := by
  rcases h with h | ⟨h, h'⟩
  · exact ⟨m2, h, ok2, pos2, .inr (by rw [h0, h1]), by rw [h0, if_pos rfl]⟩
  · refine ⟨lm, h', ok, pos, form, ?_⟩
    rcases hC with e | e
    · omega
    · rw [e, has]
      split <;> rfl
theorem Try.zeroBool (w : World) : (zeroValue 4).run Try.prog w = .ok (.bool false) w := by kernel_rfl
theorem wf_u64 {n : Nat} (h : n < 18446744073709551616) : wfu (n : Int) := by
  exact WalkArith.wf_u64 (by omega)
theorem word_lt' {mk : MkD} (h : mk.Ok) (i : Nat) : mk.W.getD i 0 < 18446744073709551616 := by
  rw [List.getD_eq_getElem?_getD]
  cases hx : mk.W[i]? with
  | none => decide
  | some v => exact h.W v (List.mem_iff_getElem?.2 ⟨i, hx⟩)
set_option maxRecDepth 100000 in
set_option maxHeartbeats 8000000 in
theorem noted_main {w : World} {ao : Option Addr} {c : Nat} {L : List NoD} (hL : Notes w (.slice ao L.length c) L) :
    Calls Try.prog 7 #[.slice ao L.length c] w fun e w' => e = .returned (.bool true) ∧ Below w.heap.size w w' := by
  have HL := Lib.hid hL
  have N := Lib.hid (new_any 2 (by decide) (by decide) w)
  clear hL
  go_enter Try.func7, Try.ntmps7
  go_wp2_with fail
  refine N.out.mono ?_
  rintro e w2 ⟨d, g, m, rfl, hD2, hb2, hd, hg, hm⟩
  have HO := Lib.hid (show ∀ i, own3 d g m i → w.heap.size ≤ i from fun i e => by rcases e with e | e | e <;> omega)
  have HB2 := Lib.hid hb2
  have HD2 := Lib.hid hD2
  clear hD2 hb2 N hd hg hm
  obtain ⟨m1, hm1⟩ : ∃ m1, m1 = (DS.new 2).next 0 [5] := ⟨_, rfl⟩
  have hk := next_ok (x := DS.new 2) (first := 0) (ws := [5]) (by decide) (by decide) (by rw [new_great]; decide)
  rw [← hm1, new_great] at hk
  have hsq : m1.seq ≤ 2 := by rw [hm1]; have := nextSeq_le (DS.new 2) 0; rw [new_great] at this; exact this
  have hfine := mark_fine (calm_new 2) (first := 0) hk.1 (by simp [DS.new]) (.inl (by decide))
  obtain ⟨x1, hx1⟩ : ∃ x1, x1 = ((DS.new 2).mark 0 m1).2 := ⟨_, rfl⟩
  rw [← hx1] at hfine
  have hls := last_set (calm_new 2) hfine.2.1 (first := 0) hk.1 (by simp [DS.new]) hfine.2.2.1 (by rw [new_great]; exact hk.2)
  have hrest : Rest x1 := ⟨hfine.2.1, by rw [hfine.2.2.1, List.length_set]; rfl, fun b hb => by
    rw [hfine.2.2.1] at hb
    rcases List.mem_or_eq_of_mem_set hb with hb | rfl
    · rw [List.eq_of_mem_replicate hb]; exact zeros_length
    · exact layM_length hk.1.len⟩
  have P1 := Lib.hid (fun (w3 : World) (b3 : Below w2.heap.size w2 w3) (kb : Nat) (rb : w3.heap[kb]? = some (.cells ([5].map uv).toArray 28 (0, 0))) => (show Calls Try.prog 12 #[.pointer (some ⟨d, 0, none⟩), .int .i64 0, .slice (some ⟨kb, 0, none⟩) 1 1] w3 fun e w' => e = .returned (.tuple #[.agg m1.cells.toArray, .int .i64 0]) ∧ DiskAt Try.prog w' d g m 1 x1 ∧ Frm (own3 d g m) w3 w' by
    have h := put_ok (HD2.out.below b3 (Nat.le_refl _)) (by unfold maxLen; omega) (fun i l _ h => by cases h) 0 (by simp [DS.new]) rfl (ao := some ⟨kb, 0, none⟩) (c := 1) (ws := [5]) ⟨_, _, rfl, (fun h => by cases h), fun ad e j u hu => by cases e; exact cells_row rb j u hu⟩ (by decide) (by decide) (by rw [new_great]; decide)
    rw [← hm1, hfine.1, ← hx1] at h
    exact h))
  have hW5 : m1.W.getD 0 0 = 5 := by rw [hm1]; rfl
  have HX1 := Lib.hid (show Rest x1 ∧ x1.great 0 ≤ 2 * (0 + 1) ∧ x1.lastMark 0 = m1 ∧ m1.Ok ∧ 0 < m1.seq ∧ m1.W.getD 0 0 = 5 from ⟨hrest, by rw [hls.2]; omega, hls.1, hk.1, hk.2, hW5⟩)
  clear hx1 hm1 hk hfine hls hrest hsq hW5
  go_wp2_with fail
  obtain ⟨k3, hk3⟩ : ∃ k, k = w2.heap.size := ⟨_, rfl⟩
  obtain ⟨w3, hw3⟩ : ∃ w3, w3 = w2.alloc (.cells #[.int .u64 5] 28) := ⟨_, rfl⟩
  have b3 : Below w2.heap.size w2 w3 := by rw [hw3]; exact (Below.refl _ _).alloc (Nat.le_refl _) _
  have P2 := Lib.hid (P1.out w3 b3 k3 (by rw [hw3, hk3]; exact heap_alloc_new _ _))
  have HB3 := Lib.hid (HB2.out.trans (b3.mono HB2.out.size))
  rw [← hk3, ← hw3]
  clear hk3 hw3 b3 P1 HB2 HD2
  refine P2.out.mono ?_
  rintro e w4 ⟨rfl, hD4, hF4⟩
  have HB4 := Lib.hid (HB3.out.trans (hF4.below (B := w.heap.size) (fun i _ e => HO.out i e) HB3.out.size))
  have HD4 := Lib.hid hD4
  have HSM := Lib.hid (show (Try.prog.info? 34).map (·.size) = some m1.cells.toArray.size by rw [List.size_toArray]; exact Try.markSize HX1.out.2.2.2.1)
  have HS7 := Lib.hid (show (#[Value.int .u64 0, .int .u64 0, .int .u64 0, .int .u64 0, .int .u64 0, .int .u64 0, .int .u64 0] : Array Value).size = m1.cells.toArray.size by have := MkD.cells_length HX1.out.2.2.2.1; simp [this])
  obtain ⟨k5, hk5⟩ : ∃ k, k = w4.heap.size := ⟨_, rfl⟩
  obtain ⟨w5, hw5⟩ : ∃ w5, w5 = w4.alloc (.cells m1.cells.toArray 34) := ⟨_, rfl⟩
  have b5 : Below w4.heap.size w4 w5 := by rw [hw5]; exact (Below.refl _ _).alloc (Nat.le_refl _) _
  have r5 : w5.heap[k5]? = some (.cells m1.cells.toArray 34 (0, 0)) := by rw [hw5, hk5]; exact heap_alloc_new _ _
  have c5 : w5.cell? ⟨k5, 1, none⟩ = some (.int .u64 5) := by
    have := (row_word HX1.out.2.2.2.1 r5).2.1
    rw [HX1.out.2.2.2.2.2] at this
    exact this
  have HW5 := Lib.hid hw5
  have HK5 := Lib.hid hk5
  have HB5 := Lib.hid (HB4.out.trans (b5.mono HB4.out.size))
  have HD5 := Lib.hid (HD4.out.below b5 (Nat.le_refl _))
  clear hD4 hF4 P2 HB3 r5 b5 hw5 hk5 HB4 HD4
  by_cases c20 : (20 : Int) < (L.length : Int)
  · go_wp2_with (with_reducible show wpList _ _ _ _ _ _; refine wpList_store_new rfl 34 (.tmp 5) (.tmp 26) rfl 34 _ m1.cells.toArray rfl rfl HSM.out HS7.out m1.cells_one ?_; rw [← HW5.out, ← HK5.out])
    go_ret
    exact ⟨rfl, HB5.out⟩
  · have hmm := @run_makeMap Try.prog
    obtain ⟨w6, hins, hm6, ht6⟩ := (BMap.made (P := Try.prog) (k := 28) w5).put_run (t := 62) (x := 5) Try.underlying28 Try.underlying62 (by decide) (wf_u64 (n := 5) (by decide)) true
    have HM6 := Lib.hid hm6
    have b6 : Below w5.heap.size w5 w6 := ((Below.refl _ w5).alloc (Nat.le_refl _) (.map #[] 0)).trans (((Frm.refl (fun i => i = w5.heap.size) (w5.alloc (.map #[] 0))).turned ht6 (.inl rfl)).below (B := w5.heap.size) (fun i _ e => by omega) (by simp))
    have HB6 := Lib.hid b6
    clear hm6 ht6 b6
    go_wp2_with (with_reducible show wpList _ _ _ _ _ _; refine wpList_store_new rfl 34 (.tmp 5) (.tmp 26) rfl 34 _ m1.cells.toArray rfl rfl HSM.out HS7.out m1.cells_one ?_; rw [← HW5.out, ← HK5.out])
    have J0 := Lib.hid (show NoRel w d g m L.length (.int .i64 0) (.map (some w5.heap.size)) w6 from ⟨0, w5.heap.size, x1, m1, _, _, 1, rfl, rfl, Nat.zero_le _,
      ⟨HD5.out.below HB6.out (Nat.le_refl _), HX1.out.1, HX1.out.2.1, HX1.out.2.2.1, HX1.out.2.2.2.1, HX1.out.2.2.2.2.1, HM6.out, (fun h => by have h1 := HD5.out.dlt; have h2 := HD5.out.glt; have h3 := HD5.out.mlt; rcases h with h | h | h <;> omega), HB5.out.size, by decide, by omega, by rw [HX1.out.2.2.2.2.2]; rfl, .inl HX1.out.2.2.2.2.2, HB5.out.trans (HB6.out.mono HB5.out.size)⟩⟩)
    clear c5 HD5 HSM HS7 HW5 HK5 HB5 HM6 HB6 hins
    go_loopw [43, 7] (fun u v wr => NoRel w d g m L.length u v wr) (fun u _ _ => L.length - (intOf u).toNat)
    case atStart => exact J0.out
    case round =>
      obtain ⟨wo, rfl⟩ : ∃ wo : World, wo = wr := ⟨_, rfl⟩
      obtain ⟨i, mb, x, lm, S, nb, n, rfl, rfl, hi, ST⟩ := hrel
      have HST := Lib.hid ST
      clear ST J0 HX1
      by_cases hil : i < L.length
      · have hii : (i : Int) < (L.length : Int) := by omega
        obtain ⟨a, rfl, hcell, hg⟩ := (HL.out.below HST.out.be (Nat.le_refl _)).at hil
        obtain ⟨p, hp⟩ : ∃ p, p = L.getD i default := ⟨_, rfl⟩
        rw [← hp] at hcell hg
        obtain ⟨pn, pf, pa, pk⟩ := p
        have hgoodpa : wfi pa := hg.at_
        have HC := Lib.hid hcell
        have HZ := Lib.hid (Try.noteSize ⟨pn, pf, pa, pk⟩)
        obtain ⟨N, rfl, hN⟩ : ∃ N : Nat, pn = (N : Int) ∧ N < 18446744073709551616 := by
          have hb := bounds_u64 hg.n
          have h1 : 0 ≤ pn := hb.1
          have h2 : pn ≤ 18446744073709551615 := hb.2
          exact ⟨pn.toNat, by omega, by omega⟩
        obtain ⟨w1, hw1⟩ : ∃ w1, w1 = wo.alloc (.cells (NoD.mk (N : Int) pf pa pk).cells.toArray 64) := ⟨_, rfl⟩
        obtain ⟨k9, hk9⟩ : ∃ k, k = wo.heap.size := ⟨_, rfl⟩
        have hr1 : w1.heap[k9]? = some (.cells (NoD.mk (N : Int) pf pa pk).cells.toArray 64 (0, 0)) := by rw [hw1, hk9]; exact heap_alloc_new _ _
        have b1 : Below wo.heap.size wo w1 := by rw [hw1]; exact (Below.refl _ _).alloc (Nat.le_refl _) _
        have u1 : w1.cell? ⟨k9, 1, none⟩ = some (.int .i64 pf) := by rw [cell_of_row w1 k9 1 _ _ _ hr1]; rfl
        have HO1 := Lib.hid (NoD.mk (N : Int) pf pa pk).cells_one
        have HZ2 := Lib.hid (show (Try.prog.info? 64).map (·.size) = some (NoD.mk (N : Int) pf pa pk).cells.toArray.size by rw [List.size_toArray]; exact HZ.out)
        have FU := Lib.hid (fuse_any (HST.out.E.below b1 (Nat.le_refl _)) pf hg.fuse)
        have HR1 := Lib.hid hr1
        have HW1 := Lib.hid hw1
        have HK9 := Lib.hid hk9
        have HN := Lib.hid hN
        have HB1 := Lib.hid (HST.out.be.trans (b1.mono HST.out.be.size))
        have HNO := Lib.hid (show ¬ own3 d g m k9 from fun e => by have h1 := HST.out.E.dlt; have h2 := HST.out.E.glt; have h3 := HST.out.E.mlt; rcases e with e | e | e <;> omega)
        have HM1 := Lib.hid (HST.out.map.below b1 (Nat.le_refl _))
        have HKM := Lib.hid (show mb ≠ k9 from by have := HST.out.map.lt; omega)
        clear hg hcell hp hw1 hk9 hr1 hN b1
        go_wp2_with (first
          | (with_reducible show wpList _ _ _ _ _ _; refine wpList_load_all rfl 64 (.tmp 45) rfl (a.add (i * 4)) rfl (NoD.mk (N : Int) pf pa pk).cells _ HC.out Try.underlying64 rfl HZ.out ?_)
          | (with_reducible show wpList _ _ _ _ _ _; refine wpList_store_new rfl 64 (.tmp 9) (.tmp 46) rfl 64 #[.int .u64 0, .int .i64 0, .int .i64 0, .bool false] (NoD.mk (N : Int) pf pa pk).cells.toArray rfl rfl HZ2.out rfl HO1.out ?_; rw [← HW1.out, ← HK9.out]))
        refine FU.out.mono ?_
        rintro e w2 ⟨rfl, hE2, hF2⟩
        obtain ⟨x2, hx2⟩ : ∃ x2 : DS, x2 = { x with fuse := pf } := ⟨_, rfl⟩
        rw [← hx2] at hE2
        have hR2 : Rest x2 := by rw [hx2]; exact ⟨⟨HST.out.R.calm.up, HST.out.R.calm.S⟩, HST.out.R.n, HST.out.R.len⟩
        have hT2 : x2.great 0 ≤ 2 * (i + 1) := by rw [hx2]; exact HST.out.top
        have hL2 : x2.lastMark 0 = lm := by rw [hx2]; exact HST.out.last
        have hr2 := (hF2.block k9 (lt_of_row HR1.out) HNO.out).trans HR1.out
        have HR2 := Lib.hid hr2
        have HB2 := Lib.hid (HB1.out.trans (hF2.below (B := w.heap.size) (fun i _ e => HO.out i e) HB1.out.size))
        have HE2 := Lib.hid hE2
        have HM2 := Lib.hid (HM1.out.keep (hF2.block mb HM1.out.lt HST.out.mn))
        obtain ⟨m2, hm2⟩ : ∃ m2, m2 = x2.next 0 [N, flip1 N] := ⟨_, rfl⟩
        obtain ⟨C, hC⟩ : ∃ C, C = (x2.mark 0 m2).1 := ⟨_, rfl⟩
        obtain ⟨y, hy⟩ : ∃ y, y = (x2.mark 0 m2).2 := ⟨_, rfl⟩
        have hws : ∀ u ∈ [N, flip1 N], u < 18446744073709551616 := by
          intro u hu
          simp only [List.mem_cons, List.not_mem_nil, or_false] at hu
          rcases hu with rfl | rfl
          · exact HN.out
          · exact flip1_lt HN.out
        obtain ⟨t1, t2, t3, t4, t5, t6, t7⟩ := torn_step hR2 (ws := [N, flip1 N]) (by simp) hws (by omega) hm2 hC hy
        obtain ⟨bm, hbm⟩ : ∃ bm, bm = pick0 C m2 := ⟨_, rfl⟩
        have hbok : bm.Ok := by
          rw [hbm]
          unfold pick0
          split
          · exact t1
          · exact noM_ok
        have P := Lib.hid (fun (w3 : World) (b3 : Below w2.heap.size w2 w3) (kb : Nat) (rb : w3.heap[kb]? = some (.cells ([N, flip1 N].map uv).toArray 28 (0, 0))) => (show Calls Try.prog 12 #[.pointer (some ⟨d, 0, none⟩), .int .i64 0, .slice (some ⟨kb, 0, none⟩) 2 2] w3 fun e w' => e = .returned (.tuple #[.agg bm.cells.toArray, .int .i64 C]) ∧ DiskAt Try.prog w' d g m (n + 1) y ∧ Frm (own3 d g m) w3 w' by
          have h := put_ok (HE2.out.below b3 (Nat.le_refl _)) (by have := HST.out.n; unfold maxLen; omega) (fun i l _ h => by rw [hR2.calm.S] at h; cases h) 0 (by rw [hR2.n]; decide) hR2.calm.up (ao := some ⟨kb, 0, none⟩) (c := 2) (ws := [N, flip1 N]) ⟨_, _, rfl, (fun h => by cases h), fun ad e j u hu => by cases e; exact cells_row rb j u hu⟩ hws (by simp) (by omega)
          rw [← hm2, ← hC, ← hy, ← hbm] at h
          exact h))
        have hm2W : m2.W.getD 0 0 = N ∧ m2.W.getD 1 0 = flip1 N := by rw [hm2]; exact ⟨rfl, rfl⟩
        have HXX := Lib.hid (show m2.Ok ∧ 0 < m2.seq ∧ m2.seq ≤ 2 * (i + 1 + 1) ∧ x2.lastMark 0 = lm ∧ y.s.length = 2 ∧ (∀ i l, wfi i → y.S i = some l → y.has i = true) ∧ m2.W.getD 0 0 = N ∧ m2.W.getD 1 0 = flip1 N from ⟨t1, by omega, by omega, hL2, t6, t5, hm2W.1, hm2W.2⟩)
        have T7 := Lib.hid t7
        have HCC := Lib.hid t4
        have HBOK := Lib.hid hbok
        have fb := flip1_bits HN.out
        have u0 : w2.cell? ⟨k9, 0, none⟩ = some (.int .u64 (N : Int)) := by rw [cell_of_row w2 k9 0 _ _ _ hr2]; rfl
        clear hE2 hF2 hx2 hT2 hr2 hm2 hC hy hws t1 t2 t3 t4 t5 t6 t7 hbm hbok hm2W hL2 u1 FU HB1 HR1 HM1 HC HZ HZ2 HO1 HW1 HK9
        go_wp2_with fail
        obtain ⟨kq, hkq⟩ : ∃ k, k = w2.heap.size := ⟨_, rfl⟩
        obtain ⟨w3, hw3⟩ : ∃ w3, w3 = w2.alloc (.cells #[.int .u64 (N : Int), .int .u64 ((flip1 N : Nat) : Int)] 28) := ⟨_, rfl⟩
        have b3 : Below w2.heap.size w2 w3 := by rw [hw3]; exact (Below.refl _ _).alloc (Nat.le_refl _) _
        have PQ := Lib.hid (P.out w3 b3 kq (by rw [hw3, hkq]; exact heap_alloc_new _ _))
        have HB3 := Lib.hid (HB2.out.trans (b3.mono HB2.out.size))
        have HR3 := Lib.hid ((b3.block k9 (lt_of_row HR2.out)).trans HR2.out)
        have HM3 := Lib.hid (HM2.out.below b3 (Nat.le_refl _))
        rw [← hkq, ← hw3]
        clear hkq hw3 b3 P HB2 HR2 HM2 HE2 u0
        refine PQ.out.mono ?_
        rintro e w4 ⟨rfl, hE4, hF4⟩
        have HE4 := Lib.hid hE4
        have HB4 := Lib.hid (HB3.out.trans (hF4.below (B := w.heap.size) (fun i _ e => HO.out i e) HB3.out.size))
        have HR4 := Lib.hid ((hF4.block k9 (lt_of_row HR3.out) HNO.out).trans HR3.out)
        have HM4 := Lib.hid (HM3.out.keep (hF4.block mb HM3.out.lt HST.out.mn))
        obtain ⟨w5', hw5⟩ : ∃ w5', w5' = w4.alloc (.cells bm.cells.toArray 34) := ⟨_, rfl⟩
        have b5 : Below w4.heap.size w4 w5' := by rw [hw5]; exact (Below.refl _ _).alloc (Nat.le_refl _) _
        have HSM := Lib.hid (show (Try.prog.info? 34).map (·.size) = some bm.cells.toArray.size by rw [List.size_toArray]; exact Try.markSize HBOK.out)
        have HS7 := Lib.hid (show (#[Value.int .u64 0, .int .u64 0, .int .u64 0, .int .u64 0, .int .u64 0, .int .u64 0, .int .u64 0] : Array Value).size = bm.cells.toArray.size by have := MkD.cells_length HBOK.out; simp [this])
        have HE5 := Lib.hid (HE4.out.below b5 (Nat.le_refl _))
        have HB5 := Lib.hid (HB4.out.trans (b5.mono HB4.out.size))
        have hr5 := (b5.block k9 (lt_of_row HR4.out)).trans HR4.out
        have HR5 := Lib.hid hr5
        have HM5 := Lib.hid (HM4.out.below b5 (Nat.le_refl _))
        have HW5 := Lib.hid hw5
        have u0 : w5'.cell? ⟨k9, 0, none⟩ = some (.int .u64 (N : Int)) := by rw [cell_of_row w5' k9 0 _ _ _ hr5]; rfl
        clear hE4 hF4 PQ HB3 HR3 HM3 HB4 HR4 HM4 HE4 b5 hw5 hr5
        have hwN : wfu (N : Int) := wf_u64 HN.out
        -- the map behind the put, whichever it is
        obtain ⟨mx, SX, w6, hcase⟩ : ∃ (mx : Nat) (SX : Int → Bool) (w6 : World), (C = 0 ∧ mx = w5'.heap.size ∧ (Instr.mapUpdate 62 (.map (some w5'.heap.size)) (.int .u64 (N : Int)) (.bool true)).run Try.prog (w5'.alloc (.map #[] 0)) = .ok () w6 ∨ C = 50 ∧ mx = mb ∧ SX = S ∧ (Instr.mapUpdate 62 (.map (some mb)) (.int .u64 (N : Int)) (.bool true)).run Try.prog w5' = .ok () w6) ∧
            BMap Try.prog 28 w6 mx (nb + 1) (fun y => if y = (N : Int) then true else SX y) ∧ Frm (fun i => i = mb) w5' w6 := by
          rcases HCC.out with hc | hc
          · obtain ⟨w6, h1, h2, h3⟩ := (BMap.made (P := Try.prog) (k := 28) w5').put_run (t := 62) Try.underlying28 Try.underlying62 (by decide) hwN true
            obtain ⟨D, q1, q2⟩ := h2
            obtain ⟨es, cl, q3, q4, q5, q6⟩ := q1
            refine ⟨_, _, w6, .inl ⟨hc, rfl, h1⟩, ⟨D, ⟨es, cl, q3, q4, by omega, q6⟩, q2⟩, ?_⟩
            exact (Frm.refl _ w5').alloc (.map #[] 0) |>.turned h3 (.inr (Nat.le_refl _))
          · obtain ⟨w6, h1, h2, h3⟩ := HM5.out.put_run (t := 62) Try.underlying28 Try.underlying62 (by have := HST.out.nb; unfold maxLen; omega) hwN true
            exact ⟨mb, S, w6, .inr ⟨hc, rfl, rfl, h1⟩, h2, (Frm.refl _ w5').turned h3 (.inl rfl)⟩
        obtain ⟨hcase, hm6, hF6⟩ := hcase
        have hdm : ¬ d = mb ∧ ¬ g = mb ∧ ¬ m = mb := ⟨fun e => HST.out.mn (.inl e.symm), fun e => HST.out.mn (.inr (.inl e.symm)), fun e => HST.out.mn (.inr (.inr e.symm))⟩
        have HE6 := Lib.hid (HE5.out.frame hF6 hdm.1 hdm.2.1 hdm.2.2)
        have HR6 := Lib.hid ((hF6.block k9 (lt_of_row HR5.out) (fun e => HKM.out e.symm)).trans HR5.out)
        have HB6 := Lib.hid (HB5.out.trans (hF6.below (B := w.heap.size) (fun i _ e => e ▸ HST.out.mw) HB5.out.size))
        have HM6 := Lib.hid hm6
        have PN := Lib.hid (pending_any HE6.out (by have := HST.out.n; omega))
        have HSX := Lib.hid (show C = 0 ∨ SX = S from by rcases hcase with h | h; (exact .inl h.1); (exact .inr h.2.2.1))
        have HO6 := Lib.hid (show ∀ i, own3 d g m i → i < w6.heap.size from fun i h => h.elim (fun h => h ▸ HE6.out.dlt) (fun h => h.elim (fun h => h ▸ HE6.out.glt) (fun h => h ▸ HE6.out.mlt)))
        have HMN := Lib.hid (show ¬ own3 d g m mx ∧ mx < w6.heap.size from by
          have h1 := HE5.out.dlt; have h2 := HE5.out.glt; have h3 := HE5.out.mlt
          refine ⟨fun h => ?_, hm6.lt⟩
          rcases hcase with ⟨_, e, _⟩ | ⟨_, e, _⟩
          · subst e
            rcases h with h | h | h <;> omega
          · subst e
            exact HST.out.mn h)
        have T8 := Lib.hid (show ∀ ss, PendS y.S ss → ss.length ≤ 1 ∧ (∀ i ∈ ss, wfi i) ∧ ∀ (k : Bool) (a : Int) (z : DS), z = (y.crash (keepOf k ss) (tearOf ss) a).up → Rest z ∧ z.great 0 ≤ m2.seq ∧
            ∃ l, z.lastMark 0 = l ∧ l.Ok ∧ 0 < l.seq ∧ (l.W.getD 0 0 = 5 ∨ l.W.getD 1 0 = flip1 (l.W.getD 0 0)) ∧ (if ((l.W.getD 0 0 : Nat) : Int) = (N : Int) then true else SX ((l.W.getD 0 0 : Nat) : Int)) = true from fun ss hps => by
          obtain ⟨q1, q2, q3⟩ := T7.out ss hps
          refine ⟨q1, q2, fun k a z hz => ?_⟩
          obtain ⟨zr, zt, zl⟩ := q3 k a z hz
          rw [HXX.out.2.2.2.1] at zl
          exact ⟨zr, zt, noted_next zl HSX.out HST.out.has HST.out.ok HST.out.pos HST.out.form HXX.out.1 HXX.out.2.1 HXX.out.2.2.2.2.2.2.1 HXX.out.2.2.2.2.2.2.2⟩)
        have u0m : (w5'.alloc (.map #[] 0)).cell? ⟨k9, 0, none⟩ = some (.int .u64 (N : Int)) := by
          rw [cell_of_row _ k9 0 _ _ _ ((Below.heap_alloc w5' (.map #[] 0) k9 (lt_of_row HR5.out)).trans HR5.out)]; rfl
        clear hm6 hF6 hdm HE5 HR5 HB5 HM5 HKM HCC T7
        rcases hcase with ⟨hc, hmx, hins⟩ | ⟨hc, hmx, hsx, hins⟩
        all_goals (
          subst hc
          subst hmx
          try clear hsx
          go_wp2_with (with_reducible show wpList _ _ _ _ _ _; refine wpList_store_new rfl 34 (.tmp 10) (.tmp 60) rfl 34 _ bm.cells.toArray rfl rfl HSM.out HS7.out bm.cells_one ?_; rw [← HW5.out])
          refine PN.out.mono ?_
          rintro e w7 ⟨v, ss, rfl, hps, hrow, hnil, hb7⟩
          obtain ⟨av, cv, rfl, hlc, hI⟩ := intsA_of hrow
          obtain ⟨hl1, hwf, hz⟩ := T8.out ss hps
          have HE7 := Lib.hid (HE6.out.below hb7 (Nat.le_refl _))
          have HB7 := Lib.hid (HB6.out.trans (hb7.mono HB6.out.size))
          have HR7 := Lib.hid ((hb7.block k9 (lt_of_row HR6.out)).trans HR6.out)
          have HM7 := Lib.hid (HM6.out.below hb7 (Nat.le_refl _))
          have HI := Lib.hid hI
          have HZ := Lib.hid hz
          have HWF := Lib.hid hwf
          have u2 : w7.cell? ⟨k9, 2, none⟩ = some (.int .i64 pa) := by rw [cell_of_row w7 k9 2 _ _ _ HR7.out]; rfl
          have u3 : w7.cell? ⟨k9, 3, none⟩ = some (.bool pk) := by rw [cell_of_row w7 k9 3 _ _ _ HR7.out]; rfl
          clear hps hrow hnil hb7 hI hz hwf PN HE6 HB6 HR6 HM6 T8 hins hlc u0 u0m
          -- what is pending, and whether it is kept
          obtain ⟨zz, hzz⟩ : ∃ zz, zz = (y.crash (keepOf pk ss) (tearOf ss) pa).up := ⟨_, rfl⟩
          obtain ⟨zr, zt, lf, hlf, lok, lpos, lform, lhas⟩ := HZ.out pk pa zz hzz
          have HZF := Lib.hid (show Rest zz ∧ zz.great 0 ≤ m2.seq ∧ zz.lastMark 0 = lf ∧ lf.Ok ∧ 0 < lf.seq ∧ (lf.W.getD 0 0 = 5 ∨ lf.W.getD 1 0 = flip1 (lf.W.getD 0 0)) ∧ (if ((lf.W.getD 0 0 : Nat) : Int) = (N : Int) then true else SX ((lf.W.getD 0 0 : Nat) : Int)) = true from ⟨zr, zt, hlf, lok, lpos, lform, lhas⟩)
          have HZZ := Lib.hid hzz
          have HGP := Lib.hid hgoodpa
          clear zr zt hlf lok lpos lform lhas hzz HZ
          rcases ss with _ | ⟨t, _ | ⟨t2, ss⟩⟩
          rotate_left 2
          · exfalso
            simp at hl1
          all_goals cases pk
          all_goals first
            | (have hk : w7.cell? ⟨k9, 3, none⟩ = some (.bool false) := u3
               have HZ3 := Lib.hid (show zz = (y.crash [] (-1) pa).up from HZZ.out)
               have CR := Lib.hid (crash_any HE7.out HXX.out.2.2.2.2.2.1 none 0 [] (by decide) (fun j hj => absurd hj (by simp)) (fun z hz => absurd hz (by simp)) (-1) pa (WalkArith.wf_i64 (by decide)) HGP.out)
               clear hk)
            | (have HZ3 := Lib.hid (show zz = (y.crash [] (-1) pa).up from HZZ.out)
               have CR := Lib.hid (crash_any HE7.out HXX.out.2.2.2.2.2.1 av cv [] (by decide) (fun j hj => absurd hj (by simp)) (fun z hz => absurd hz (by simp)) (-1) pa (WalkArith.wf_i64 (by decide)) HGP.out))
            | (have hk : w7.cell? ⟨k9, 3, none⟩ = some (.bool false) := u3
               obtain ⟨gp, rfl, hgb, hgl, hcp'⟩ := HI.out 0 (by simp)
               have hcp : w7.cell? ⟨gp, 0, none⟩ = some (.int .i64 t) := hcp'
               have HZ3 := Lib.hid (show zz = (y.crash [] t pa).up from HZZ.out)
               have CR := Lib.hid (crash_any HE7.out HXX.out.2.2.2.2.2.1 none 0 [] (by decide) (fun j hj => absurd hj (by simp)) (fun z hz => absurd hz (by simp)) t pa (HWF.out t (by simp)) HGP.out)
               clear hk hcp' hgb hgl)
            | (obtain ⟨gp, rfl, hgb, hgl, hcp'⟩ := HI.out 0 (by simp)
               have hcp : w7.cell? ⟨gp, 0, none⟩ = some (.int .i64 t) := hcp'
               have HZ3 := Lib.hid (show zz = (y.crash [t] t pa).up from HZZ.out)
               have CR := Lib.hid (crash_any HE7.out HXX.out.2.2.2.2.2.1 (some ⟨gp, 0, none⟩) cv [t] (by simp) (fun j hj => by
                  obtain rfl : j = 0 := by simpa using hj
                  refine ⟨_, rfl, by rw [zaddA]; exact hcp', fun e => ?_⟩
                  rw [zaddA] at e
                  have := HO6.out gp e
                  omega) (fun z hz => HWF.out z hz) t pa (HWF.out t (by simp)) HGP.out)
               clear hcp' hgb hgl)
          all_goals (
            clear HZZ HI HWF hl1
            go_wp2_with fail
            refine CR.out.mono ?_
            rintro e w8 ⟨rfl, hE8, hF8⟩
            have HE8 := Lib.hid hE8
            have HB8 := Lib.hid (HB7.out.trans (hF8.below (B := w.heap.size) (fun i _ e => HO.out i e) HB7.out.size))
            have HM8 := Lib.hid (HM7.out.keep (hF8.block _ HM7.out.lt HMN.out.1))
            have UP := Lib.hid (up_any HE8.out)
            clear hE8 hF8 CR HB7 HM7 HE7 HR7
            go_wp2_with fail
            refine UP.out.mono ?_
            rintro e w9 ⟨rfl, hE9, hF9⟩
            rw [← HZ3.out] at hE9
            have HE9 := Lib.hid hE9
            have HB9 := Lib.hid (HB8.out.trans (hF9.below (B := w.heap.size) (fun i _ e => HO.out i e) HB8.out.size))
            have HM9 := Lib.hid (HM8.out.keep (hF9.block _ HM8.out.lt HMN.out.1))
            have GU : Calls Try.prog 16 #[.pointer (some ⟨d, 0, none⟩), .int .i64 0] w9 fun e w' => e = .returned (.tuple #[.agg lf.cells.toArray, .int .i64 0]) ∧ Below w9.heap.size w9 w' := by
              have h := get_ok hE9 0 (by rw [HZF.out.1.n]; decide) HZF.out.1.calm.up
              rw [HZF.out.2.2.1, if_pos HZF.out.2.2.2.2.1, if_pos HZF.out.2.2.2.2.1] at h
              exact h
            have GUH := Lib.hid GU
            clear hE9 hF9 UP HB8 HM8 HE8 GU
            go_wp2_with fail
            refine GUH.out.mono ?_
            rintro e w10 ⟨rfl, hb10⟩
            obtain ⟨ke, hke⟩ : ∃ k, k = w10.heap.size := ⟨_, rfl⟩
            obtain ⟨wf, hwf⟩ : ∃ wf, wf = w10.alloc (.cells lf.cells.toArray 34) := ⟨_, rfl⟩
            have bf : Below w10.heap.size w10 wf := by rw [hwf]; exact (Below.refl _ _).alloc (Nat.le_refl _) _
            have rf : wf.heap[ke]? = some (.cells lf.cells.toArray 34 (0, 0)) := by rw [hwf, hke]; exact heap_alloc_new _ _
            have HSL := Lib.hid (show (Try.prog.info? 34).map (·.size) = some lf.cells.toArray.size by rw [List.size_toArray]; exact Try.markSize HZF.out.2.2.2.1)
            have HL7 := Lib.hid (show (#[Value.int .u64 0, .int .u64 0, .int .u64 0, .int .u64 0, .int .u64 0, .int .u64 0, .int .u64 0] : Array Value).size = lf.cells.toArray.size by have := MkD.cells_length HZF.out.2.2.2.1; simp [this])
            obtain ⟨_, c1, c2⟩ := row_word HZF.out.2.2.2.1 rf
            obtain ⟨_, c1m, _⟩ := row_word HZF.out.2.2.2.1 ((Below.heap_alloc wf (.map #[] 0) ke (lt_of_row rf)).trans rf)
            have b9 : Below w9.heap.size w9 wf := hb10.trans (bf.mono hb10.size)
            have hlook := ((HM9.out.below b9 (Nat.le_refl _))).look (t := 62) (e := 4) (x := ((lf.W.getD 0 0 : Nat) : Int)) Try.underlying28 Try.underlying62 (Try.zeroBool wf) (wf_u64 (word_lt' HZF.out.2.2.2.1 0))
            simp only [HZF.out.2.2.2.2.2.2] at hlook
            have hfl := flip1_bits (word_lt' HZF.out.2.2.2.1 0)
            obtain ⟨we, hins, hmE, htE⟩ := (BMap.made (P := Try.prog) (k := 28) wf).put_run (t := 62) (x := ((lf.W.getD 0 0 : Nat) : Int)) Try.underlying28 Try.underlying62 (by decide) (wf_u64 (word_lt' HZF.out.2.2.2.1 0)) true
            have be : Below wf.heap.size wf we := ((Below.refl _ wf).alloc (Nat.le_refl _) (.map #[] 0)).trans (((Frm.refl (fun i => i = wf.heap.size) (wf.alloc (.map #[] 0))).turned htE (.inl rfl)).below (B := wf.heap.size) (fun i _ e => by omega) (by simp))
            have b9e : Below w9.heap.size w9 we := b9.trans (be.mono b9.size)
            have hE10 := HE9.out.below b9e (Nat.le_refl _)
            have RL := Lib.hid (show NoRel w d g m L.length (.int .i64 ((i + 1 : Nat) : Int)) (.map (some wf.heap.size)) we from ⟨i + 1, wf.heap.size, zz, lf, _, _, n + 1, rfl, rfl, by omega,
              ⟨hE10, HZF.out.1, by have := HZF.out.2.1; have := HXX.out.2.2.1; omega, HZF.out.2.2.1, HZF.out.2.2.2.1, HZF.out.2.2.2.2.1, hmE,
                (fun h => by have h1 := HE9.out.dlt; have h2 := HE9.out.glt; have h3 := HE9.out.mlt; have h4 := b9.size; rcases h with h | h | h <;> omega),
                by have := HB9.out.size; have := b9.size; omega, by decide, by have := HST.out.n; omega, by simp, HZF.out.2.2.2.2.2.1, HB9.out.trans (b9e.mono HB9.out.size)⟩⟩)
            have hform : ((lf.W.getD 0 0 : Nat) : Int) = 5 ∨ bits .xor .u64 ((lf.W.getD 0 0 : Nat) : Int) 1 = ((lf.W.getD 1 0 : Nat) : Int) := by
              rcases HZF.out.2.2.2.2.2.1 with h | h
              · left; rw [h]; rfl
              · right; rw [h, hfl]
            have HWF := Lib.hid hwf
            have HKE := Lib.hid hke
            clear hb10 bf rf hmE htE be b9 b9e hE10 GUH HB9 HM9 HE9 HZF HZ3 hwf hke hfl
            generalize ((lf.W.getD 0 0 : Nat) : Int) = q0 at *
            generalize ((lf.W.getD 1 0 : Nat) : Int) = q1 at *
            rcases Decidable.em (q0 = 5) with h5 | h5
            · subst h5
              clear hform
              go_wp2_with (with_reducible show wpList _ _ _ _ _ _; refine wpList_store_new rfl 34 (.tmp 14) (.tmp 90) rfl 34 _ lf.cells.toArray rfl rfl HSL.out HL7.out lf.cells_one ?_; rw [← HWF.out, ← HKE.out])
              exact ⟨RL.out, by simp [intOf]; omega⟩
            · have hxr := hform.resolve_left h5
              clear hform
              go_wp2_with (with_reducible show wpList _ _ _ _ _ _; refine wpList_store_new rfl 34 (.tmp 14) (.tmp 90) rfl 34 _ lf.cells.toArray rfl rfl HSL.out HL7.out lf.cells_one ?_; rw [← HWF.out, ← HKE.out])
              exact ⟨RL.out, by simp [intOf]; omega⟩))
      · obtain rfl : i = L.length := by omega
        go_wp2_with fail
        go_ret
        exact ⟨rfl, HST.out.be⟩
end Go.Proofs.Ytgbmkolpdnenlaa.Dk
