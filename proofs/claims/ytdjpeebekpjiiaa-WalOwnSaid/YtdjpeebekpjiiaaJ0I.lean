/- Frames in a row; all frames of bytes are read. -/
import Derived.Test.YtdjpeebekpjiiaaJ0H
import Derived.Test.YtdjpeebekpjiiaaJ0E
import Derived.Test.YtdjpeebekpjiiaaJ0F
namespace Go.Proofs.Ytdjpeebekpjiiaa.Dk
open Go Go.RowKit
set_option linter.unusedVariables false
set_option linter.unusedSimpArgs false
def fcs (l : List Fm) (vs : List Value) : List Value := (List.zipWith (fun (f : Fm) v => [Value.int .i64 (f.kind : Int), v]) l vs).flatten
theorem fcs_snoc {l : List Fm} {vs : List Value} (h : vs.length = l.length) (f : Fm) (v : Value) : fcs (l ++ [f]) (vs ++ [v]) = fcs l vs ++ [.int .i64 (f.kind : Int), v] := by
  unfold fcs
  rw [List.zipWith_append h.symm, List.flatten_append]
  simp
theorem fcs_at : ∀ {l : List Fm} {vs : List Value} (h : vs.length = l.length) {j : Nat} {f : Fm} {v : Value}, l[j]? = some f → vs[j]? = some v → (fcs l vs)[j * 2]? = some (.int .i64 (f.kind : Int)) ∧ (fcs l vs)[j * 2 + 1]? = some v
  | [], _, _, _, _, _, h1, _ => by simp at h1
  | f :: l, [], h, _, _, _, _, _ => by simp at h
  | f :: l, v :: vs, h, 0, f', v', h1, h2 => by
    simp at h1 h2
    subst h1 h2
    exact ⟨rfl, rfl⟩
  | f :: l, v :: vs, h, j + 1, f', v', h1, h2 => by
    have ih := fcs_at (l := l) (vs := vs) (by simpa using h) (j := j) (f := f') (v := v') (by simpa using h1) (by simpa using h2)
    have e : fcs (f :: l) (v :: vs) = .int .i64 (f.kind : Int) :: v :: fcs l vs := by simp [fcs]
    rw [e, show (j + 1) * 2 = j * 2 + 2 by omega, show j * 2 + 2 + 1 = (j * 2 + 1) + 2 by omega]
    simpa using ih
/-- Frames in a row of their own, each with bytes of its own. -/
def FrRow (w : World) (B : Nat) (v : Value) (l : List Fm) : Prop :=
  ∃ vs : List Value, vs.length = l.length ∧ w.ownsRow B 75 2 v l.length (fcs l vs) ∧ ∀ (j : Nat) f u, l[j]? = some f → vs[j]? = some u → w.ownsRow B 5 1 u f.data.length (bvs f.data)
theorem FrRow.nil (w : World) (B : Nat) : FrRow w B (.slice none 0 0) [] := ⟨[], rfl, ⟨rfl, .inl ⟨rfl, rfl⟩⟩, fun j f u h => by simp at h⟩
theorem FrRow.below {w w' : World} {B : Nat} {v : Value} {l : List Fm} (h : FrRow w B v l) (hb : Below w.heap.size w w') : FrRow w' B v l := by
  obtain ⟨vs, h1, h2, h3⟩ := h
  exact ⟨vs, h1, own_belowK h2 hb, fun j f u hf hu => own_belowK (h3 j f u hf hu) hb⟩
theorem own_base {w : World} {B B' : Nat} {e : TypeId} {size n : Nat} {v : Value} {xs : List Value} (h : w.ownsRow B e size v n xs) (hB : B' ≤ B) : w.ownsRow B' e size v n xs := by
  refine ⟨h.1, ?_⟩
  rcases h.2 with h | ⟨g, cap, cur, e, hb, rest⟩
  · exact .inl h
  · exact .inr ⟨g, cap, cur, e, Nat.le_trans hB hb, rest⟩
/-- One frame more. -/
theorem FrRow.snoc {w w' : World} {B : Nat} {v v' : Value} {l : List Fm} {f : Fm} {u : Value} {vs : List Value} (h1 : vs.length = l.length) (h2 : w.ownsRow B 75 2 v l.length (fcs l vs)) (h3 : ∀ (j : Nat) f u, l[j]? = some f → vs[j]? = some u → w.ownsRow B 5 1 u f.data.length (bvs f.data))
    (hu : w.ownsRow B 5 1 u f.data.length (bvs f.data)) (hg : w'.ownsRow B 75 2 v' (l.length + 1) (fcs l vs ++ [.int .i64 (f.kind : Int), u]))
    (hk : ∀ k, k < w.heap.size → some k ≠ v.ownBlock → w'.heap[k]? = w.heap[k]?) : FrRow w' B v' (l ++ [f]) := by
  have hne : ∀ (x : Value) n xs, w.ownsRow B 5 1 x n xs → ∀ b, x.ownBlock = some b → some b ≠ v.ownBlock := fun x n xs hx b hb e => by
    rcases hx.2 with ⟨rfl, _⟩ | ⟨g, cap, cur, rfl, _, hh, _⟩
    · simp [Value.ownBlock] at hb
    · have hb' : g = b := by simpa [Value.ownBlock] using hb
      subst hb'
      exact own_neK h2 hh (by decide) e
  refine ⟨vs ++ [u], by simp [h1], ?_, ?_⟩
  · rw [fcs_snoc h1, List.length_append, List.length_singleton]
    exact hg
  · intro j f' u' hf' hu'
    by_cases hj : j < l.length
    · rw [List.getElem?_append_left hj] at hf'
      rw [List.getElem?_append_left (by omega)] at hu'
      exact own_keepK (h3 j f' u' hf' hu') fun b hb hlt => hk b hlt (hne _ _ _ (h3 j f' u' hf' hu') b hb)
    · have hj2 : j = l.length := by
        have := (List.getElem?_eq_some_iff.1 hf').1
        simp at this
        omega
      subst hj2
      rw [List.getElem?_append_right (Nat.le_refl _)] at hf'
      rw [List.getElem?_append_right (by omega)] at hu'
      simp [h1] at hf' hu'
      subst hf' hu'
      exact own_keepK hu fun b hb hlt => hk b hlt (hne _ _ _ hu b hb)
theorem readW_bad (sm : Nat → Nat → List UInt8 → Nat) : ∀ (fuel p : Nat) (b : List UInt8), (readW sm fuel p b).2 ≠ 0 → (readW sm fuel p b).1 = []
  | 0, p, b, h => by simp [readW] at h
  | fuel + 1, p, b, h => by
    rw [readW] at h ⊢
    split at h
    · simp at h
    · rename_i h0
      rw [if_neg h0]
      split at h
      · rename_i h1
        rw [if_pos h1]
        exact readW_bad sm fuel _ _ h
      · rename_i h1
        rw [if_neg h1]
        dsimp only at h ⊢
        split at h
        · rename_i h2
          rw [if_pos h2]
        · rename_i h2
          rw [if_neg h2]
          split at h
          · rename_i h3
            rw [if_pos h3]
          · simp at h
/-- What is known behind some frames, and what is to be read. -/
def comb (l : List Fm) (y : List Fm × Int) : List Fm × Int := if y.2 ≠ 0 then ([], y.2) else (l ++ y.1, 0)
theorem comb_nil (sm : Nat → Nat → List UInt8 → Nat) (fuel p : Nat) (b : List UInt8) : comb [] (readW sm fuel p b) = readW sm fuel p b := by
  unfold comb
  split
  · rename_i h
    rw [← readW_bad sm fuel p b h]
  · rename_i h
    have h : (readW sm fuel p b).2 = 0 := by simpa using h
    rw [List.nil_append, ← h]
theorem comb_snoc (l : List Fm) (f : Fm) (y : List Fm × Int) : comb l (if y.2 ≠ 0 then ([], y.2) else (f :: y.1, 0)) = comb (l ++ [f]) y := by
  unfold comb
  by_cases h : y.2 = 0
  · simp [h]
  · simp [h]
structure RaRel (w : World) (R : List Fm × Int) (ko : Nat) (vp vb vl : Value) (wr : World) (l1 : List Fm) (p off c fuel : Nat) (b : List UInt8) : Prop where
  vp : vp = .int .u64 (p : Int)
  vb : vb = .slice (some ⟨ko, off, none⟩) b.length c
  cap : b.length ≤ c
  rng : w.rangeAt ko off (bvs b)
  pl : p + b.length ≤ 9223372036854775807
  fu : b.length < fuel
  few : l1.length + b.length ≤ 1000000
  res : R = comb l1 (readW smW fuel p b)
  row : FrRow wr w.heap.size vl l1
  bel : Below w.heap.size w wr
theorem Try.infoFrame : (Try.prog.info? 75).map (fun i => (i.zero, i.size, i.bytes)) = some (some (.agg #[.int .i64 0, .slice none 0 0]), 2, 32) := by kernel_rfl
theorem readF_ok {sm : Nat → Nat → List UInt8 → Nat} {p : Nat} {b : List UInt8} (h : (readF sm p b).2 = 0) : 9 + (readF sm p b).1.data.length ≤ b.length ∧ (readF sm p b).1.kind ≤ 3 := by
  unfold readF at h ⊢
  split at h
  · simp at h
  · rename_i h0
    rw [if_neg h0]
    split at h
    · simp at h
    · rename_i h1
      rw [if_neg h1]
      split at h
      · simp at h
      · rename_i h2
        rw [if_neg h2]
        dsimp only
        rw [List.length_take, List.length_drop]
        omega
theorem readW_rest {sm : Nat → Nat → List UInt8 → Nat} {f p : Nat} {b : List UInt8} (hb : b ≠ []) (hr : isRestW p b = true) : readW sm (f + 1) p b = readW sm f (p + min (toSeg p) b.length) (b.drop (min (toSeg p) b.length)) := by
  rw [readW, if_neg hb, if_pos hr]
theorem readW_err {sm : Nat → Nat → List UInt8 → Nat} {f p : Nat} {b : List UInt8} (hb : b ≠ []) (hr : isRestW p b = false) {F : Fm × Int} (hF : F = readF sm p (b.take (min (toSeg p) b.length))) (h : F.2 ≠ 0) : readW sm (f + 1) p b = ([], F.2) := by
  rw [readW, if_neg hb, if_neg (by rw [hr]; decide)]
  dsimp only
  rw [← hF, if_pos h]
theorem readW_ok {sm : Nat → Nat → List UInt8 → Nat} {f p : Nat} {b : List UInt8} (hb : b ≠ []) (hr : isRestW p b = false) {F : Fm × Int} (hF : F = readF sm p (b.take (min (toSeg p) b.length))) (h : F.2 = 0) :
    ∀ y, y = readW sm f (p + (9 + F.1.data.length)) (b.drop (9 + F.1.data.length)) → readW sm (f + 1) p b = if y.2 ≠ 0 then ([], y.2) else (F.1 :: y.1, 0) := by
  intro y hy
  rw [readW, if_neg hb, if_neg (by rw [hr]; decide)]
  dsimp only
  rw [← hF, if_neg (by simp [h]), ← hy]
theorem wread_any {p : Nat} (hp : p < 18446744073709551616) {w : World} {g off n c : Nat} {b : List UInt8} (hn : b.length = n) (hl : n ≤ 1000000) (hc : n ≤ c) (h : w.rangeAt g off (bvs b)) :
    Calls Try.prog 65 #[.int .u64 (p : Int), .slice (some ⟨g, off, none⟩) n c] w fun e w' => RdPost w (readF smW p b).1 (readF smW p b).2 e w' := by
  subst hn
  by_cases h9 : b.length < 9
  · refine (wread_short h9).mono ?_
    rintro e w' ⟨rfl, hb⟩
    have e8 : readF smW p b = (⟨0, []⟩, 8) := by unfold readF; rw [if_pos h9]
    rw [e8]
    exact .inl ⟨by decide, rfl, hb⟩
  · exact wread_long hp hl (by omega) hc h
set_option maxRecDepth 100000 in
set_option maxHeartbeats 8000000 in
theorem wreadAll_any {p : Nat} {w : World} {ko c : Nat} {b : List UInt8} (hl : b.length ≤ 1000000) (hp : p + b.length ≤ 9223372036854775807) (hc : b.length ≤ c) (h : w.rangeAt ko 0 (bvs b)) :
    Calls Try.prog 35 #[.int .u64 (p : Int), .slice (some ⟨ko, 0, none⟩) b.length c] w fun e w' =>
      Below w.heap.size w w' ∧ (((readW smW (b.length + 1) p b).2 ≠ 0 ∧ e = .returned (.tuple #[.slice none 0 0, .int .i64 (readW smW (b.length + 1) p b).2])) ∨
        ((readW smW (b.length + 1) p b).2 = 0 ∧ ∃ v, e = .returned (.tuple #[v, .int .i64 0]) ∧ FrRow w' w.heap.size v (readW smW (b.length + 1) p b).1)) := by
  obtain ⟨i0, hi, hz0, hz1, hz2⟩ := info_parts Try.infoFrame
  obtain ⟨R, hR⟩ : ∃ R, R = readW smW (b.length + 1) p b := ⟨_, rfl⟩
  rw [← hR]
  have R0 := Lib.hid (show RaRel w R ko (.int .u64 (p : Int)) (.slice (some ⟨ko, 0, none⟩) b.length c) (.slice none 0 0) w [] p 0 c (b.length + 1) b from
    ⟨rfl, rfl, hc, h, hp, Nat.lt_succ_self _, by simpa using hl, by rw [comb_nil, hR], FrRow.nil w _, Below.refl _ _⟩)
  clear hR hl hp hc h
  go_enter Try.func35, Try.ntmps35
  go_wp2_with fail
  go_loopw [0, 1, 6] (fun vp vb vl wr => ∃ l1 p off c fuel b, RaRel w R ko vp vb vl wr l1 p off c fuel b) (fun _ vb _ _ => lenOf2 vb)
  case atStart => exact ⟨_, _, _, _, _, _, R0.out⟩
  case round =>
    obtain ⟨wo, rfl⟩ : ∃ wo : World, wo = wr := ⟨_, rfl⟩
    obtain ⟨l1, p, off, c, fuel, b, rfl, rfl, hcap, hrng, hpl, hfu, hfew, hres, hrow, hbel⟩ := hrel
    have HRNG := Lib.hid hrng
    have HRES := Lib.hid hres
    have HROW := Lib.hid hrow
    have HBEL := Lib.hid hbel
    clear hrng hres hrow hbel
    by_cases hb0 : b = []
    · subst hb0
      have hR : R = (l1, 0) := by rw [HRES.out]; cases fuel <;> simp [readW, comb]
      have HRR := Lib.hid hR
      clear HRES hR
      go_wp2_with fail
      go_ret2
      rw [HRR.out]
      exact ⟨HBEL.out, .inr ⟨rfl, _, rfl, HROW.out⟩⟩
    · have hbl : 0 < b.length := List.length_pos_iff.2 hb0
      have hbi : (0 : Int) < (b.length : Int) := by omega
      obtain ⟨f, rfl⟩ : ∃ f, fuel = f + 1 := ⟨fuel - 1, by omega⟩
      have ts := toSeg_pos p
      have SG := Lib.hid (wseg_any p (by omega) wo)
      have WI := wisRest_any (p := p) (by omega) (w := wo) (g := ko) (off := off) (c := c) (b := b) (by omega) hcap (range_below HRNG.out HBEL.out (Nat.le_refl _))
      obtain ⟨N, hN⟩ : ∃ N, N = min (toSeg p) b.length := ⟨_, rfl⟩
      obtain ⟨t, ht⟩ : ∃ t, t = toSeg p := ⟨_, rfl⟩
      have RR := @readW_rest smW f p b hb0
      have RE := @readW_err smW f p b hb0
      have RO := @readW_ok smW f p b hb0
      rw [← hN] at RR RE RO
      rw [← ht] at hN SG ts
      obtain ⟨ir, hir⟩ : ∃ ir, ir = isRestW p b := ⟨_, rfl⟩
      rw [← hir] at WI RR RE RO
      have HWI := Lib.hid WI
      have HRR := Lib.hid RR
      have HRE := Lib.hid RE
      have HRO := Lib.hid RO
      have HNN := Lib.hid (show 0 < N ∧ N ≤ b.length by omega)
      clear WI RR RE RO ht hir hb0
      go_upto_region 4 with (with_reducible refine SG.out.mono ?_; rintro e w2 ⟨rfl, rfl⟩)
      rw [show min (t : Int) (b.length : Int) = (N : Int) by omega]
      clear hN ts SG
      go_wp2_with fail
      refine HWI.out.mono ?_
      rintro e w2 ⟨rfl, q, hw2⟩
      have b2 : Below wo.heap.size wo w2 := by rw [hw2]; exact below_drewN (Below.refl _ _) q
      have RNG2 := Lib.hid (range_below HRNG.out (HBEL.out.trans (b2.mono HBEL.out.size)) (Nat.le_refl _))
      have ROW2 := Lib.hid (HROW.out.below b2)
      have BEL2 := Lib.hid (HBEL.out.trans (b2.mono HBEL.out.size))
      clear hw2 b2
      obtain ⟨hN0, hNb⟩ := HNN.out
      have hNi : (N : Int) ≤ (b.length : Int) := by omega
      have hNc : (N : Int) ≤ (c : Int) := by omega
      cases ir
      rotate_left
      · have hres2 := HRR.out rfl
        by_cases hcw2 : N = c
        · have ci : (c : Int) = (N : Int) := by omega
          have RL := Lib.hid (show RaRel w R ko (.int .u64 ((p : Int) + (N : Int))) (.slice (some ⟨ko, off, none⟩) 0 0) u6 w2 l1 (p + N) off 0 f (b.drop (N)) from
            ⟨by rw [Int.natCast_add]; try rfl, by rw [show (b.drop N).length = 0 by rw [List.length_drop]; omega], by rw [List.length_drop]; omega, (fun j u hj => by rw [List.drop_eq_nil_of_le (by omega)] at hj; simp [bvs] at hj), by rw [List.length_drop]; omega, by rw [List.length_drop]; omega, by rw [List.length_drop]; omega, (by rw [HRES.out, hres2]), ROW2.out, BEL2.out⟩)
          have ML := Lib.hid (show 0 < b.length by omega)
          go_wp2_with fail
          exact ⟨⟨_, _, _, _, _, _, RL.out⟩, ML.out⟩
        · have ci : ¬ (c : Int) = (N : Int) := by omega
          have ci2 : (N : Int) < (c : Int) := by omega
          have RL := Lib.hid (show RaRel w R ko (.int .u64 ((p : Int) + (N : Int))) (.slice (some ⟨ko, off + (N), none⟩) (b.length - (N)) (c - (N))) u6 w2 l1 (p + N) (off + (N)) (c - (N)) f (b.drop (N)) from
            ⟨by rw [Int.natCast_add]; try rfl, by rw [List.length_drop], by rw [List.length_drop]; omega, (by have h := range_sub HRNG.out (N) (b.length - (N)); rwa [List.take_of_length_le (by rw [List.length_drop]; exact Nat.le_refl _)] at h), by rw [List.length_drop]; omega, by rw [List.length_drop]; omega, by rw [List.length_drop]; omega, (by rw [HRES.out, hres2]), ROW2.out, BEL2.out⟩)
          have ML := Lib.hid (show b.length - (N) < b.length by omega)
          go_wp2_with fail
          exact ⟨⟨_, _, _, _, _, _, RL.out⟩, ML.out⟩
      · have RDC := Lib.hid (wread_any (p := p) (by omega) (w := w2) (g := ko) (off := off) (n := N) (c := c) (b := b.take N) (by rw [List.length_take]; omega) (by omega) (by omega) (by have h := range_sub RNG2.out 0 N; rw [List.drop_zero, Nat.add_zero] at h; exact h))
        obtain ⟨F, hF⟩ : ∃ F, F = readF smW p (b.take N) := ⟨_, rfl⟩
        rw [← hF] at RDC
        have fok : F.2 = 0 → 9 + F.1.data.length ≤ N ∧ F.1.kind ≤ 3 := fun h => by
          have h2 := readF_ok (sm := smW) (p := p) (b := b.take N) (by rw [← hF]; exact h)
          rw [← hF, List.length_take] at h2
          omega
        have re := HRE.out rfl hF
        have ro := HRO.out rfl hF
        obtain ⟨f0, code⟩ := F
        dsimp only at fok re ro RDC
        have FOK := Lib.hid fok
        have REE := Lib.hid re
        have ROO := Lib.hid ro
        clear fok re ro hF HRE HRO HRR HWI
        go_wp2_with fail
        refine RDC.out.mono ?_
        rintro e w3 (⟨hcz, rfl, hb3⟩ | ⟨hcz, v, rfl, hown, hb3⟩)
        · have hR : R = ([], code) := by rw [HRES.out, REE.out hcz]; simp [comb, hcz]
          have HR2 := Lib.hid hR
          have c0 : (code == 0) = false := by simpa using hcz
          have HCZ := Lib.hid hcz
          have B3 := Lib.hid (BEL2.out.trans (hb3.mono BEL2.out.size))
          clear hR hb3 hcz
          go_wp2_with fail
          go_ret2
          rw [HR2.out]
          refine ⟨?_, .inl ⟨HCZ.out, rfl⟩⟩
          exact B3.out.alloc B3.out.size _
        · subst hcz
          obtain ⟨hf1, hf2⟩ := FOK.out rfl
          obtain ⟨ao, cv, rfl⟩ := own_slK hown
          obtain ⟨f1, d1⟩ := f0
          dsimp only at hf1 hf2 hown ROO
          obtain ⟨dl, hdl⟩ : ∃ dl, dl = d1.length := ⟨_, rfl⟩
          rw [← hdl] at hown hf1 ⊢
          have RES3 := Lib.hid (show R = comb (l1 ++ [⟨f1, d1⟩]) (readW smW f (p + (9 + dl)) (b.drop (9 + dl))) by
            have h := ROO.out rfl _ rfl
            rw [HRES.out, h, ← comb_snoc, ← hdl])
          obtain ⟨w4, hw4⟩ : ∃ w4, w4 = w3.alloc (.cells #[.int .i64 (f1 : Int), .slice ao dl cv] 75) := ⟨_, rfl⟩
          obtain ⟨w5, hw5⟩ : ∃ w5, w5 = w4.alloc (.cells #[.int .i64 (f1 : Int), .slice ao dl cv] 75) := ⟨_, rfl⟩
          have b34 : Below w3.heap.size w3 w4 := by rw [hw4]; exact (Below.refl _ _).alloc (Nat.le_refl _) _
          have b45 : Below w4.heap.size w4 w5 := by rw [hw5]; exact (Below.refl _ _).alloc (Nat.le_refl _) _
          have b35 : Below w3.heap.size w3 w5 := b34.trans (b45.mono b34.size)
          have b25 : Below w2.heap.size w2 w5 := hb3.trans (b35.mono hb3.size)
          have VLT := Lib.hid (show ∀ k, u6.ownBlock = some k → k < w2.heap.size from by
            obtain ⟨vs, _, h, _⟩ := ROW2.out
            exact fun k hk => (h.lt k hk).2)
          obtain ⟨vs, hv1, hv2, hv3⟩ := ROW2.out.below b25
          have hu5 : w5.ownsRow w.heap.size 5 1 (.slice ao dl cv) dl (bvs d1) := own_base (own_belowK hown b35) BEL2.out.size
          have SRC := src_oneK (P := Try.prog) (tx := 30) (e := 75) (size := 2) Try.underlying30 w4 [.int .i64 (f1 : Int), .slice ao dl cv] rfl (by intro u hu; simp only [List.mem_cons, List.not_mem_nil, or_false] at hu; rcases hu with rfl | rfl <;> rfl)
          rw [show ([.int .i64 (f1 : Int), .slice ao dl cv] : List Value).toArray = #[.int .i64 (f1 : Int), .slice ao dl cv] from rfl, ← hw5] at SRC
          have HSRC := Lib.hid SRC
          have HOWN := Lib.hid hv2
          have B5 := Lib.hid (BEL2.out.trans (b25.mono BEL2.out.size))
          have HV1 := Lib.hid hv1
          have HV3 := Lib.hid hv3
          have HU5 := Lib.hid hu5
          have HW4 := Lib.hid hw4
          have HW5 := Lib.hid hw5
          have HDL := Lib.hid hdl
          have Z23 := Lib.hid hb3.size
          have Z35 := Lib.hid (show w3.heap.size < w5.heap.size from by rw [hw5, hw4]; simp; omega)
          have E45 := Lib.hid (show w5.heap[w3.heap.size]? = w4.heap[w3.heap.size]? from b45.block _ (by rw [hw4]; simp))
          have hl1 : l1.length ≤ 1000000 := by omega
          clear SRC hv1 hv2 hv3 hu5 hw4 hw5 hdl b34 b45 b35 b25 hown hb3
          go_upto_region 8 with fail
          rw [← HW4.out]
          have k41 : w4.cell? ⟨w3.heap.size, 0, none⟩ = some (.int .i64 (f1 : Int)) := by rw [HW4.out, cell_of_row _ w3.heap.size 0 _ _ _ (heap_alloc_new _ _)]; rfl
          have k42 : w4.cell? ⟨w3.heap.size, 1, none⟩ = some (.slice ao dl cv) := by rw [HW4.out, cell_of_row _ w3.heap.size 1 _ _ _ (heap_alloc_new _ _)]; rfl
          obtain ⟨g8, hg8⟩ : ∃ g8, g8 = w3.heap.size := ⟨_, rfl⟩
          rw [← hg8] at k41 k42 ⊢
          have K42 := Lib.hid k42
          have HG8 := Lib.hid hg8
          clear hg8
          go_upto_region 9 with (at_builtin; rw [← HW5.out]; refine wpList_append_own_src _ rfl (.tmp 33) (.tmp 35) 30 30 rfl w.heap.size 75 i0 _ 2 32 Try.underlying30 hi hz0 hz1 hz2 rfl _ _ _ rfl HOWN.out _ 1 [.int .i64 (f1 : Int), .slice ao dl cv] rfl HSRC.out (by unfold maxLen; omega) (by omega) B5.out.size ?_)
          rintro v6 w6 ⟨ho, hgr, hat⟩
          have ROW6 := Lib.hid (FrRow.snoc (f := ⟨f1, d1⟩) (u := .slice ao dl cv) HV1.out HOWN.out HV3.out (by show w5.ownsRow _ _ _ _ d1.length _; rw [← HDL.out]; exact HU5.out) ho (fun k hk hne => hgr.block k hk hne))
          have B6 := Lib.hid (B5.out.grown hgr B5.out.size (fun k e => (HOWN.out.lt k e).1))
          have k46 : w6.cell? ⟨g8, 1, none⟩ = some (.slice ao dl cv) := by
            rw [World.cell?_of_block (w := w4) (a := ⟨g8, 1, none⟩) ?_]
            · exact K42.out
            · show w6.heap[g8]? = w4.heap[g8]?
              rw [hgr.block g8 (by rw [HG8.out]; exact Z35.out) (fun e => by have h1 := VLT.out g8 e.symm; have h2 := Z23.out; have h3 := HG8.out; omega), HG8.out]
              exact E45.out
          clear ho hgr hat k41 k42
          by_cases hc6 : 9 + dl = c
          · have ci : (c : Int) = (9 + (dl : Int)) := by omega
            have RL := Lib.hid (show RaRel w R ko (.int .u64 ((p : Int) + (9 + (dl : Int)))) (.slice (some ⟨ko, off, none⟩) (b.length - (9 + dl)) (c - (9 + dl))) v6 w6 (l1 ++ [⟨f1, d1⟩]) (p + (9 + dl)) off (c - (9 + dl)) f (b.drop (9 + dl)) from
              ⟨by rw [Int.natCast_add, Int.natCast_add]; rfl, by rw [List.length_drop], by rw [List.length_drop]; omega, (fun j u hj => by rw [List.drop_eq_nil_of_le (by omega)] at hj; simp [bvs] at hj), by rw [List.length_drop]; omega, by rw [List.length_drop]; omega, by rw [List.length_drop, List.length_append, List.length_singleton]; omega, RES3.out, ROW6.out, B6.out⟩)
            have ML := Lib.hid (show b.length - (9 + dl) < b.length by omega)
            go_wp2_with fail
            exact ⟨⟨_, _, _, _, _, _, RL.out⟩, ML.out⟩
          · have ci : ¬ (c : Int) = (9 + (dl : Int)) := by omega
            have ci2 : (9 + (dl : Int)) < (c : Int) := by omega
            have RL := Lib.hid (show RaRel w R ko (.int .u64 ((p : Int) + (9 + (dl : Int)))) (.slice (some ⟨ko, off + (9 + dl), none⟩) (b.length - (9 + dl)) (c - (9 + dl))) v6 w6 (l1 ++ [⟨f1, d1⟩]) (p + (9 + dl)) (off + (9 + dl)) (c - (9 + dl)) f (b.drop (9 + dl)) from
              ⟨by rw [Int.natCast_add, Int.natCast_add]; rfl, by rw [List.length_drop], by rw [List.length_drop]; omega, (by have h := range_sub HRNG.out (9 + dl) (b.length - (9 + dl)); rwa [List.take_of_length_le (by rw [List.length_drop]; exact Nat.le_refl _)] at h), by rw [List.length_drop]; omega, by rw [List.length_drop]; omega, by rw [List.length_drop, List.length_append, List.length_singleton]; omega, RES3.out, ROW6.out, B6.out⟩)
            have ML := Lib.hid (show b.length - (9 + dl) < b.length by omega)
            go_wp2_with fail
            exact ⟨⟨_, _, _, _, _, _, RL.out⟩, ML.out⟩
end Go.Proofs.Ytdjpeebekpjiiaa.Dk
/- Bytes laid over the sectors of a ring are there again: lists and numbers alone. -/
namespace Go.Proofs.Ytdjpeebekpjiiaa.Dk
open Go Go.RowKit
set_option linter.unusedVariables false
set_option linter.unusedSimpArgs false

/-- A disk of N sectors that goes on: powered, without a fuse, each sector whole. -/
structure Good (x : DS) (N : Nat) : Prop where
  up : x.down = false
  fu : x.fuse = -1
  n : x.s.length = N
  len : ∀ b ∈ x.s, b.length = 128
  wl : ∀ i l, x.S i = some l → l.length = 128 ∧ 0 ≤ i ∧ i < (N : Int)
theorem good_new (n : Nat) : Good (DS.new n) n := ⟨rfl, rfl, by simp [DS.new], fun b hb => by simp [DS.new] at hb; rw [hb.2]; rfl, fun i l h => by simp [DS.new] at h⟩
theorem Good.has {x : DS} {N : Nat} (h : Good x N) {i : Nat} (hi : i < N) : x.has (i : Int) = true := by
  simp [DS.has, h.n]; exact hi
theorem Good.read {x : DS} {N : Nat} (h : Good x N) {i : Nat} (hi : i < N) : (x.read (i : Int)).2 = 0 ∧ (x.read (i : Int)).1.length = 128 := by
  unfold DS.read
  rw [if_neg (by rw [h.up]; decide)]
  cases hs : x.S (i : Int) with
  | some l => exact ⟨rfl, (h.wl _ _ hs).1⟩
  | none =>
    simp only [DS.sure, h.has hi, if_neg (show ¬ (true = false) by decide)]
    refine ⟨trivial, ?_⟩
    apply h.len
    have : i < x.s.length := by rw [h.n]; exact hi
    simp [List.getD, this]
theorem Good.spend {x : DS} {N : Nat} (h : Good x N) : x.spend = x := by
  unfold DS.spend
  rw [if_neg (by rw [h.fu]; decide), if_neg (by rw [h.fu]; decide)]
theorem Good.wcode {x : DS} {N : Nat} (h : Good x N) {i : Nat} (hi : i < N) : x.wcode (i : Int) 128 = 0 := by
  simp [DS.wcode, h.up, h.has hi, h.fu]
theorem Good.writeEq {x : DS} {N : Nat} (h : Good x N) {i : Nat} (hi : i < N) {b : List UInt8} (hb : b.length = 128) : x.write (i : Int) b = { x with S := upd x.S (i : Int) b, wr := wrap64 (x.wr + 1) } := by
  unfold DS.write
  rw [if_neg (by rw [h.up]; decide), if_neg (by rw [h.has hi]; decide), if_neg (by omega), if_neg (by omega), if_neg (by rw [h.fu]; decide), h.spend]
theorem Good.write {x : DS} {N : Nat} (h : Good x N) {i : Nat} (hi : i < N) {b : List UInt8} (hb : b.length = 128) : Good (x.write (i : Int) b) N := by
  rw [h.writeEq hi hb]
  refine ⟨h.up, h.fu, h.n, h.len, fun j l hl => ?_⟩
  simp only [upd] at hl
  split at hl
  · rename_i e
    cases hl
    exact ⟨hb, by omega, by omega⟩
  · exact h.wl j l hl
theorem Good.writeRead {x : DS} {N : Nat} (h : Good x N) {i : Nat} (hi : i < N) {b : List UInt8} (hb : b.length = 128) (j : Nat) : (x.write (i : Int) b).read (j : Int) = if j = i then (b, 0) else x.read (j : Int) := by
  rw [h.writeEq hi hb]
  unfold DS.read
  simp only [h.up, upd]
  by_cases e : j = i
  · subst e; simp
  · have : ¬ (j : Int) = (i : Int) := by omega
    simp [e, this]
    rfl
/-- The flush of such a disk. -/
theorem Good.flush {x : DS} {N : Nat} (h : Good x N) : Good x.flush N ∧ x.fcode = 0 ∧ ∀ j : Nat, j < N → x.flush.read (j : Int) = x.read (j : Int) := by
  have e : x.flush = { x with s := Dk.laid x.s x.S (fun _ => false), S := fun _ => none, fl := wrap64 (x.fl + 1) } := by
    unfold DS.flush
    rw [if_neg (by rw [h.up]; decide), if_neg (by rw [h.fu]; decide), h.spend]
  have hl : (Dk.laid x.s x.S (fun _ => false)).length = N := by simp [Dk.laid, h.n]
  have hg : ∀ j : Nat, j < N → (Dk.laid x.s x.S (fun _ => false))[j]? = some ((x.S (j : Int)).getD (x.s.getD j [])) := by
    intro j hj
    have : j < x.s.length := by rw [h.n]; exact hj
    simp [Dk.laid, List.getD, this]
  refine ⟨?_, ?_, ?_⟩
  · rw [e]
    refine ⟨h.up, h.fu, hl, fun b hb => ?_, fun i l hh => by simp at hh⟩
    obtain ⟨j, hj, rfl⟩ := List.mem_iff_getElem.1 hb
    have hj' : j < N := by have : j < (Dk.laid x.s x.S (fun _ => false)).length := hj; omega
    have h1 := hg j hj'
    have h2 : (Dk.laid x.s x.S (fun _ => false))[j]? = some ((Dk.laid x.s x.S (fun _ => false))[j]) := List.getElem?_eq_getElem hj
    rw [h2] at h1
    injection h1 with h1
    show ((Dk.laid x.s x.S (fun _ => false))[j]).length = 128
    rw [h1]
    cases hs : x.S (j : Int) with
    | some l => exact (h.wl _ _ hs).1
    | none =>
      have : j < x.s.length := by rw [h.n]; exact hj'
      simp only [Option.getD]
      apply h.len
      simp [List.getD, this]
  · simp [DS.fcode, h.up, h.fu]
  · intro j hj
    rw [e]
    have hj' : j < x.s.length := by rw [h.n]; exact hj
    have hh : (decide (0 ≤ (j : Int)) && decide ((j : Int) < ((Dk.laid x.s x.S (fun _ => false)).length : Int))) = true := by rw [hl]; simp; exact hj
    have hh2 : (decide (0 ≤ (j : Int)) && decide ((j : Int) < (x.s.length : Int))) = true := by simp; exact hj'
    have h1 := hg j hj
    unfold DS.read DS.sure DS.has
    rw [hh, hh2]
    simp only [h.up, List.getD, Int.toNat_natCast, h1, Option.getD_some, if_neg (show ¬ (false = true) by decide), if_neg (show ¬ (true = false) by decide)]
    cases hs : x.S (j : Int) with
    | some l => rfl
    | none => rfl
def rup (n : Nat) : Nat := (n + 127) / 128 * 128
theorem sec_lt {first count N : Nat} (hc : 1 ≤ count) (hN : first + count ≤ N) (i : Nat) : sec first count i < N := by
  unfold sec
  have := Nat.mod_lt (i / 128) (show 0 < count by omega)
  omega
theorem mod_ne {a b c : Nat} (h1 : a < b) (h2 : b < a + c) : a % c ≠ b % c := by
  intro e
  obtain ⟨k, rfl⟩ : ∃ k, b = a + k := ⟨b - a, by omega⟩
  have hk : k % c = 0 := by
    have h3 := Nat.sub_mod_eq_zero_of_mod_eq e.symm
    rwa [Nat.add_sub_cancel_left] at h3
  have : k % c = k := Nat.mod_eq_of_lt (by omega)
  omega
theorem sec_ne {first count i j : Nat} (h1 : i / 128 < j / 128) (h2 : j / 128 < i / 128 + count) : sec first count i ≠ sec first count j := by
  unfold sec
  have := mod_ne h1 h2
  omega
theorem byteAt_lt {first count at_ j : Nat} (h : at_ % 128 = 0) (hj : j < 128) : sec first count (at_ + j) = sec first count at_ := by
  unfold sec
  have : (at_ + j) / 128 = at_ / 128 := by omega
  rw [this]
theorem pad_getD {b : List UInt8} {j : Nat} (hj : j < 128) (hb : j < b.length) : (pad b).getD j 0 = b.getD j 0 := by
  have h1 : j < (b.take 128).length := by rw [List.length_take]; omega
  simp only [pad, List.getD]
  rw [List.getElem?_append_left h1, List.getElem?_take, if_pos hj]
theorem lays_good {first count N : Nat} (hc : 1 ≤ count) (hN : first + count ≤ N) : ∀ (f : Nat) (x : DS) (at_ : Nat) (b : List UInt8), Good x N → at_ % 128 = 0 → b.length ≤ count * 128 → b.length ≤ f * 128 →
    (lays first count f x at_ b).2 = 0 ∧ Good (lays first count f x at_ b).1 N ∧ (∀ j, j < b.length → byteAt first count (lays first count f x at_ b).1 (at_ + j) = b.getD j 0) ∧
    (∀ i, i < at_ → at_ + rup b.length ≤ i / 128 * 128 + count * 128 → (lays first count f x at_ b).1.read (sec first count i : Nat) = x.read (sec first count i : Nat))
  | 0, x, at_, b, hx, ha, h1, h2 => by
    have : b = [] := List.length_eq_zero_iff.1 (by omega)
    subst this
    exact ⟨rfl, hx, fun j hj => by simp at hj, fun i _ _ => rfl⟩
  | f + 1, x, at_, b, hx, ha, h1, h2 => by
    by_cases hb : b = []
    · subst hb
      simp only [lays, if_true]
      exact ⟨trivial, hx, fun j hj => by simp at hj, fun i _ _ => trivial⟩
    have hs := sec_lt hc hN at_
    have hpl := pad_length b
    have hp : 0 < b.length := by cases b with | nil => exact absurd rfl hb | cons a l => simp
    have e : lays first count (f + 1) x at_ b = lays first count f (x.write (sec first count at_ : Nat) (pad b)) (at_ + 128) (b.drop 128) := by
      rw [lays, if_neg hb, if_pos (hx.wcode hs)]
    rw [e]
    have hdl : (b.drop 128).length = b.length - 128 := List.length_drop
    obtain ⟨i1, i2, i3, i4⟩ := lays_good hc hN f (x.write (sec first count at_ : Nat) (pad b)) (at_ + 128) (b.drop 128) (hx.write hs hpl) (by omega) (by omega) (by omega)
    refine ⟨i1, i2, fun j hj => ?_, fun i hi hr => ?_⟩
    · by_cases h128 : j < 128
      · have h5 := i4 (at_ + j) (by omega) (by rw [hdl]; unfold rup; omega)
        unfold byteAt
        rw [h5, byteAt_lt ha h128, hx.writeRead hs hpl, if_pos rfl]
        rw [show (at_ + j) % 128 = j by omega]
        exact pad_getD h128 hj
      · have h5 := i3 (j - 128) (by omega)
        rw [show at_ + 128 + (j - 128) = at_ + j by omega] at h5
        rw [h5]
        simp only [List.getD, List.getElem?_drop]
        rw [show 128 + (j - 128) = j by omega]
    · have h5 := i4 i (by omega) (by rw [hdl]; unfold rup at hr ⊢; omega)
      rw [h5, hx.writeRead hs hpl, if_neg]
      exact sec_ne (by omega) (by unfold rup at hr; omega)
theorem bytesAt_eq {first count : Nat} {x : DS} {at_ : Nat} {b : List UInt8} (h : ∀ j, j < b.length → byteAt first count x (at_ + j) = b.getD j 0) : bytesAt first count x at_ b.length = b := by
  apply List.ext_getElem
  · exact bytesAt_length ..
  · intro i h1 h2
    simp only [bytesAt, List.getElem_map, List.getElem_range]
    rw [h i h2]
    simp [List.getD, h2]
end Go.Proofs.Ytdjpeebekpjiiaa.Dk
/- What ring.Open makes. -/
namespace Go.Proofs.Ytdjpeebekpjiiaa.Dk
open Go Go.RowKit
set_option linter.unusedVariables false
set_option linter.unusedSimpArgs false

theorem rsector_pre {w : World} {r d first count tail : Nat} {v4 : Value} (hblk : w.heap[r]? = some (.cells #[.pointer (some ⟨d, 0, none⟩), .int .i64 (first : Int), .int .i64 (count : Int), .int .u64 (tail : Int), v4] 134 (0, 0))) (hcnt : 1 ≤ count) (hf : first + count ≤ 4096) (n : Nat) (hn : n < 18446744073709551616) :
    Calls Try.prog 61 #[.pointer (some ⟨r, 0, none⟩), .int .u64 (n : Int)] w fun e w' => e = .returned (.int .i64 ((sec first count n : Nat) : Int)) ∧ ∃ m, w' = w.drewN m := by
  have q1 : w.cell? ⟨r, 1, none⟩ = some (.int .i64 (first : Int)) := by rw [cell_of_row w r 1 _ _ _ hblk]; rfl
  have q2 : w.cell? ⟨r, 2, none⟩ = some (.int .i64 (count : Int)) := by rw [cell_of_row w r 2 _ _ _ hblk]; rfl
  have hci : ¬ (count : Int) = 0 := by omega
  have HN := Lib.hid hn
  clear hblk hn
  go_enter Try.func61, Try.ntmps61
  go_wp2_with fail
  go_quiet (fail)
  go_wp2_with fail
  go_ret
  exact ⟨ret_i64 (secI HN.out hf hcnt), _, rfl⟩
variable {w : World} {d g m n : Nat} {x : DS}
theorem open_bad (h : DiskAt Try.prog w d g m n x) (first count : Int) (hf : wfi first) (hc : wfi count) (tail : Int) (hb : first < 0 ∨ count < 1 ∨ (x.s.length : Int) - count < first) :
    Calls Try.prog 58 #[.pointer (some ⟨d, 0, none⟩), .int .i64 first, .int .i64 count, .int .u64 tail] w fun e w' => e = .returned (.tuple #[.pointer none, .int .i64 1]) ∧ w = w' := by
  have SC := Lib.hid (sectors_any h)
  have hfw := h.few
  have b1 := bounds_i64 hf
  have b2 := bounds_i64 hc
  by_cases c1 : first < 0
  · clear h hf hc hb
    go_enter Try.func58, Try.ntmps58
    go_wp2_with (go_at_call 55; refine SC.out.mono ?_; rintro e w' ⟨rfl, rfl⟩)
    go_ret2
    exact ⟨rfl, rfl⟩
  · by_cases c2 : count < 1
    · clear h hf hc hb
      go_enter Try.func58, Try.ntmps58
      go_wp2_with (go_at_call 55; refine SC.out.mono ?_; rintro e w' ⟨rfl, rfl⟩)
      go_ret2
      exact ⟨rfl, rfl⟩
    · have c3 : (x.s.length : Int) - count < first := by omega
      clear h hf hc hb
      go_enter Try.func58, Try.ntmps58
      go_wp2_with (go_at_call 55; refine SC.out.mono ?_; rintro e w' ⟨rfl, rfl⟩)
      go_ret2
      exact ⟨rfl, rfl⟩
set_option maxRecDepth 100000 in
set_option maxHeartbeats 2000000 in
theorem open_good (h : DiskAt Try.prog w d g m n x) (first count tail : Nat) (hc : 1 ≤ count) (hb : first + count ≤ x.s.length) (ht : tail < 18446744073709551616) (hr0 : (x.read (sec first count tail : Nat)).2 = 0) :
    Calls Try.prog 58 #[.pointer (some ⟨d, 0, none⟩), .int .i64 (first : Int), .int .i64 (count : Int), .int .u64 (tail : Int)] w fun e w' => ∃ r k, e = .returned (.tuple #[.pointer (some ⟨r, 0, none⟩), .int .i64 0]) ∧ RingAt w' r d k first count tail (x.read (sec first count tail : Nat)).1 112 ∧ Below w.heap.size w w' ∧ w.heap.size ≤ r ∧ w.heap.size ≤ k := by
  have SC := Lib.hid (sectors_any h)
  have hfw := h.few
  have c1 : ¬ (first : Int) < 0 := by omega
  have c2 : ¬ (count : Int) < 1 := by omega
  have c3 : ¬ (x.s.length : Int) - (count : Int) < (first : Int) := by omega
  have hsb : sec first count tail < 4096 := by
    unfold sec
    have := Nat.mod_lt (tail / 128) (show 0 < count by omega)
    omega
  obtain ⟨sc, hsc⟩ : ∃ sc, sc = sec first count tail := ⟨_, rfl⟩
  rw [← hsc] at hr0 hsb ⊢
  obtain ⟨w1, hw1⟩ : ∃ w1, w1 = w.alloc (.cells #[.pointer (some ⟨d, 0, none⟩), .int .i64 (first : Int), .int .i64 (count : Int), .int .u64 (tail : Int), .slice none 0 0] 134) := ⟨_, rfl⟩
  have hb1 := heap_alloc_new w (.cells #[.pointer (some ⟨d, 0, none⟩), .int .i64 (first : Int), .int .i64 (count : Int), .int .u64 (tail : Int), .slice none 0 0] 134)
  rw [← hw1] at hb1
  have RS := Lib.hid (show Calls Try.prog 61 #[.pointer (some ⟨w.heap.size, 0, none⟩), .int .u64 (tail : Int)] w1 fun e w' => e = .returned (.int .i64 (sc : Int)) ∧ ∃ m, w' = w1.drewN m by rw [hsc]; exact rsector_pre hb1 hc (by omega) tail ht)
  have HD1 := Lib.hid (show DiskAt Try.prog w1 d g m n x by rw [hw1]; exact h.alloc _)
  have HW := Lib.hid hw1
  have HB1 := Lib.hid hb1
  have B1 := Lib.hid (show Below w.heap.size w w1 by rw [hw1]; exact (Below.refl _ _).alloc (Nat.le_refl _) _)
  have HH := Lib.hid (show first + count ≤ 4096 by omega)
  have HR0 := Lib.hid hr0
  have HTT := Lib.hid ht
  obtain ⟨r, hr⟩ : ∃ r, r = w.heap.size := ⟨_, rfl⟩
  have HRR := Lib.hid hr
  have L1 := Lib.hid (show r < w1.heap.size by rw [hr, hw1]; simp)
  clear h hw1 hb1 ht hr0 hsc hr
  go_enter Try.func58, Try.ntmps58
  go_wp2_with (first
    | (go_at_call 55; refine SC.out.mono ?_; rintro e w' ⟨rfl, rfl⟩)
    | (go_at_call 61; rw [← HW.out]; refine RS.out.mono ?_; rintro e w2 ⟨rfl, m2, rfl⟩)
    | (go_at_call 60; refine (read_any (HD1.out.drewN m2) (sc : Int) (WalkArith.wf_i64 (by omega))).mono ?_; rintro e w3 ⟨v, rfl, ha, hb3⟩; rw [HR0.out]; unfold Ans at ha; rw [if_pos HR0.out] at ha; obtain ⟨k, rfl, hk3, hr3, hl3⟩ := ha; have B3 := Lib.hid (B1.out.trans (((Below.refl w1.heap.size w1).trans (below_drewN (Below.refl _ _) m2)).trans hb3 |>.mono B1.out.size)); have hq3 := (hb3.block w.heap.size (by have := L1.out; rw [← HRR.out]; exact this)).trans HB1.out; have HK := Lib.hid (keep_pre hq3 hr3 hl3 (by have := L1.out; have h2 : w1.heap.size ≤ k := hk3; rw [← HRR.out]; omega) hc HH.out HTT.out); have KL := Lib.hid (show w.heap.size ≤ k from by have := B1.out.size; have h2 : w1.heap.size ≤ k := hk3; omega); clear hb3 hr3 hl3 hk3 hq3)
    | (go_at_call 79; refine HK.out.mono ?_; rintro e w4 ⟨rfl, hR4, hF4⟩))
  go_ret2
  exact ⟨_, k, rfl, hR4, B3.out.trans (hF4.below (fun i _ h => by rw [h]; exact Nat.le_refl _) B3.out.size), Nat.le_refl _, KL.out⟩
end Go.Proofs.Ytdjpeebekpjiiaa.Dk
/- A ring that keeps a text: what Open, Append and Read leave, told over the text of all bytes that ever were. -/
namespace Go.Proofs.Ytdjpeebekpjiiaa.Dk
open Go Go.RowKit
set_option linter.unusedVariables false
set_option linter.unusedSimpArgs false

/-- What a ring over a disk that goes on has of the text of all bytes that ever were. -/
structure Keeps (first count N : Nat) (x : DS) (S text : List UInt8) : Prop where
  good : Good x N
  bytes : ∀ i, i < text.length → rup text.length ≤ i / 128 * 128 + count * 128 → byteAt first count x i = text.getD i 0
  last : S.take (text.length % 128) = text.drop (text.length - text.length % 128)
theorem keeps_nil {first count N : Nat} {x : DS} {S : List UInt8} (h : Good x N) : Keeps first count N x S [] := ⟨h, fun i hi => by simp at hi, by simp⟩
theorem keeps_split {S text F : List UInt8} (hS : S.length = 128) (h : S.take (text.length % 128) = text.drop (text.length - text.length % 128)) :
    text ++ F = text.take (text.length - text.length % 128) ++ (S.take (text.length % 128) ++ F) := by
  rw [h, ← List.append_assoc, List.take_append_drop]
theorem getD_append_r {a b : List UInt8} {i : Nat} (h : a.length ≤ i) : (a ++ b).getD i 0 = b.getD (i - a.length) 0 := by
  simp only [List.getD]
  rw [List.getElem?_append_right h]
theorem getD_append_l {a b : List UInt8} {i : Nat} (h : i < a.length) : (a ++ b).getD i 0 = a.getD i 0 := by
  simp only [List.getD]
  rw [List.getElem?_append_left h]
theorem pad_take {b : List UInt8} {q : Nat} (h : b.length = q) (hq : q < 128) : (pad b).take q = b := by
  unfold pad
  rw [List.take_append_of_le_length (by rw [List.length_take]; omega), List.take_take]
  exact List.take_of_length_le (by omega)
theorem keeps_lays {first count N : Nat} {x : DS} {S text F : List UInt8} (hK : Keeps first count N x S text) (hS : S.length = 128) (hc : 1 ≤ count) (hN : first + count ≤ N)
    (hl : text.length % 128 + F.length ≤ count * 128) :
    ∀ B, B = S.take (text.length % 128) ++ F → (lays first count B.length x (text.length - text.length % 128) B).2 = 0 ∧
      Keeps first count N (lays first count B.length x (text.length - text.length % 128) B).1 (pad (B.drop ((B.length - 1) / 128 * 128))) (text ++ F) := by
  intro B hB
  have hq := Nat.mod_lt text.length (show 0 < 128 by decide)
  have hql := Nat.mod_le text.length 128
  have hBl : B.length = text.length % 128 + F.length := by rw [hB, List.length_append, List.length_take, hS]; omega
  obtain ⟨l1, l2, l3, l4⟩ := lays_good hc hN B.length x (text.length - text.length % 128) B hK.good (by omega) (by omega) (by omega)
  have hsp := keeps_split (F := F) hS hK.last
  rw [← hB] at hsp
  have htl : (text.take (text.length - text.length % 128)).length = text.length - text.length % 128 := by rw [List.length_take]; omega
  obtain ⟨a, ha⟩ : ∃ a, a = text.length - text.length % 128 := ⟨_, rfl⟩
  rw [← ha] at l1 l2 l3 l4 hsp htl ⊢
  have ha0 : a % 128 = 0 := by omega
  have hlen : (text ++ F).length = a + B.length := by rw [List.length_append, hBl]; omega
  refine ⟨l1, l2, ?_, ?_⟩
  · rw [hlen]
    intro i hi hr
    have hrr : rup (a + B.length) = a + rup B.length := by unfold rup; omega
    by_cases h : a ≤ i
    · have h1 := l3 (i - a) (by omega)
      rw [show a + (i - a) = i by omega] at h1
      rw [h1, hsp, getD_append_r (by rw [htl]; exact h), htl]
    · have h1 := l4 i (by omega) (by omega)
      have h2 := hK.bytes i (by omega) (by
        have : rup text.length ≤ rup (a + B.length) := by unfold rup; rw [hBl]; omega
        omega)
      unfold byteAt at h2 ⊢
      rw [h1, h2, getD_append_l (by omega)]
  · rw [hlen]
    have e1 : (a + B.length) % 128 = B.length % 128 := by omega
    rw [e1, hsp]
    have hb := Nat.mod_lt B.length (show 0 < 128 by decide)
    by_cases h0 : B.length % 128 = 0
    · rw [h0, List.take_zero, Nat.sub_zero]
      symm
      apply List.drop_eq_nil_of_le
      rw [List.length_append, htl]
      exact Nat.le_refl _
    · have e2 : (B.length - 1) / 128 * 128 = B.length - B.length % 128 := by omega
      rw [e2, pad_take (by rw [List.length_drop]; omega) hb]
      rw [List.drop_append, htl, show (text.take a).drop (a + B.length - B.length % 128) = [] from List.drop_eq_nil_of_le (by rw [htl]; omega), List.nil_append]
      congr 1
      omega
theorem keeps_read {first count N : Nat} {x : DS} {S text : List UInt8} (hK : Keeps first count N x S text) (hc : 1 ≤ count) {at_ n : Nat} (h1 : at_ + n ≤ text.length) (h2 : text.length - at_ ≤ thereN text.length count) :
    bytesAt first count x at_ n = (text.drop at_).take n := by
  have hl : ((text.drop at_).take n).length = n := by rw [List.length_take, List.length_drop]; omega
  have := bytesAt_eq (first := first) (count := count) (x := x) (at_ := at_) (b := (text.drop at_).take n) (fun j hj => by
    rw [hl] at hj
    rw [hK.bytes (at_ + j) (by omega) (by
      unfold thereN at h2
      unfold rup
      split at h2 <;> omega)]
    simp only [List.getD, List.getElem?_take, List.getElem?_drop, if_pos hj])
  rw [hl] at this
  exact this
theorem keeps_open0 {first count N : Nat} {x : DS} {text : List UInt8} (hg : Good x N) (hby : ∀ i, i < text.length → rup text.length ≤ i / 128 * 128 + count * 128 → byteAt first count x i = text.getD i 0) (hc : 1 ≤ count) (hN : first + count ≤ N) :
    Keeps first count N x (x.read (sec first count text.length : Nat)).1 text := by
  refine ⟨hg, hby, ?_⟩
  have hs := sec_lt hc hN text.length
  have hr := (hg.read hs).2
  have hq := Nat.mod_lt text.length (show 0 < 128 by decide)
  have hql := Nat.mod_le text.length 128
  apply List.ext_getElem?
  intro i
  rw [List.getElem?_take, List.getElem?_drop]
  by_cases hi : i < text.length % 128
  · rw [if_pos hi]
    have h1 := hby (text.length - text.length % 128 + i) (by omega) (by unfold rup; omega)
    unfold byteAt at h1
    have e1 : sec first count (text.length - text.length % 128 + i) = sec first count text.length := by
      unfold sec
      have : (text.length - text.length % 128 + i) / 128 = text.length / 128 := by omega
      rw [this]
    rw [e1, show (text.length - text.length % 128 + i) % 128 = i by omega] at h1
    have h2 : i < (x.read (sec first count text.length : Nat)).1.length := by rw [hr]; omega
    have h3 : text.length - text.length % 128 + i < text.length := by omega
    simp only [List.getD, List.getElem?_eq_getElem h2, List.getElem?_eq_getElem h3, Option.getD_some] at h1
    rw [List.getElem?_eq_getElem h2, List.getElem?_eq_getElem h3, h1]
  · rw [if_neg hi, List.getElem?_eq_none (by omega)]
theorem keeps_open {first count N : Nat} {x : DS} {S text : List UInt8} (hK : Keeps first count N x S text) (hc : 1 ≤ count) (hN : first + count ≤ N) :
    Keeps first count N x (x.read (sec first count text.length : Nat)).1 text := keeps_open0 hK.good hK.bytes hc hN
/-- An append that there is room for. -/
theorem append_keeps {w : World} {r d k first count N : Nat} {S text : List UInt8} {t : TypeId} (h : RingAt w r d k first count text.length S t) (ht : text.length ≤ 4000000000)
    {g m n : Nat} {x : DS} (hD : DiskAt Try.prog w d g m n x) (hK : Keeps first count N x S text) (hN : first + count ≤ N) (hr : ¬ own3 d g m r) (hk : ¬ own3 d g m k) (hnn : n ≤ 1000000000)
    (head : Nat) (hh : head < 18446744073709551616) (ao : Option Addr) (c : Nat) (L : List (List UInt8)) (hP : Parts w (.slice ao L.length c) L) (hl : L.length ≤ 1000000) (hsum : sumLen L ≤ 900000) (hroom : sumLen L ≤ leftN head text.length count) :
    Calls Try.prog 87 #[.pointer (some ⟨r, 0, none⟩), .int .u64 (head : Int), .slice ao L.length c] w fun e w' => e = .returned (.int .i64 0) ∧
      ∃ k' S' t' x' n', RingAt w' r d k' first count (text ++ L.flatten).length S' t' ∧ ¬ own3 d g m k' ∧ k' ≠ r ∧ (k' = k ∨ w.heap.size ≤ k') ∧ DiskAt Try.prog w' d g m n' x' ∧ n' ≤ n + sumLen L + 128 ∧ Keeps first count N x' S' (text ++ L.flatten) ∧ Frm (fun i => i = r ∨ own3 d g m i) w w' := by
  have hlf : L.flatten.length = sumLen L := rfl
  have hq := Nat.mod_lt text.length (show 0 < 128 by decide)
  have hql := Nat.mod_le text.length 128
  refine (append_any h (by omega) hD hr hk hnn head hh ao c L hP hl hsum).mono ?_
  rintro e w' (⟨h1, _⟩ | ⟨h0, rfl, q, rfl⟩ | ⟨h1, h2, X, hX, rfl, hD', hF, hok, hbad⟩)
  · omega
  · have e0 : L.flatten = [] := List.length_eq_zero_iff.1 (by rw [hlf]; exact h0)
    rw [e0, List.append_nil]
    exact ⟨rfl, k, S, t, x, n, h.keep rfl rfl, hk, fun e => h.ne e.symm, .inl rfl, hD.drewN q, by omega, hK, (Frm.refl _ w).drewN q⟩
  · have hle : text.length % 128 + L.flatten.length ≤ count * 128 := by
      rw [hlf]
      unfold leftN at h2
      have hmm : min head text.length ≤ text.length := Nat.min_le_right _ _
      generalize min head text.length = mm at *
      clear hok hbad hF hD' hX
      omega
    obtain ⟨k1, k2⟩ := keeps_lays hK h.len h.cnt hN hle _ rfl
    have hb : (S.take (text.length % 128) ++ L.flatten).length ≤ sumLen L + 128 := by
      rw [List.length_append, List.length_take, hlf]
      omega
    rw [← hX] at k1 k2
    obtain ⟨ks, hks, hR⟩ := hok k1
    have hks3 : ¬ own3 d g m ks := fun h => by
      have := hD.dlt; have := hD.glt; have := hD.mlt
      rcases h with h | h | h <;> omega
    refine ⟨by rw [k1], ks, _, 5, X.1, _, ?_, hks3, fun e => by have := h.rlt; omega, .inr hks, hD', by omega, k2, hF⟩
    rw [List.length_append, hlf]
    exact hR
/-- A read of what is there. -/
theorem read_keeps {w : World} {r d k first count N : Nat} {S text : List UInt8} {t : TypeId} (h : RingAt w r d k first count text.length S t) (ht : text.length ≤ 4000000000)
    {g m n0 : Nat} {x : DS} (hD : DiskAt Try.prog w d g m n0 x) (hK : Keeps first count N x S text) (hN : first + count ≤ N) (at_ n : Nat) (h1 : at_ + n ≤ text.length) (h2 : text.length - at_ ≤ thereN text.length count) :
    Calls Try.prog 34 #[.pointer (some ⟨r, 0, none⟩), .int .u64 (at_ : Int), .int .i64 (n : Int)] w fun e w' => ∃ ko c, e = .returned (.tuple #[.slice (some ⟨ko, 0, none⟩) n c, .int .i64 0]) ∧ w'.heap[ko]? = some (.cells (bvs ((text.drop at_).take n)).toArray 5 (0, 0)) ∧ w.heap.size ≤ ko ∧ Below w.heap.size w w' := by
  have := rread_row h (by omega) hD at_ n h1 h2 (fun i _ => (hK.good.read (sec_lt h.cnt hN _)).1) (fun i _ => (hK.good.read (sec_lt h.cnt hN _)).2)
  rw [keeps_read hK h.cnt h1 h2] at this
  exact this
theorem read_keepsC {w : World} {r d k first count N : Nat} {S text : List UInt8} {t : TypeId} (h : RingAt w r d k first count text.length S t) (ht : text.length ≤ 4000000000)
    {g m n0 : Nat} {x : DS} (hD : DiskAt Try.prog w d g m n0 x) (hK : Keeps first count N x S text) (hN : first + count ≤ N) (at_ n : Nat) (h1 : at_ + n ≤ text.length) (h2 : text.length - at_ ≤ thereN text.length count) :
    Calls Try.prog 34 #[.pointer (some ⟨r, 0, none⟩), .int .u64 (at_ : Int), .int .i64 (n : Int)] w fun e w' => ∃ ko, e = .returned (.tuple #[.slice (some ⟨ko, 0, none⟩) n n, .int .i64 0]) ∧ w'.heap[ko]? = some (.cells (bvs ((text.drop at_).take n)).toArray 5 (0, 0)) ∧ w.heap.size ≤ ko ∧ Below w.heap.size w w' := by
  have := rread_rowC h (by omega) hD at_ n h1 h2 (fun i _ => (hK.good.read (sec_lt h.cnt hN _)).1) (fun i _ => (hK.good.read (sec_lt h.cnt hN _)).2)
  rw [keeps_read hK h.cnt h1 h2] at this
  exact this
/-- A ring that is opened where the text ends. -/
theorem open_keeps {w : World} {d g m n first count N : Nat} {x : DS} {S text : List UInt8} (hD : DiskAt Try.prog w d g m n x) (hK : Keeps first count N x S text) (hc : 1 ≤ count) (hN : first + count ≤ N) (ht : text.length ≤ 4000000000) :
    Calls Try.prog 58 #[.pointer (some ⟨d, 0, none⟩), .int .i64 (first : Int), .int .i64 (count : Int), .int .u64 (text.length : Int)] w fun e w' => ∃ r k S', e = .returned (.tuple #[.pointer (some ⟨r, 0, none⟩), .int .i64 0]) ∧ RingAt w' r d k first count text.length S' 112 ∧ Keeps first count N x S' text ∧ Below w.heap.size w w' ∧ w.heap.size ≤ r ∧ w.heap.size ≤ k := by
  refine (open_good hD first count text.length hc (by rw [hK.good.n]; exact hN) (by omega) (hK.good.read (sec_lt hc hN _)).1).mono ?_
  rintro e w' ⟨r, k, rfl, hR, hB, hr, hk⟩
  exact ⟨r, k, _, rfl, hR, keeps_open hK hc hN, hB, hr, hk⟩
end Go.Proofs.Ytdjpeebekpjiiaa.Dk
