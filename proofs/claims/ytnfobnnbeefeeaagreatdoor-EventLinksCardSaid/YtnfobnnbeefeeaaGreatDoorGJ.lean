/- Check. -/
import Derived.Test.YtnfobnnbeefeeaaGreatDoorGI
namespace Go.Proofs.YtnfobnnbeefeeaaGreatDoor.Wi
open Go Go.RowKit
set_option linter.unusedVariables false
set_option linter.unusedSimpArgs false
theorem str_empty (l : List UInt8) : ((str l).toList == []) = decide (l = []) := by
  rw [ByteArray.toList_eq, show (str l).data = l.toArray from rfl]
  cases l <;> simp
theorem below_drew' {B : Nat} {w : World} (n : Nat) : Below B w (w.drewN n) := ⟨rfl, rfl, rfl, Nat.le_refl _, fun _ _ => rfl⟩
set_option maxHeartbeats 16000000 in
set_option maxRecDepth 100000 in
theorem echeck_any (x : Ev) (N : Nat) (w : World) (hx : x.At N w) (hN : N ≤ w.heap.size) (he : EB w.heap.size w) : Calls Tryz.prog 91 #[.agg x.cells.toArray] w fun e w' => e = .returned (.int .i64 x.vE) ∧ Below w.heap.size w w' := by
  obtain ⟨R, hR⟩ : ∃ R, R = x.vE := ⟨_, rfl⟩
  rw [← hR]
  unfold Ev.vE at hR
  obtain ⟨w1, hw1⟩ : ∃ bx, bx = w.alloc (.cells x.cells.toArray 28) := ⟨_, rfl⟩
  obtain ⟨g, hg⟩ : ∃ bx, bx = w.heap.size := ⟨_, rfl⟩
  have bw1 : Below w.heap.size w w1 := by rw [hw1]; exact (Below.refl _ _).alloc (Nat.le_refl _) _
  have nw1 : w1.heap[g]? = some (.cells x.cells.toArray 28 (0, 0)) := by rw [hw1, hg]; exact heap_alloc_new _ _
  have Kw1 := Lib.hid (rowE nw1)
  have Cw1 := Lib.hid (evC nw1)
  have Hw1 := Lib.hid hw1
  have Hg := Lib.hid hg
  have Bw1 := Lib.hid bw1
  have Nw1 := Lib.hid nw1
  clear hw1 hg bw1 nw1
  have HX1 := Lib.hid (hx.below (Bw1.out.mono hN))
  have HEB := Lib.hid he
  have c2 := Cw1.out.c2
  have KN := Lib.hid (known_any x.kind)
  have AB := Lib.hid (about_any x.kind hx.kind w1 (he.len w1 Bw1.out))
  have HK := hasK x.kind
  have zn := str_sizeX x.name
  have zt := str_sizeX x.text
  have en := str_empty x.name
  have et := str_empty x.text
  have IR := Lib.hid (fun W (h : Below w1.heap.size w1 W) => inRange_any x (str (eLt x.kind)) HK N W (HX1.out.below (h.mono (Nat.le_trans hN Bw1.out.size))))
  have VC := Lib.hid (fun W (h : Below w1.heap.size w1 W) => vcheck_any x.val N W (HX1.out.val.below (h.mono (Nat.le_trans hN Bw1.out.size))) (Nat.le_trans hN (Nat.le_trans Bw1.out.size h.size)))
  obtain ⟨k, hk⟩ : ∃ k, k = x.kind := ⟨_, rfl⟩
  obtain ⟨F, hF⟩ : ∃ F, F = str (eLt x.kind) := ⟨_, rfl⟩
  obtain ⟨M, hM⟩ : ∃ M, M = str (eNm x.kind) := ⟨_, rfl⟩
  obtain ⟨S, hS⟩ : ∃ S, S = str x.name := ⟨_, rfl⟩
  obtain ⟨T, hT⟩ : ∃ T, T = str x.text := ⟨_, rfl⟩
  obtain ⟨kn, hkn⟩ : ∃ kn, kn = eKn x.kind := ⟨_, rfl⟩
  obtain ⟨rg, hrg⟩ : ∃ rg, rg = x.rng := ⟨_, rfl⟩
  obtain ⟨fn, hfn⟩ : ∃ fn, fn = eN x.kind := ⟨_, rfl⟩
  obtain ⟨ft, hft⟩ : ∃ ft, ft = eT x.kind := ⟨_, rfl⟩
  obtain ⟨fv, hfv⟩ : ∃ fv, fv = eV x.kind := ⟨_, rfl⟩
  obtain ⟨L1, hL1⟩ : ∃ L1, L1 = x.name.length := ⟨_, rfl⟩
  obtain ⟨L2, hL2⟩ : ∃ L2, L2 = x.text.length := ⟨_, rfl⟩
  obtain ⟨vk, hvk⟩ : ∃ vk, vk = x.val.kd := ⟨_, rfl⟩
  obtain ⟨ve, hve⟩ : ∃ ve, ve = x.val.vE := ⟨_, rfl⟩
  have FN := HK.n
  have FT := HK.t
  have FV := HK.v
  have KC := Lib.hid (fun W (h : Below w1.heap.size w1 W) => evC ((h.block g (lt_of_rowK Nw1.out)).trans Nw1.out))
  have KL := Lib.hid (fun W (h : Below w1.heap.size w1 W) => rowE ((h.block g (lt_of_rowK Nw1.out)).trans Nw1.out))
  have d5 := fun W h => (KC.out W h).c5
  have d6 := fun W h => (KC.out W h).c6
  have d7 := fun W h => (KC.out W h).c7
  have dv := fun W h => (KC.out W h).cv
  rw [← hk] at c2
  rw [← hkn, ← hk] at KN
  rw [← hF, ← hM, ← hk] at AB
  rw [← hF, ← hfn] at FN
  rw [← hF, ← hft] at FT
  rw [← hF, ← hfv] at FV
  rw [← hF, ← hrg] at IR
  rw [← hve] at VC
  rw [← hkn, ← hrg, ← hfn, ← hft, ← hfv, ← hL1, ← hL2, ← hvk, ← hve] at hR
  rw [← hS, ← hL1] at zn
  rw [← hT, ← hL2] at zt
  rw [← hS] at en d5
  rw [← hT] at et d6
  rw [← hvk] at d7
  have D5 := Lib.hid d5
  have D6 := Lib.hid d6
  have D7 := Lib.hid d7
  have DV := Lib.hid dv
  have HFN := Lib.hid FN
  have HFT := Lib.hid FT
  have HFV := Lib.hid FV
  obtain ⟨p1, hp1⟩ : ∃ p1, p1 = decide (x.name = []) := ⟨_, rfl⟩
  obtain ⟨p2, hp2⟩ : ∃ p2, p2 = decide (x.text = []) := ⟨_, rfl⟩
  rw [← hp1] at en
  rw [← hp2] at et
  have hR2 : R = if kn = false then 9 else if rg = false then 1 else if 64 < L1 ∨ 128 < L2 then 2 else if (p1 = false ∧ fn = false) ∨ (p2 = false ∧ ft = false) ∨ (vk ≠ 0 ∧ fv = false) then 8 else ve := by
    rw [hR]
    have e1 : (x.name ≠ []) = (p1 = false) := by rw [hp1]; simp
    have e2 : (x.text ≠ []) = (p2 = false) := by rw [hp2]; simp
    simp only [e1, e2]
  have HR := Lib.hid hR2
  clear hR hR2 hk hF hM hS hT hkn hrg hfn hft hfv hL1 hL2 hvk hve hp1 hp2 d5 d6 d7 dv FN FT FV HK hx he
  go_enter Tryz.func91, Tryz.ntmps91
  go_upto_region 1 with fail
  rw [← Hw1.out, ← Hg.out]
  go_wp2_with fail
  refine (KN.out _).mono ?_
  rintro e w2 ⟨rfl, rfl⟩
  cases kn
  · obtain rfl : R = 9 := by rw [HR.out]; rfl
    go_wp2_with fail
    go_ret
    exact ⟨rfl, Bw1.out⟩
  go_wp2_with fail
  refine AB.out.mono ?_
  rintro e w3 ⟨rfl, n3, hw3⟩
  have B3 := Lib.hid (show Below w2.heap.size w2 w3 by rw [hw3]; exact below_drew' n3)
  clear hw3
  have K3 := Lib.hid (KL.out w3 B3.out)
  go_wp2_with (first | (with_reducible show wpList _ _ _ _ _ _; refine wpList_load_allW rfl 28 (.tmp 1) rfl ⟨g,0,none⟩ rfl x.cells _ K3.out Tryz.underlying28 rfl (Tryz.evSize x) ?_))
  refine (IR.out w3 B3.out).mono ?_
  rintro e w4 ⟨rfl, hb4⟩
  have hb34 := B3.out.trans (hb4.mono B3.out.size)
  have B4 := Lib.hid hb34
  have RL := Lib.hid (Bw1.out.trans (hb34.mono Bw1.out.size))
  clear hb4 hb34 K3
  cases rg
  · obtain rfl : R = 1 := by rw [HR.out]; rfl
    go_wp2_with fail
    go_ret
    exact ⟨rfl, RL.out⟩
  have q5 := D5.out w4 B4.out
  have q6 := D6.out w4 B4.out
  have q7 := D7.out w4 B4.out
  by_cases h1 : 64 < L1
  · obtain rfl : R = 2 := by rw [HR.out]; simp [h1]
    have h1' : (64 : Int) < (S.size : Int) := by omega
    go_wp2_with fail
    go_ret
    exact ⟨rfl, RL.out⟩
  have h1' : ¬ (64 : Int) < (S.size : Int) := by omega
  by_cases h2 : 128 < L2
  · obtain rfl : R = 2 := by rw [HR.out]; simp [h2]
    have h2' : (128 : Int) < (T.size : Int) := by omega
    go_wp2_with fail
    go_ret
    exact ⟨rfl, RL.out⟩
  have h2' : ¬ (128 : Int) < (T.size : Int) := by omega
  have HR3 := Lib.hid (show R = if (p1 = false ∧ fn = false) ∨ (p2 = false ∧ ft = false) ∨ (vk ≠ 0 ∧ fv = false) then 8 else ve by rw [HR.out]; simp [h1, h2])
  clear HR h1 h2 zn zt
  have VCx := Lib.hid (VC.out w4 B4.out)
  have KV := Lib.hid (DV.out w4 B4.out)
  obtain ⟨vb, hvb⟩ : ∃ vb, vb = decide (vk = 0) := ⟨_, rfl⟩
  have hv0 : (vk == 0) = vb := by rw [hvb]; rfl
  have hv1 : (vk != 0) = !vb := by rw [← hv0]; rfl
  have HR4 := Lib.hid (show R = if (p1 = false ∧ fn = false) ∨ (p2 = false ∧ ft = false) ∨ (vb = false ∧ fv = false) then 8 else ve by rw [HR3.out, hvb]; simp)
  clear HR3 hvb
  have w8 : p1 = true ∨ (p1 = false ∧ fn = true) ∨ (p1 = false ∧ fn = false) := by cases p1 <;> cases fn <;> simp
  have w9 : p2 = true ∨ (p2 = false ∧ ft = true) ∨ (p2 = false ∧ ft = false) := by cases p2 <;> cases ft <;> simp
  have wA : vb = true ∨ (vb = false ∧ fv = true) ∨ (vb = false ∧ fv = false) := by cases vb <;> cases fv <;> simp
  rcases w8 with h | h | h
  rotate_left 2
  · obtain ⟨rfl, rfl⟩ := h
    obtain rfl : R = 8 := by rw [HR4.out]; simp
    clear VCx KV
    go_wp2_with (first | (with_reducible refine (HFN.out _).mono ?_; rintro _ wz ⟨rfl, hwz⟩; have hwz2 := hwz.symm; subst hwz2; clear hwz) | (with_reducible refine (HFT.out _).mono ?_; rintro _ wz ⟨rfl, hwz⟩; have hwz2 := hwz.symm; subst hwz2; clear hwz) | (with_reducible refine (HFV.out _).mono ?_; rintro _ wz ⟨rfl, hwz⟩; have hwz2 := hwz.symm; subst hwz2; clear hwz))
    go_ret
    exact ⟨rfl, RL.out⟩
  all_goals first | obtain rfl := h | obtain ⟨rfl, rfl⟩ := h
  all_goals
    rcases w9 with h | h | h
    rotate_left 2
    · obtain ⟨rfl, rfl⟩ := h
      obtain rfl : R = 8 := by rw [HR4.out]; simp
      clear VCx KV
      go_wp2_with (first | (with_reducible refine (HFN.out _).mono ?_; rintro _ wz ⟨rfl, hwz⟩; have hwz2 := hwz.symm; subst hwz2; clear hwz) | (with_reducible refine (HFT.out _).mono ?_; rintro _ wz ⟨rfl, hwz⟩; have hwz2 := hwz.symm; subst hwz2; clear hwz) | (with_reducible refine (HFV.out _).mono ?_; rintro _ wz ⟨rfl, hwz⟩; have hwz2 := hwz.symm; subst hwz2; clear hwz))
      go_ret
      exact ⟨rfl, RL.out⟩
    all_goals first | obtain rfl := h | obtain ⟨rfl, rfl⟩ := h
    all_goals
      rcases wA with h | h | h
      rotate_left 2
      · obtain ⟨rfl, rfl⟩ := h
        obtain rfl : R = 8 := by rw [HR4.out]; simp
        clear VCx KV
        go_wp2_with (first | (with_reducible refine (HFN.out _).mono ?_; rintro _ wz ⟨rfl, hwz⟩; have hwz2 := hwz.symm; subst hwz2; clear hwz) | (with_reducible refine (HFT.out _).mono ?_; rintro _ wz ⟨rfl, hwz⟩; have hwz2 := hwz.symm; subst hwz2; clear hwz) | (with_reducible refine (HFV.out _).mono ?_; rintro _ wz ⟨rfl, hwz⟩; have hwz2 := hwz.symm; subst hwz2; clear hwz))
        go_ret
        exact ⟨rfl, RL.out⟩
      all_goals first | obtain rfl := h | obtain ⟨rfl, rfl⟩ := h
      all_goals
        obtain rfl : R = ve := by rw [HR4.out]; simp
        go_upto_region 12 with (first | (with_reducible refine (HFN.out _).mono ?_; rintro _ wz ⟨rfl, hwz⟩; have hwz2 := hwz.symm; subst hwz2; clear hwz) | (with_reducible refine (HFT.out _).mono ?_; rintro _ wz ⟨rfl, hwz⟩; have hwz2 := hwz.symm; subst hwz2; clear hwz) | (with_reducible refine (HFV.out _).mono ?_; rintro _ wz ⟨rfl, hwz⟩; have hwz2 := hwz.symm; subst hwz2; clear hwz))
        clear q5 q6 q7 hv0 hv1
        go_wp2_with (with_reducible show wpList _ _ _ _ _ _; refine wpList_load_allW rfl 26 (.tmp 57) rfl ⟨g,7,none⟩ rfl x.val.cells _ KV.out Tryz.underlying26 rfl (Tryz.valSize x.val) ?_)
        refine VCx.out.mono ?_
        rintro e w5 ⟨rfl, hb5⟩
        have RL5 := Lib.hid (RL.out.trans (hb5.mono RL.out.size))
        clear hb5
        go_wp2_with fail
        go_ret
        exact ⟨rfl, RL5.out⟩
end Go.Proofs.YtnfobnnbeefeeaaGreatDoor.Wi
/- Two numbers written at once. -/
namespace Go.Proofs.YtnfobnnbeefeeaaGreatDoor.Wi
open Go Go.RowKit
set_option linter.unusedVariables false
set_option linter.unusedSimpArgs false
set_option maxRecDepth 100000 in
set_option maxHeartbeats 4000000 in
theorem num_two {w : World} {b : Nat} {r : Option Nat} {xs : List UInt8} (hw : Wr w b r xs) (g : Nat) (hg : g = w.heap.size) (x y : Int) (n m : Nat) (hx : x = (n : Int)) (hy : y = (m : Int)) (hn : n < 18446744073709551616) (hm : m < 18446744073709551616) (hsz : xs.length + 20 ≤ 140737488355328) :
    Calls Tryz.prog 73 #[.pointer (some ⟨b, 0, none⟩), .slice (some ⟨g, 0, none⟩) 2 2] (w.alloc (.cells #[.int .u64 x, .int .u64 y] 80)) fun e w' => e = .returned (.tuple #[]) ∧ Wrote w w' b r (xs ++ enc n ++ enc m) := by
  subst hx hy
  have hel := enc_length n
  have hem := enc_length m
  obtain ⟨w1, hw1⟩ : ∃ w1, w1 = w.alloc (.cells #[.int .u64 (n : Int), .int .u64 (m : Int)] 80) := ⟨_, rfl⟩
  have F1 : Fr w w1 b r := by rw [hw1]; exact (Fr.refl w b r).alloc _
  have W1 : Wr w1 b r xs := by rw [hw1]; exact hw.alloc _
  have row : w1.heap[g]? = some (.cells #[.int .u64 (n : Int), .int .u64 (m : Int)] 80 (0, 0)) := by rw [hw1, hg]; exact heap_alloc_new _ _
  have hbg : g ≠ b := by have := hw.lt; omega
  have hrg : some g ≠ r := fun e => by have := hw.rlt g e.symm; omega
  have K := Lib.hid (show ∀ wr, Fr w1 wr b r → wr.cell? ⟨g, 0, none⟩ = some (.int .u64 (n : Int)) ∧ wr.cell? ⟨g, 1, none⟩ = some (.int .u64 (m : Int)) from fun wr hF => by
    have q := (hF.block g (lt_of_rowW row) hbg hrg).trans row
    exact ⟨by rw [cell_of_rowW wr g 0 _ _ _ q]; rfl, by rw [cell_of_rowW wr g 1 _ _ _ q]; rfl⟩)
  have k0 := (K.out w1 (Fr.refl _ _ _)).1
  rw [← hw1]
  have HF1 := Lib.hid F1
  have HW1 := Lib.hid W1
  clear hw1 F1 W1 row hbg hrg hw hg
  go_enter Tryz.func73, Tryz.ntmps73
  go_wp2
  refine wp_loop_rounds 3 ?_
  rw [rounds_succ]
  go_wp2
  go_loopw [5] (fun u wr => NumRel w1 b r xs n u wr) (fun u _ => (intOf u).toNat)
  case atStart => exact ⟨n, [], r, rfl, hn, rfl, by simpa using HW1.out, Fr.refl _ _ _, Or.inl rfl⟩
  case round =>
    obtain ⟨q, pre, r', rfl, hq, henc, hW, hF, hr⟩ := hrel
    have hpl : pre.length + (enc q).length = (enc n).length := by rw [henc, List.length_append]
    by_cases h128 : 128 ≤ q
    · have h1 : xs.length + pre.length + 1 ≤ 140737488355328 := by
        rw [enc_ge h128 hq] at hpl; simp at hpl; omega
      have HE := Lib.hid henc
      clear hpl henc
      go_wp2_with (go_at_call 107; refine (byte_one hW _ rfl _ (UInt8.ofNat (q % 128 + 128)) (u8_low q).symm (by simpa [Nat.add_assoc] using h1)).mono ?_; rintro e w2 ⟨rfl, hW2⟩)
      go_roundw
      case rel =>
        obtain ⟨r2, w2W, w2F, w2r⟩ := hW2
        refine ⟨q / 128, pre ++ [UInt8.ofNat (q % 128 + 128)], r2, by go_num, by omega, ?_, by simpa [List.append_assoc] using w2W, hF.trans hr w2F, ?_⟩
        · rw [HE.out, enc_ge h128 hq]; simp
        · rcases w2r with rfl | ⟨g, rfl, hg⟩
          · exact hr
          · exact Or.inr ⟨g, rfl, Nat.le_trans hF.size hg⟩
      case measure => simp [intOf]; omega
    · have h1 : xs.length + pre.length + 1 ≤ 140737488355328 := by
        rw [enc_lt (by omega)] at hpl; simp at hpl; omega
      have HE := Lib.hid henc
      clear hpl henc k0
      go_wp2_with (go_at_call 107; refine (byte_one hW _ rfl _ (UInt8.ofNat q) (u8_small (by omega)).symm (by simpa [Nat.add_assoc] using h1)).mono ?_; rintro e w2 ⟨rfl, hW2⟩)
      have hW3 : Wrote w1 w2 b r (xs ++ enc n) := by
        have := Wrote.trans (xs := xs ++ pre) hF hr hW2
        rw [HE.out, enc_lt (by omega)]
        simpa [List.append_assoc] using this
      clear hW2
      obtain ⟨r3, hWw, hFw, hrw⟩ := hW3
      have k1 := (K.out w2 hFw).2
      rw [rounds_succ]
      go_wp2
      go_loopw [5] (fun u wr => NumRel w1 b r (xs ++ enc n) m u wr) (fun u _ => (intOf u).toNat)
      case atStart => exact ⟨m, [], r3, rfl, hm, rfl, by simpa using hWw, hFw, hrw⟩
      case round =>
        obtain ⟨q, pre, r', rfl, hq, henc, hW, hF, hr⟩ := hrel
        have hpl : pre.length + (enc q).length = (enc m).length := by rw [henc, List.length_append]
        by_cases h128 : 128 ≤ q
        · have h1 : xs.length + (enc n).length + pre.length + 1 ≤ 140737488355328 := by
            rw [enc_ge h128 hq] at hpl; simp at hpl; omega
          have HE := Lib.hid henc
          clear hpl henc
          go_wp2_with (go_at_call 107; refine (byte_one hW _ rfl _ (UInt8.ofNat (q % 128 + 128)) (u8_low q).symm (by simp only [List.length_append]; exact h1)).mono ?_; rintro e w2 ⟨rfl, hW2⟩)
          go_roundw
          case rel =>
            obtain ⟨r2, w2W, w2F, w2r⟩ := hW2
            refine ⟨q / 128, pre ++ [UInt8.ofNat (q % 128 + 128)], r2, by go_num, by omega, ?_, by simpa [List.append_assoc] using w2W, hF.trans hr w2F, ?_⟩
            · rw [HE.out, enc_ge h128 hq]; simp
            · rcases w2r with rfl | ⟨g, rfl, hg⟩
              · exact hr
              · exact Or.inr ⟨g, rfl, Nat.le_trans hF.size hg⟩
          case measure => simp [intOf]; omega
        · have h1 : xs.length + (enc n).length + pre.length + 1 ≤ 140737488355328 := by
            rw [enc_lt (by omega)] at hpl; simp at hpl; omega
          have HE := Lib.hid henc
          clear hpl henc k1
          go_wp2_with (go_at_call 107; refine (byte_one hW _ rfl _ (UInt8.ofNat q) (u8_small (by omega)).symm (by simp only [List.length_append]; exact h1)).mono ?_; rintro e w2 ⟨rfl, hW2⟩)
          have hW3 : Wrote w1 w2 b r (xs ++ enc n ++ enc m) := by
            have := Wrote.trans (xs := xs ++ enc n ++ pre) hF hr hW2
            rw [HE.out, show enc q = [UInt8.ofNat q] from enc_lt (by omega)]
            simpa [List.append_assoc] using this
          clear hW2
          rw [rounds_succ]
          go_wp2
          go_end0
          exact ⟨rfl, Wrote.trans (xs := xs) HF1.out (Or.inl rfl) hW3⟩
end Go.Proofs.YtnfobnnbeefeeaaGreatDoor.Wi
