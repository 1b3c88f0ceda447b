/- What a Reader's call digits leaves. -/
import Derived.Test.YtcjnfmlpjolfpaaRw
namespace Go.Proofs.Ytcjnfmlpjolfpaa
open Go Go.RowKit
set_option linter.unusedVariables false

/-- Whether a digit mayn't stand there. -/
def bad (i d : Nat) : Bool := (decide (0 < i) && d == 0) || (i == 9 && decide (1 < d))
/-- The digits from the i-th on, what was gathered, how far it was read and the error. -/
def dg : Nat → List UInt8 → Nat → Int → Nat → Nat → Nat × Nat × Int
  | 0, _, k, err, _, n => (n, k, err)
  | f + 1, xs, k, err, i, n =>
    let x := rb xs k err
    let e2 := if bad i x.1.toNat && x.2.2 == 0 then 8 else x.2.2
    let n' := (n + (x.1.toNat % 128 * 2 ^ (7 * i)) % 18446744073709551616) % 18446744073709551616
    if x.1.toNat < 128 || e2 != 0 then (n', x.2.1, e2) else dg f xs x.2.1 e2 (i + 1) n'

/-- What is told of a number's digits. -/
def DgPost (w : World) (b : Nat) (r : Option Nat) (xs : List UInt8) (X : Nat × Nat × Int) (e : Ending) (w' : World) : Prop :=
  e = .returned (.int .u64 (X.1 : Int)) ∧ Rd w' b r xs X.2.1 X.2.2 ∧ Fr w w' b none
def DgRel (w : World) (b : Nat) (r : Option Nat) (xs : List UInt8) (X : Nat × Nat × Int) (u c : Value) (wr : World) : Prop :=
  ∃ (f i n k' : Nat) (err' : Int), c = .int .i64 (i : Int) ∧ u = .int .u64 (n : Int) ∧ i + f = 10 ∧ n < 18446744073709551616 ∧ Rd wr b r xs k' err' ∧ Fr w wr b none ∧ X = dg f xs k' err' i n

theorem bad_zero {i d : Nat} (hi : 0 < i) (q : d = 0) : bad i d = true := by simp [bad, hi, q]
theorem bad_mid {i d : Nat} (hi : i < 9) (q : ¬ d = 0) : bad i d = false := by simp [bad, q]; omega
theorem bad_first (d : Nat) : bad 0 d = false := by simp [bad]
theorem bad_nine {d : Nat} (q1 : ¬ d = 0) (q : ((d : Int) == 0) = true ∨ (1 : Int) < (d : Int)) : bad 9 d = true := by
  simp at q
  simp [bad]; omega
theorem good_nine {d : Nat} (q1 : ¬ d = 0) (q : ((d : Int) == 0) = false ∧ (d : Int) ≤ 1) : bad 9 d = false := by
  simp [bad, q1]; omega
theorem E_bad {i d : Nat} {e1 : Int} (h : bad i d = true) : fe e1 8 = if bad i d && e1 == 0 then 8 else e1 := by simp [h, fe]
theorem E_good {i d : Nat} {e1 : Int} (h : bad i d = false) : e1 = if bad i d && e1 == 0 then 8 else e1 := by simp [h]
theorem stop_a {d : Nat} {E : Int} (q : (d : Int) < 128) : d < 128 ∨ E ≠ 0 := Or.inl (by omega)
theorem stop_b {d : Nat} {E : Int} (q : (d : Int) < 128 ∨ (E != 0) = true) : d < 128 ∨ E ≠ 0 := by
  rcases q with q | q
  · exact Or.inl (by omega)
  · exact Or.inr (by simpa using q)
theorem stop_c {d : Nat} {E : Int} (q : d = 0) : d < 128 ∨ E ≠ 0 := Or.inl (by omega)
theorem dg_stop {X : Nat × Nat × Int} {f i n k' k1 : Nat} {err' e1 E : Int} {xs : List UInt8} {d : UInt8} (hx : (d, k1, e1) = rb xs k' err') (hX : X = dg (f + 1) xs k' err' i n)
    (hE : E = if bad i d.toNat && e1 == 0 then 8 else e1) (hs : d.toNat < 128 ∨ E ≠ 0) :
    X = ((n + (d.toNat % 128 * 2 ^ (7 * i)) % 18446744073709551616) % 18446744073709551616, k1, E) := by
  rw [hX, dg]
  simp only [← hx, ← hE]
  rw [if_pos (by simpa using hs)]
theorem dg_go {X : Nat × Nat × Int} {f i n k' k1 : Nat} {err' e1 E : Int} {xs : List UInt8} {d : UInt8} (hx : (d, k1, e1) = rb xs k' err') (hX : X = dg (f + 1) xs k' err' i n)
    (hE : E = if bad i d.toNat && e1 == 0 then 8 else e1) (hg : 128 ≤ (d.toNat : Int) ∧ (E != 0) = false) :
    X = dg f xs k1 E (i + 1) ((n + (d.toNat % 128 * 2 ^ (7 * i)) % 18446744073709551616) % 18446744073709551616) := by
  rw [hX, dg]
  simp only [← hx, ← hE]
  rw [if_neg (by simp at hg; simp; omega)]
theorem post_of {w w' : World} {b : Nat} {r : Option Nat} {xs : List UInt8} {X : Nat × Nat × Int} {m : Int} {n k1 : Nat} {E : Int} (hX : X = (n, k1, E)) (hm : m = (n : Int)) (hR : Rd w' b r xs k1 E) (hF : Fr w w' b none) :
    DgPost w b r xs X (.returned (.int .u64 m)) w' := by
  subst hX hm
  exact ⟨rfl, hR, hF⟩
set_option maxRecDepth 100000 in
set_option maxHeartbeats 16000000 in
theorem digits_post {w : World} {b : Nat} {r : Option Nat} {xs : List UInt8} {k : Nat} {err : Int} (h : Rd w b r xs k err) (hsz : xs.length ≤ 140737488355328) (X : Nat × Nat × Int) (hX : Hid (X = dg 10 xs k err 0 0)) :
    Calls Try.prog 36 #[.pointer (some ⟨b, 0, none⟩)] w (DgPost w b r xs X) := by
  go_enter Try.func36, Try.ntmps36
  go_wp2
  go_loopw [3, 6] (fun u c wr => DgRel w b r xs X u c wr) (fun _ c _ => 10 - (intOf c).toNat)
  case atStart => exact ⟨10, 0, 0, k, err, rfl, rfl, rfl, by decide, h, Fr.refl _ _ _, hX.out⟩
  case round =>
    obtain ⟨f, i, n, k', err', rfl, rfl, hf, hn, hR, hF, hdg⟩ := hrel
    cases f with
    | zero =>
      obtain rfl : i = 10 := by omega
      have HD := Lib.hid hdg
      clear hdg
      go_wp2
      go_ret
      rw [HD.out]
      exact ⟨rfl, hR, hF⟩
    | succ f =>
      have hi : i < 10 := by omega
      have B := rbyte_any hR hsz
      obtain ⟨x, hx⟩ : ∃ x, x = rb xs k' err' := ⟨_, rfl⟩
      obtain ⟨d, k1, e1⟩ := x
      rw [← hx] at B
      have HD := Lib.hid hdg
      have HX := Lib.hid hx
      have HB := Lib.hid B
      clear hdg hx B
      go_wp2_with fail
      refine (HB.out).mono ?_
      rintro e w2 ⟨rfl, hR2, hF2⟩
      obtain ⟨ax, cx, c0, c1, c2, f1, f2, _⟩ := hR2.cells
      have hd : d.toNat < 256 := d.toNat_lt
      have FA := Lib.hid (fun W hW => fail_any (w := W) (b := b) (r := r) (xs := xs) (k := k1) (err := e1) hW 8)
      obtain rfl | rfl | rfl | rfl | rfl | rfl | rfl | rfl | rfl | rfl : i = 0 ∨ i = 1 ∨ i = 2 ∨ i = 3 ∨ i = 4 ∨ i = 5 ∨ i = 6 ∨ i = 7 ∨ i = 8 ∨ i = 9 := by omega
      all_goals
        unfold bv
        go_wp2_with (go_at_call 37; refine (FA.out _ hR2).mono ?_; rintro e w3 ⟨rfl, hR3, hF3⟩; obtain ⟨ax3, cx3, c30, c31, c32, f31, f32, _⟩ := hR3.cells)
      all_goals first
        | (go_ret; first
          | exact post_of (dg_stop HX.out HD.out (E_good (by first | exact bad_first _ | exact bad_mid (by decide) (by assumption) | exact good_nine (by assumption) (by assumption))) (by first | exact stop_a (by assumption) | exact stop_b (by assumption) | exact stop_c (by assumption))) (by simp only [Nat.reduceMul, Nat.reducePow, IntKind.wrap_u64]; omega) hR2 (hF.trans (Or.inl rfl) hF2)
          | exact post_of (dg_stop HX.out HD.out (E_bad (by first | exact bad_zero (by decide) (by assumption) | exact bad_nine (by assumption) (by assumption))) (by first | exact stop_a (by assumption) | exact stop_b (by assumption) | exact stop_c (by assumption))) (by simp only [Nat.reduceMul, Nat.reducePow, IntKind.wrap_u64]; omega) hR3 ((hF.trans (Or.inl rfl) hF2).trans (Or.inl rfl) hF3))
        | (go_roundw
           case rel =>
            first
            | exact ⟨f, _, _, k1, e1, by go_num, by simp only [Nat.reduceMul, Nat.reducePow, IntKind.wrap_u64]; go_num, by omega, by omega, hR2, hF.trans (Or.inl rfl) hF2, dg_go HX.out HD.out (E_good (by first | exact bad_first _ | exact bad_mid (by decide) (by assumption) | exact good_nine (by assumption) (by assumption))) (by assumption)⟩
            | exact ⟨f, _, _, k1, _, by go_num, by simp only [Nat.reduceMul, Nat.reducePow, IntKind.wrap_u64]; go_num, by omega, by omega, hR3, (hF.trans (Or.inl rfl) hF2).trans (Or.inl rfl) hF3, dg_go HX.out HD.out (E_bad (by first | exact bad_zero (by decide) (by assumption) | exact bad_nine (by assumption) (by assumption))) (by assumption)⟩
           case measure => simp [intOf])
end Go.Proofs.Ytcjnfmlpjolfpaa
