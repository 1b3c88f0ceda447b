/- The head of each law: numbers and a text are written and read, and that is so. -/
import Derived.Test.YtcjnfmlpjolfpaaRt
namespace Go.Proofs.Ytcjnfmlpjolfpaa
open Go Go.RowKit
set_option linter.unusedVariables false

theorem Wrote.step {W0 w w' : World} {B b : Nat} {r : Option Nat} {zs : List UInt8} (h : Wrote w w' b r zs) (hB : Below B W0 w) (hw : B ≤ w.heap.size) (hb : B ≤ b) (hr : ∀ g, r = some g → B ≤ g) :
    ∃ r', Wr w' b r' zs ∧ Below B W0 w' ∧ B ≤ w'.heap.size ∧ (∀ g, r' = some g → B ≤ g) := by
  obtain ⟨r', hW, hF, h'⟩ := h
  refine ⟨r', hW, hB.trans (hF.below hw hb hr), Nat.le_trans hw hF.size, ?_⟩
  rcases h' with rfl | ⟨g, rfl, hg⟩
  · exact hr
  · intro g' e; cases e; omega
theorem Wr.below {B : Nat} {w w' : World} {b : Nat} {r : Option Nat} {xs : List UInt8} (h : Wr w b r xs) (hB : Below B w w') (hb : b < B) (hr : ∀ g, r = some g → g < B) : Wr w' b r xs :=
  h.keep (hB.block b hb) (fun g hg => hB.block g (hr g hg))
theorem Wr.later {w w' : World} {b : Nat} {r : Option Nat} {xs : List UInt8} (h : Wr w b r xs) (hB : Below w.heap.size w w') : Wr w' b r xs := h.below hB h.lt h.rlt
theorem Wr.fr {w w' : World} {b b' : Nat} {r r' : Option Nat} {xs : List UInt8} (h : Wr w b r xs) (hF : Fr w w' b' r') (h1 : b ≠ b') (h2 : r' ≠ some b) (h3 : r ≠ some b') (h4 : ∀ g, r = some g → r' ≠ some g) : Wr w' b r xs :=
  h.keep (hF.block b h.lt h1 (fun e => h2 e.symm)) (fun g hg => hF.block g (h.rlt g hg) (fun e => h3 (by rw [hg, e])) (fun e => h4 g hg e.symm))

theorem own_slice_src {w : World} {base n c : Nat} {ao : Option Addr} {xs : List UInt8} (h : w.ownsRow base 5 1 (.slice ao n c) n (bvs xs)) : xs.length = n ∧ (ao = none → n = 0) ∧ ∀ a, ao = some a → ∀ j u, (bvs xs)[j]? = some u → w.cell? (a.add j) = some u := by
  refine ⟨by have := h.1; simpa [bvs_length] using this, ?_, ?_⟩
  · rcases h.2 with ⟨e, e0⟩ | ⟨g, cap, cur, e, _⟩
    · exact fun _ => e0
    · intro e'; subst e'; cases e
  · intro a ha
    subst ha
    rcases h.2 with ⟨e, e0⟩ | ⟨g, cap, cur, e, _⟩
    · cases e
    · injection e with e1
      injection e1 with e1
      subst e1
      exact h.cells rfl
theorem Fr.belowN {B : Nat} {W0 w w' : World} {b : Nat} (h : Fr w w' b none) (hB : Below B W0 w) (hw : B ≤ w.heap.size) (hb : B ≤ b) : Below B W0 w' := hB.trans (h.below hw hb (fun g e => by cases e))
theorem below_drewN {B : Nat} {a w : World} (h : Below B a w) (n : Nat) : Below B a (w.drewN n) := ⟨h.os, h.tape, h.output, h.size, h.block⟩

theorem own_later {w w' : World} {base n B : Nat} {v : Value} {xs : List Value} (h : w.ownsRow base 5 1 v n xs) (hB : Below B w w') (hb : w.heap.size ≤ B) : w'.ownsRow base 5 1 v n xs := by
  refine ⟨h.1, ?_⟩
  rcases h.2 with h2 | ⟨g, cap, cur, rfl, hg, hh, rest⟩
  · exact Or.inl h2
  · exact Or.inr ⟨g, cap, cur, rfl, hg, (hB.block g (Nat.lt_of_lt_of_le (Array.getElem?_eq_some_iff.1 hh).1 hb)).trans hh, rest⟩
theorem own_convert {w : World} {base c : Nat} {ao : Option Addr} {xs : List UInt8} (h : w.ownsRow base 5 1 (.slice ao xs.length c) xs.length (bvs xs)) :
    (convert 24 9 (.slice ao xs.length c)).run Try.prog w = .ok (.string (str xs)) w := by
  obtain ⟨q1, q2, q3⟩ := own_slice_src h
  exact run_convert_sl rfl (fun e => List.eq_nil_of_length_eq_zero (q2 e)) q3

/-- The bytes of the head. -/
def L6 : List UInt8 := [172, 2, 1, 2, 97, 98]
def RnVal (k most : Nat) (v k' : Nat) : Prop := rn L6 k 0 most = (v, k', 0)

set_option maxRecDepth 100000 in
set_option maxHeartbeats 1000000 in
theorem writes_any (w : World) : Calls Try.prog 5 #[] w fun e w' => e = .returned (.bool true) ∧ Below w.heap.size w w' := by
  have hw0 := Wr.new w
  have hB0 : Below w.heap.size w (w.alloc (.cells #[.slice none 0 0] 26)) := (Below.refl _ _).alloc (Nat.le_refl _) _
  have n1 := fun (r : Option Nat) W (h : Wr W w.heap.size r []) g hg => num_one h g hg 300 300 rfl (by decide) (by decide)
  rw [show enc 300 = [172, 2] from by decide] at n1
  have n2 := fun (r : Option Nat) W (h : Wr W w.heap.size r [172, 2]) g hg => int_one h g hg (-1) (by decide) (by decide) (by decide)
  rw [show enc (zig (-1)) = [1] from by decide] at n2
  have n3 := fun (r : Option Nat) W (h : Wr W w.heap.size r [172, 2, 1]) => wtext_any h ⟨#[97, 98]⟩ (by decide)
  rw [show [172, 2, 1] ++ enc (ByteArray.size ⟨#[97, 98]⟩) ++ (ByteArray.mk #[97, 98]).data.toList = L6 from by decide] at n3
  have H1 := Lib.hid n1
  have H2 := Lib.hid n2
  have H3 := Lib.hid n3
  clear n1 n2 n3
  go_enter Try.func5, Try.ntmps5
  go_wp2_with fail
  refine (H1.out _ _ hw0 _ (by simp)).mono ?_
  rintro e w1 ⟨rfl, h1⟩
  obtain ⟨r1, h1, hB1, hz1, hr1⟩ := h1.step hB0 (by simp) (Nat.le_refl _) (fun g e => by cases e)
  go_wp2_with fail
  refine (H2.out _ _ h1 _ rfl).mono ?_
  rintro e w2 ⟨rfl, h2⟩
  obtain ⟨r2, h2, hB2, hz2, hr2⟩ := h2.step hB1 hz1 (Nat.le_refl _) hr1
  go_wp2_with fail
  refine (H3.out _ _ h2).mono ?_
  rintro e w3 ⟨rfl, h3⟩
  obtain ⟨r3, h3, hB3, hz3, hr3⟩ := h3.step hB2 hz2 (Nat.le_refl _) hr2
  clear h1 h2 hB0 hB1 hB2 hz1 hz2 hr1 hr2 hw0
  go_wp2_with fail
  refine (bytes_any h3 (by decide)).mono ?_
  rintro e w4 ⟨ao4, c4, rfl, hown4, hB4⟩
  obtain ⟨q1, q2, q3⟩ := own_slice_src hown4
  have hB4' := hB3.trans (hB4.mono hz3)
  have hz4 := Nat.le_trans hz3 hB4.size
  have h4 := h3.later hB4
  have R4 := Lib.hid (read_any (w := w4) ao4 6 c4 L6 rfl q2 q3 (by decide))
  clear q1 q2 q3 hown4
  go_wp2_with fail
  refine R4.out.mono ?_
  rintro e w5 ⟨b5, r5, rfl, hR5, hB5, hb5, hr5⟩
  have hB5' := hB4'.trans (hB5.mono hz4)
  have hz5 := Nat.le_trans hz4 hB5.size
  have h5 := h4.later hB5
  have hb5' := Nat.le_trans hz4 hb5
  clear R4
  go_wp2_with fail
  refine (bytes_any h5 (by decide)).mono ?_
  rintro e w6 ⟨ao6, c6, rfl, hown6, hB6⟩
  obtain ⟨q1, q2, q3⟩ := own_slice_src hown6
  have hcv := run_convert_sl (c := c6) (ys := L6) rfl (fun h => by have := q2 h; cases this) q3
  have hB6' := hB5'.trans (hB6.mono hz5)
  have hz6 := Nat.le_trans hz5 hB6.size
  have h6 := h5.later hB6
  have hR6 := hR5.below (B := 0) hB6
  have HS : str L6 = ⟨#[172, 2, 1, 2, 97, 98]⟩ := rfl
  clear q1 q2 q3 hown6 h4 h5 hR5
  rw [HS] at hcv
  go_wp2_with fail
  refine (len_any h6).mono ?_
  rintro e w6' ⟨rfl, rfl⟩
  have N1 := rnum_any hR6 (by decide) 300 (by decide)
  rw [show rn L6 0 0 300 = (300, 2, 0) from by decide +kernel] at N1
  have G1 := Lib.hid N1
  clear N1 hcv
  go_wp2_with fail
  refine G1.out.mono ?_
  rintro e w7 ⟨rfl, hR7, hF7⟩
  dsimp only at hR7
  have hB7 := hF7.belowN hB6' hz6 hb5'
  have hz7 := Nat.le_trans hz6 hF7.size
  have N2 := rint_any hR7 (by decide)
  rw [show rn L6 2 0 18446744073709551615 = (1, 3, 0) from by decide +kernel] at N2
  have G2 := Lib.hid N2
  clear N2 G1
  go_wp2_with fail
  refine G2.out.mono ?_
  rintro e w8 ⟨rfl, hR8, hF8⟩
  dsimp only at hR8
  have hB8 := hF8.belowN hB7 hz7 hb5'
  have hz8 := Nat.le_trans hz7 hF8.size
  have N3 := rtext_any hR8 (by decide)
  rw [show rt L6 3 0 = ([97, 98], 6, 0) from by decide +kernel] at N3
  have G3 := Lib.hid N3
  clear N3 G2
  rw [show zag ((1, 3, 0) : Nat × Nat × Int).1 = -1 from by decide]
  go_wp2_with fail
  refine G3.out.mono ?_
  rintro e w9 ⟨rfl, hR9, hF9⟩
  dsimp only at hR9
  have hB9 := hF9.belowN hB8 hz8 hb5'
  have hz9 := Nat.le_trans hz8 hF9.size
  have N4 := end_any hR9 (by decide)
  rw [show rend L6 6 0 = 0 from by decide +kernel] at N4
  have G4 := Lib.hid N4
  clear N4 G3
  rw [show str (([97, 98], 6, 0) : List UInt8 × Nat × Int).1 = ⟨#[97, 98]⟩ from rfl]
  go_wp2_with fail
  refine G4.out.mono ?_
  rintro e w10 ⟨rfl, n10, rfl⟩
  have hR10 := hR9.drewN n10
  go_wp2_with fail
  refine (at_any hR10).mono ?_
  rintro e w11 ⟨rfl, rfl⟩
  go_wp2_with fail
  go_ret
  exact ⟨rfl, below_drewN hB9 n10⟩
end Go.Proofs.Ytcjnfmlpjolfpaa
