/- CronFirst: the theory of the first minute that fits. -/
import Derived.Test.YthebkckcnmjehaaDoorCm
namespace Go.Proofs.YthebkckcnmjehaaDoor
open Go Go.RowKit
set_option linter.unusedVariables false
set_option linter.unusedSimpArgs false
theorem fitsDay_same (D : List (List Nat × Bool)) {a b : Nat} (h : a / 1440 = b / 1440) : fitsDayN D (dateN a) = fitsDayN D (dateN b) := by
  unfold fitsDayN dateN
  dsimp only
  rw [h]
theorem dateH_same {a b : Nat} (h : a / 60 = b / 60) : (dateN a).h = (dateN b).h := by
  show a % 1440 / 60 = b % 1440 / 60
  omega
theorem fits_noday {D : List (List Nat × Bool)} {x : DateD} (h : fitsDayN D x = false) : fitsN D x = false := by unfold fitsN; rw [h]; rfl
theorem fits_nohour {D : List (List Nat × Bool)} {x : DateD} (h : decide (x.h ∈ (D.getD 1 ([], false)).1) = false) : fitsN D x = false := by unfold fitsN; rw [h]; cases fitsDayN D x <;> rfl
theorem fits_nomin {D : List (List Nat × Bool)} {x : DateD} (h : decide (x.mi ∈ (D.getD 0 ([], false)).1) = false) : fitsN D x = false := by unfold fitsN; rw [h, Bool.and_false]
/-- What the search from m on up to last finds is the first that fits. -/
def Firsts (D : List (List Nat × Bool)) (last m : Nat) (R : Option Nat) : Prop :=
  (∀ r, R = some r → m ≤ r ∧ r ≤ last ∧ fitsN D (dateN r) = true ∧ ∀ x, m ≤ x → x < r → fitsN D (dateN x) = false) ∧ (R = none → ∀ x, m ≤ x → x ≤ last → fitsN D (dateN x) = false)
theorem Firsts.skip {D : List (List Nat × Bool)} {last m m2 : Nat} {R : Option Nat} (hm : m ≤ m2) (h : ∀ x, m ≤ x → x < m2 → fitsN D (dateN x) = false) (f : Firsts D last m2 R) : Firsts D last m R := by
  refine ⟨fun r hr => ?_, fun hr x h1 h2 => ?_⟩
  · obtain ⟨a, b, c, d⟩ := f.1 r hr
    refine ⟨by omega, b, c, fun x h1 h2 => ?_⟩
    by_cases hx : x < m2
    · exact h x h1 hx
    · exact d x (by omega) h2
  · by_cases hx : x < m2
    · exact h x h1 hx
    · exact f.2 hr x (by omega) h2
theorem nextF_first (D : List (List Nat × Bool)) (last : Nat) : ∀ (f m : Nat), last < m + f → Firsts D last m (nextF D f last m)
  | 0, m, h => ⟨fun r hr => by simp [nextF] at hr, fun _ x h1 h2 => by omega⟩
  | f + 1, m, h => by
    rw [nextF]
    by_cases h0 : last < m
    · rw [if_pos h0]
      exact ⟨fun r hr => by simp at hr, fun _ x h1 h2 => by omega⟩
    rw [if_neg h0]
    by_cases h1 : fitsDayN D (dateN m) = false
    · rw [if_pos h1]
      refine Firsts.skip (by omega) (fun x hx hy => ?_) (nextF_first D last f (m + (1440 - m % 1440)) (by omega))
      exact fits_noday ((fitsDay_same D (show x / 1440 = m / 1440 by omega)).trans h1)
    rw [if_neg h1]
    by_cases h2 : decide ((dateN m).h ∈ (D.getD 1 ([], false)).1) = false
    · rw [if_pos h2]
      refine Firsts.skip (by omega) (fun x hx hy => ?_) (nextF_first D last f (m + (60 - m % 60)) (by omega))
      exact fits_nohour (by rw [dateH_same (show x / 60 = m / 60 by omega)]; exact h2)
    rw [if_neg h2]
    by_cases h3 : decide ((dateN m).mi ∈ (D.getD 0 ([], false)).1) = false
    · rw [if_pos h3]
      refine Firsts.skip (by omega) (fun x hx hy => ?_) (nextF_first D last f (m + 1) (by omega))
      obtain rfl : x = m := by omega
      exact fits_nomin h3
    rw [if_neg h3]
    refine ⟨fun r hr => ?_, fun hr => by simp at hr⟩
    obtain rfl : m = r := Option.some.inj hr
    refine ⟨Nat.le_refl _, by omega, ?_, fun x a b => by omega⟩
    unfold fitsN
    rw [Bool.of_not_eq_false h1, Bool.of_not_eq_false h2, Bool.of_not_eq_false h3]
    rfl
theorem nextF_now {D : List (List Nat × Bool)} {m last f : Nat} (h : fitsN D (dateN m) = true) (hm : m ≤ last) : nextF D (f + 1) last m = some m := by
  unfold fitsN at h
  simp only [Bool.and_eq_true] at h
  rw [nextF, if_neg (by omega), if_neg (by rw [h.1.1]; decide), if_neg (by rw [h.1.2]; decide), if_neg (by rw [h.2]; decide)]
/-- What Next answers from -1 on. -/
theorem nextV_first (D : List (List Nat × Bool)) (t : Int) (h1 : -1 ≤ t) (h2 : t ≤ 2147483648) :
    (nextV D t = .tuple #[.int .i64 0, .int .i64 41] ∧ ∀ x : Nat, t < (x : Int) → (x : Int) ≤ t + 527040 → fitsN D (dateN x) = false) ∨
    ∃ m : Nat, nextV D t = .tuple #[.int .i64 (m : Int), .int .i64 0] ∧ t < (m : Int) ∧ (m : Int) ≤ t + 527040 ∧ fitsN D (dateN m) = true ∧ (∀ x : Nat, t < (x : Int) → (x : Int) < (m : Int) → fitsN D (dateN x) = false) ∧ nextV D ((m : Int) - 1) = .tuple #[.int .i64 (m : Int), .int .i64 0] := by
  have hf := nextF_first D ((t + 527040).toNat) 527041 ((t + 1).toNat) (by omega)
  unfold nextV
  rw [if_neg (by omega)]
  cases hR : nextF D 527041 ((t + 527040).toNat) ((t + 1).toNat) with
  | none =>
    rw [hR] at hf
    exact Or.inl ⟨rfl, fun x a b => hf.2 rfl x (by omega) (by omega)⟩
  | some m =>
    rw [hR] at hf
    obtain ⟨a, b, c, d⟩ := hf.1 m rfl
    refine Or.inr ⟨m, rfl, by omega, by omega, c, fun x e f => d x (by omega) (by omega), ?_⟩
    rw [if_neg (by omega), show ((m : Int) - 1 + 1).toNat = m by omega, nextF_now c (by omega)]
end Go.Proofs.YthebkckcnmjehaaDoor
