/- What a Reader's call next leaves: the next so many bytes, or what went wrong. -/
import Derived.Test.YtcjnfmlpjolfpaaRd
namespace Go.Proofs.Ytcjnfmlpjolfpaa
open Go Go.RowKit
set_option linter.unusedVariables false

/-- What is read, how far it is read then, and the error. -/
def nx (xs : List UInt8) (k : Nat) (err : Int) (n : Nat) : List UInt8 × Nat × Int :=
  if err ≠ 0 then ([], k, err) else if k + n ≤ xs.length then ((xs.drop k).take n, k + n, 0) else ([], k, 6)

/-- A slice value that reads as bytes, below a block. -/
def Sl (w : World) (v : Value) (ys : List UInt8) : Prop :=
  ∃ ao c, v = .slice ao ys.length c ∧ (ao = none → ys = []) ∧ ∀ a, ao = some a → ∀ j u, (bvs ys)[j]? = some u → w.cell? (a.add j) = some u

theorem next_err {w : World} {b : Nat} {r : Option Nat} {xs : List UInt8} {k : Nat} {err : Int} (h : Rd w b r xs k err) (he : err ≠ 0) (n : Nat) (hn : n ≤ 1000000) (hsz : xs.length ≤ 140737488355328) :
    Calls Try.prog 35 #[.pointer (some ⟨b, 0, none⟩), .int .i64 (n : Int)] w fun e w' => e = .returned (.slice none 0 0) ∧ ∃ n, w' = w.drewN n := by
  obtain ⟨ao, c, c0, c1, c2, f1, f2, _⟩ := h.cells
  have hk := h.1
  have hb : (err != 0) = true := by simpa using he
  by_cases hl : n ≤ xs.length - k
  · have hl' : ¬ ((xs.length : Int) - (k : Int) < (n : Int)) := by omega
    go_enter Try.func35, Try.ntmps35
    go_wp2
    go_quiet (fail)
    go_wp2
    go_ret
    exact ⟨rfl, _, rfl⟩
  · have hl' : (xs.length : Int) - (k : Int) < (n : Int) := by omega
    go_enter Try.func35, Try.ntmps35
    go_wp2
    go_quiet (fail)
    go_wp2_with (go_at_call 37; refine (fail_no (h.drewN _) he _).mono ?_; rintro e w2 ⟨rfl, rfl⟩)
    go_ret
    exact ⟨rfl, _, rfl⟩

theorem next_short {w : World} {b : Nat} {r : Option Nat} {xs : List UInt8} {k : Nat} (h : Rd w b r xs k 0) (n : Nat) (hn : n ≤ 1000000) (hl : xs.length < k + n) (hsz : xs.length ≤ 140737488355328) :
    Calls Try.prog 35 #[.pointer (some ⟨b, 0, none⟩), .int .i64 (n : Int)] w fun e w' => e = .returned (.slice none 0 0) ∧ ∃ n, w' = (w.drewN n).setCell ⟨b, 2, none⟩ (.int .i64 6) := by
  obtain ⟨ao, c, c0, c1, c2, f1, f2, _⟩ := h.cells
  have hk := h.1
  have hl' : (xs.length : Int) - (k : Int) < (n : Int) := by omega
  go_enter Try.func35, Try.ntmps35
  go_wp2
  go_quiet (fail)
  go_wp2_with (go_at_call 37; refine (fail_yes (h.drewN _) _).mono ?_; rintro e w2 ⟨rfl, rfl⟩)
  go_ret
  exact ⟨rfl, _, rfl⟩

set_option maxRecDepth 100000 in
set_option maxHeartbeats 1600000 in
theorem next_ok {w : World} {b : Nat} {r : Option Nat} {xs : List UInt8} {k : Nat} (h : Rd w b r xs k 0) (n : Nat) (hn : n ≤ 1000000) (hl : k + n ≤ xs.length) (hsz : xs.length ≤ 140737488355328) :
    Calls Try.prog 35 #[.pointer (some ⟨b, 0, none⟩), .int .i64 (n : Int)] w fun e w' => ∃ v, e = .returned v ∧ Sl w' v ((xs.drop k).take n) ∧ Rd w' b r xs (k + n) 0 ∧ Fr w w' b none := by
  obtain ⟨ao, c, c0, c1, c2, f1, f2, hown, hr⟩ := h.cells
  have hk := h.1
  have hl' : ¬ ((xs.length : Int) - (k : Int) < (n : Int)) := by omega
  have hcap : xs.length ≤ c ∧ c ≤ 9223372036854775807 := by
    rcases hown.2 with ⟨e, e0⟩ | ⟨g, cap, cur, e, _, _, h1, h2, _⟩
    · injection e with _ _ e1; omega
    · injection e with _ _ e1; unfold maxLen at h2; omega
  obtain ⟨hc1, hc2⟩ := hcap
  by_cases hck : c = k
  · subst hck
    obtain rfl : n = 0 := by omega
    go_enter Try.func35, Try.ntmps35
    go_wp2
    go_quiet (fail)
    go_wp2
    go_quiet (fail)
    go_wp2
    go_ret
    refine ⟨_, rfl, ?_, by simpa using ((h.drewN _).setAt c (by omega) _ rfl), (((Fr.refl w b none).drewN _).set 1 _)⟩
    simp only [List.take_zero]
    exact ⟨ao, 0, rfl, fun _ => rfl, fun a _ j u hu => by simp [bvs] at hu⟩
  · obtain ⟨g, rfl⟩ : ∃ g, ao = some ⟨g, 0, none⟩ := by
      rcases hown.2 with ⟨e, e0⟩ | ⟨g, cap, cur, e, _⟩
      · injection e with _ _ e1; omega
      · injection e with e1; exact ⟨g, e1⟩
    have hcells := hown.cells (g := g) rfl
    have HC := Lib.hid hcells
    clear hcells hown
    have w1 : IntKind.i64.wrap ((k : Int) + (n : Int)) = (k : Int) + (n : Int) := IntWalk.i64_in _ (by omega)
    have w2 : (0 : Int) ≤ (k : Int) + (n : Int) := by omega
    have w3 : ((k : Int) + (n : Int)).toNat = k + n := by omega
    have w4 : k ≤ k + n := by omega
    have w5 : k + n ≤ c := by omega
    have w6 : (0 : Int) ≤ (k : Int) := by omega
    go_enter Try.func35, Try.ntmps35
    go_wp2
    go_quiet (fail)
    go_wp2
    go_quiet (fail)
    go_wp2
    go_ret
    have hgb : g ≠ b := by
      intro e
      subst e
      exact h.ne hr.symm
    have hln : ((xs.drop k).take n).length = n := by simp; omega
    refine ⟨_, rfl, ⟨some ⟨g, k, none⟩, c - k, (by rw [hln]; rfl), (fun h => by cases h), ?_⟩, (h.drewN _).setAt (k + n) hl _ (by omega), (((Fr.refl w b none).drewN _).set 1 _)⟩
    intro a ha j u hu
    cases ha
    have hj : j < n := by
      have := (List.getElem?_eq_some_iff.1 hu).1
      rw [bvs_length, hln] at this
      exact this
    rw [Addr.add_lit, World.cell?_setCell_other _ _ _ _ (fun e => by have e := congrArg Addr.block e; first | exact hgb e | exact hgb e.symm)]
    have := HC.out (k + j) u (by
      rw [← hu]
      simp [bvs, hj, List.getElem?_drop])
    rw [Addr.add_lit] at this
    simpa using this

/-- All three. -/
theorem next_any {w : World} {b : Nat} {r : Option Nat} {xs : List UInt8} {k : Nat} {err : Int} (h : Rd w b r xs k err) (n : Nat) (hn : n ≤ 1000000) (hsz : xs.length ≤ 140737488355328) :
    Calls Try.prog 35 #[.pointer (some ⟨b, 0, none⟩), .int .i64 (n : Int)] w fun e w' => ∃ v, e = .returned v ∧ Sl w' v (nx xs k err n).1 ∧ Rd w' b r xs (nx xs k err n).2.1 (nx xs k err n).2.2 ∧ Fr w w' b none := by
  have nil : ∀ W : World, Sl W (.slice none 0 0) [] := fun W => ⟨none, 0, rfl, fun _ => rfl, fun a h => by cases h⟩
  unfold nx
  by_cases he : err = 0
  · subst he
    by_cases hl : k + n ≤ xs.length
    · simp only [ne_eq, not_true_eq_false, if_false, if_pos hl]
      exact next_ok h n hn hl hsz
    · simp only [ne_eq, not_true_eq_false, if_false, if_neg hl]
      refine (next_short h n hn (by omega) hsz).mono ?_
      rintro e w' ⟨rfl, m, rfl⟩
      exact ⟨_, rfl, nil _, (h.drewN m).setErr 6, ((Fr.refl w b none).drewN m).set 2 _⟩
  · simp only [ne_eq, he, not_false_eq_true, if_true]
    refine (next_err h he n hn hsz).mono ?_
    rintro e w' ⟨rfl, m, rfl⟩
    exact ⟨_, rfl, nil _, h.drewN m, (Fr.refl w b none).drewN m⟩
end Go.Proofs.Ytcjnfmlpjolfpaa
