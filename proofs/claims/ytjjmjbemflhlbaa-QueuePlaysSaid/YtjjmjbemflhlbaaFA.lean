/- A region that draws its order but for its last operation (a store that waits for all others): of no program. -/
import Derived.Test.YtjjmjbemflhlbaaUl
namespace Go.Proofs.Ytjjmjbemflhlbaa
open Go
section
variable {P : Program} {ops : Array Oper} {Q : Exit → Act → World → Prop}
/-- Which operations an operation waits for. -/
def depsO (ops : Array Oper) (j : Nat) : List Nat := match ops[j]? with
  | some o => (o.after.toList.filter (Region.binds .any)).map (·.on)
  | none => []
def reachO (ops : Array Oper) : Nat → List Nat → List Nat
  | 0, S => S
  | f + 1, S => S ++ reachO ops f (S.flatMap (depsO ops)).eraseDups
def lastO (ops : Array Oper) (n : Nat) : Bool := (List.range n).all fun i => (reachO ops n [n]).contains i
def ClosO (ops : Array Oper) (L : Nat → Bool) : Prop := ∀ j o, ops[j]? = some o → L j = true → ∀ e ∈ o.after, Region.binds .any e = true → L e.on = true
theorem mem_eraseDups_le {l : List Nat} {a : Nat} (h : a ∈ l.eraseDups) : a ∈ l := by simpa using h
theorem reach_all {L : Nat → Bool} (hc : ClosO ops L) : ∀ (f : Nat) (S : List Nat), (∀ j ∈ S, L j = true) → ∀ j ∈ reachO ops f S, L j = true
  | 0, S, h => h
  | f + 1, S, h => by
    intro j hj
    rw [reachO] at hj
    rcases List.mem_append.1 hj with hj | hj
    · exact h j hj
    · refine reach_all hc f _ (fun i hi => ?_) j hj
      have hi := mem_eraseDups_le hi
      obtain ⟨k, hk, hi⟩ := List.mem_flatMap.1 hi
      unfold depsO at hi
      cases ho : ops[k]? with
      | none => rw [ho] at hi; cases hi
      | some o =>
        rw [ho] at hi
        obtain ⟨e, he, rfl⟩ := List.mem_map.1 hi
        obtain ⟨h1, h2⟩ := List.mem_filter.1 he
        exact hc k o ho (h k hk) e (by simpa using h1) h2
theorem last_all {L : Nat → Bool} {n : Nat} (hc : ClosO ops L) (hl : lastO ops n = true) (hn : L n = true) : ∀ i, i < n → L i = true := by
  intro i hi
  have h1 := List.all_eq_true.1 hl i (List.mem_range.2 hi)
  exact reach_all hc n [n] (fun j hj => by rw [List.mem_singleton.1 hj]; exact hn) i (by simpa using h1)
/-- Whatever the order of the others, the last operation comes behind them all. -/
theorem wp_region_slotsM {id : Nat} {a : Act} {w : World} (n : Nat) (hm : P.follows .mixedOrders = true) (hback : backOkG ops = true) (hsz : ops.size = n + 1) (hl : lastO ops n = true) (mk : (Nat → Value) → Act) (K : (Nat → Bool) → (Nat → Value) → World → Prop) (E : (Nat → Value) → World → Prop)
    (hstep : ∀ i o, i < n → ops[i]? = some o → ∀ (L : Nat → Bool) (x : Nat → Value) (w : World), (∀ e ∈ o.after, Region.binds .any e = true → L e.on = true) → L i = false → K L x w →
      (Region.wanted o (yielded ops (mk x).tmps) = true ∧ o.wp P (mk x) w (fun a' w' => ∃ v, a' = mk (upd x i v) ∧ K (upd L i true) (upd x i v) w') Q) ∨
      (Region.wanted o (yielded ops (mk x).tmps) = false ∧ ∃ v, (mk x).put o.dst undef = mk (upd x i v) ∧ K (upd L i true) (upd x i v) w))
    (hlast : ∀ o, ops[n]? = some o → ∀ (L : Nat → Bool) (x : Nat → Value) (w : World), (∀ j, j < n → L j = true) → K L x w → Region.wanted o (yielded ops (mk x).tmps) = true ∧ o.wp P (mk x) w (fun a' w' => ∃ v, a' = mk (upd x n v) ∧ E (upd x n v) w') Q)
    (hend : ∀ x w, E x w → Q .normal (mk x) w)
    (x0 : Nat → Value) (h0 : a = mk x0) (hS : K (fun _ => false) x0 w.drew) : (Code.region id ops true).wp P Q a w := by
  refine wp_region_slotsJ hm hback mk (fun L x w => ClosO ops L ∧ (L n = true → (∀ j, j < n → L j = true) ∧ E x w) ∧ (L n = false → K L x w)) ?_ ?_ x0 h0 ⟨(fun j o _ h => by cases h), (fun h => by cases h), fun _ => hS⟩
  · rintro i o ho L x w hd hi ⟨hc, hpost, hpre⟩
    have hilt : i < ops.size := (Array.getElem?_eq_some_iff.1 ho).1
    have hcl : ClosO ops (upd L i true) := by
      intro j o' ho' hj e he hb
      by_cases hei : e.on = i
      · rw [hei, upd_self]
      · rw [upd_ne _ _ hei]
        by_cases hji : j = i
        · subst hji
          rw [ho] at ho'
          obtain rfl := Option.some.inj ho'
          exact hd e he hb
        · rw [upd_ne _ _ hji] at hj
          exact hc j o' ho' hj e he hb
    by_cases hin : i = n
    · subst hin
      have hall := last_all hcl hl (upd_self _ _ _)
      have hall' : ∀ j, j < i → L j = true := fun j hj => by have := hall j hj; rwa [upd_ne _ _ (by omega)] at this
      obtain ⟨hw, h3⟩ := hlast o ho L x w hall' (hpre hi)
      refine .inl ⟨hw, Oper.wp_mono (fun a' w' h' => ?_) h3⟩
      obtain ⟨v, rfl, he⟩ := h'
      exact ⟨v, rfl, hcl, fun _ => ⟨hall, he⟩, fun h => by rw [upd_self] at h; cases h⟩
    · have hln : L n = false := by
        cases h : L n with
        | false => rfl
        | true => have := (hpost h).1 i (by omega); rw [this] at hi; cases hi
      have hupn : upd L i true n = false := by rw [upd_ne _ _ (fun e => hin e.symm)]; exact hln
      rcases hstep i o (by omega) ho L x w hd hi (hpre hln) with ⟨hw, h3⟩ | ⟨hw, v, hv, hf⟩
      · refine .inl ⟨hw, Oper.wp_mono (fun a' w' h' => ?_) h3⟩
        obtain ⟨v, rfl, hf⟩ := h'
        exact ⟨v, rfl, hcl, (fun h => by rw [hupn] at h; cases h), fun _ => hf⟩
      · exact .inr ⟨hw, v, hv, hcl, (fun h => by rw [hupn] at h; cases h), fun _ => hf⟩
  · rintro L x w hall ⟨_, hpost, _⟩
    exact hend x w (hpost (hall n (by omega))).2
end
end Go.Proofs.Ytjjmjbemflhlbaa
