/- A region that draws its order: operations that only make values, and some that turn memory, told by a parameter: of no program. -/
import Derived.Test.YtjjmjbemflhlbaaFA
namespace Go.Proofs.Ytjjmjbemflhlbaa
open Go
section
variable {P : Program} {ops : Array Oper} {Q : Exit → Act → World → Prop}
theorem wp_region_par {α : Type} {id : Nat} {a : Act} {w : World} (hm : P.follows .mixedOrders = true) (hback : backOkG ops = true) (hg : ops.all (fun o => o.guard.isNone) = true) (mk : (Nat → Value) → Act) (F : α → Nat → Value → Prop) (I : (Nat → Bool) → α → World → Prop) (src : Nat → Bool) (later : Nat → Nat → Bool)
    (hlater : ∀ i j o, src i = true → later i j = true → ops[j]? = some o → ∃ e ∈ o.after, Region.binds .any e = true ∧ (e.on = i ∨ later i e.on = true))
    (hq : ∀ i o, src i = false → ops[i]? = some o → ∀ (L : Nat → Bool) (p : α) (x : Nat → Value) (w : World), (∀ e ∈ o.after, Region.binds .any e = true → F p e.on (x e.on)) → L i = false → I L p w →
      ∃ v, (execOp (mk x).eval o).run P w = .ok (.value v) w ∧ (mk x).put o.dst v = mk (upd x i v) ∧ F p i v ∧ I (upd L i true) p w)
    (hs : ∀ i o, src i = true → ops[i]? = some o → ∀ (L : Nat → Bool) (p : α) (x : Nat → Value) (w : World), (∀ e ∈ o.after, Region.binds .any e = true → L e.on = true ∧ F p e.on (x e.on)) → L i = false → (∀ j, later i j = true → L j = false) → I L p w →
      o.wp P (mk x) w (fun a' w' => ∃ v p', a' = mk (upd x i v) ∧ F p' i v ∧ (∀ j q, j ≠ i → later i j = false → F p j q → F p' j q) ∧ I (upd L i true) p' w') Q)
    (hend : ∀ L p x w, (∀ j, j < ops.size → L j = true ∧ F p j (x j)) → I L p w → Q .normal (mk x) w)
    (x0 : Nat → Value) (p0 : α) (h0 : a = mk x0) (hI : I (fun _ => false) p0 w.drew) : (Code.region id ops true).wp P Q a w := by
  refine wp_region_slotsJ hm hback mk (fun L x w => (∀ i j, src i = true → later i j = true → j < ops.size → L j = true → L i = true) ∧ (∀ j, L j = true → j < ops.size) ∧ ∃ p, I L p w ∧ ∀ j, L j = true → F p j (x j)) ?_ ?_ x0 h0 ⟨(fun i j _ _ _ h => by cases h), (fun j h => by cases h), p0, hI, fun j h => by cases h⟩
  · rintro i o ho L x w hd hi ⟨hc, hsz, p, hIp, hF⟩
    have hgd : o.guard = none := by
      have h := Array.all_eq_true'.1 hg o (Array.mem_of_getElem? ho)
      simpa using h
    have hilt : i < ops.size := (Array.getElem?_eq_some_iff.1 ho).1
    have hwant : ∀ t, Region.wanted o t = true := fun t => by unfold Region.wanted; rw [hgd]
    have hcl : ∀ i' j, src i' = true → later i' j = true → j < ops.size → upd L i true j = true → upd L i true i' = true := by
      intro i' j hs' hl hj hL
      by_cases hii : i' = i
      · rw [hii, upd_self]
      · rw [upd_ne _ _ hii]
        by_cases hji : j = i
        · subst hji
          obtain ⟨e, he, hb, hor⟩ := hlater i' j o hs' hl ho
          have hLe := hd e he hb
          rcases hor with h | h
          · rw [← h]; exact hLe
          · exact hc i' e.on hs' h (Nat.lt_trans (backOkG_spec hback ho e he hb) hilt) hLe
        · rw [upd_ne _ _ hji] at hL
          exact hc i' j hs' hl hj hL
    have hsz' : ∀ j, upd L i true j = true → j < ops.size := by
      intro j hj
      by_cases hji : j = i
      · rw [hji]; exact hilt
      · rw [upd_ne _ _ hji] at hj
        exact hsz j hj
    refine .inl ⟨hwant _, ?_⟩
    cases hsi : src i with
    | false =>
      obtain ⟨v, hr, hp, hFv, hIv⟩ := hq i o hsi ho L p x w (fun e he hb => hF e.on (hd e he hb)) hi hIp
      exact slot_run (v := v) (w' := w) hr ⟨v, hp, hcl, hsz', p, hIv, updJ hF hFv⟩
    | true =>
      refine Oper.wp_mono (fun a' w' h' => ?_) (hs i o hsi ho L p x w (fun e he hb => ⟨hd e he hb, hF e.on (hd e he hb)⟩) hi (fun j hl => by
        cases hj : L j with
        | false => rfl
        | true =>
          have := hc i j hsi hl (hsz j hj) hj
          rw [hi] at this
          cases this) hIp)
      obtain ⟨v, p', rfl, hFv, hkeep, hIv⟩ := h'
      refine ⟨v, rfl, hcl, hsz', p', hIv, fun j hj => ?_⟩
      by_cases hji : j = i
      · subst hji; rw [upd_self]; exact hFv
      · rw [upd_ne _ _ hji] at hj ⊢
        by_cases hlj : later i j = true
        · have := hc i j hsi hlj (hsz j hj) hj
          rw [hi] at this
          cases this
        · exact hkeep j _ hji (by simpa using hlj) (hF j hj)
  · rintro L x w hall ⟨hc, _, p, hIp, hF⟩
    exact hend L p x w (fun j hj => ⟨hall j hj, hF j (hall j hj)⟩) hIp
/-- What is to be looked up of such a region's order, for the kernel. -/
def parOk (ops : Array Oper) (srcs : List Nat) (later : Nat → Nat → Bool) : Bool := srcs.all fun i => (List.range ops.size).all fun j => !later i j || (match ops[j]? with
  | some o => o.after.toList.any fun e => Region.binds .any e && (e.on == i || later i e.on)
  | none => true)
theorem parOk_spec {srcs : List Nat} {later : Nat → Nat → Bool} (h : parOk ops srcs later = true) : ∀ i j o, srcs.contains i = true → later i j = true → ops[j]? = some o → ∃ e ∈ o.after, Region.binds .any e = true ∧ (e.on = i ∨ later i e.on = true) := by
  intro i j o hi hl ho
  have h1 := List.all_eq_true.1 h i (by simpa using hi)
  have h2 := List.all_eq_true.1 h1 j (List.mem_range.2 (Array.getElem?_eq_some_iff.1 ho).1)
  rw [hl, ho] at h2
  simp only [Bool.not_true, Bool.false_or] at h2
  obtain ⟨e, he, hb⟩ := List.any_eq_true.1 h2
  refine ⟨e, by simpa using he, ?_⟩
  simpa using hb
end
end Go.Proofs.Ytjjmjbemflhlbaa
