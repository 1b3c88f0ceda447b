/- A region that draws its order: any invariant of what was carried out, the slots and the world. -/
import Derived.Test.YtjjmjbemflhlbaaUk
namespace Go.Proofs.Ytjjmjbemflhlbaa
open Go
section
variable {P : Program} {ops : Array Oper} {Q : Exit → Act → World → Prop}
theorem wp_region_slotsJ {id : Nat} {a : Act} {w : World} (hm : P.follows .mixedOrders = true) (hback : backOkG ops = true) (mk : (Nat → Value) → Act) (J : (Nat → Bool) → (Nat → Value) → World → Prop)
    (hstep : ∀ i o, ops[i]? = some o → ∀ L x w, (∀ e ∈ o.after, Region.binds .any e = true → L e.on = true) → L i = false → J L x w →
      (Region.wanted o (yielded ops (mk x).tmps) = true ∧ o.wp P (mk x) w (fun a' w' => ∃ v, a' = mk (upd x i v) ∧ J (upd L i true) (upd x i v) w') Q) ∨
      (Region.wanted o (yielded ops (mk x).tmps) = false ∧ ∃ v, (mk x).put o.dst undef = mk (upd x i v) ∧ J (upd L i true) (upd x i v) w))
    (hend : ∀ L x w, (∀ j, j < ops.size → L j = true) → J L x w → Q .normal (mk x) w)
    (x0 : Nat → Value) (h0 : a = mk x0) (hJ : J (fun _ => false) x0 w.drew) : (Code.region id ops true).wp P Q a w := by
  refine wp_region_any hm ?_
  refine wpAny_invG (Q := Q) hback (fun L a w => ∃ x, a = mk x ∧ J L x w) ?_ ?_ ops.size (List.range ops.size) _ (fun _ => false) _ _ (by simp) (by simp) ?_ (fun j hj _ => List.mem_range.2 hj) ⟨x0, h0, hJ⟩
  · rintro i o ho L a w hd hi ⟨x, rfl, hx⟩
    unfold wpOp
    simp only [ho]
    rcases hstep i o ho L x w hd hi hx with ⟨hw, h1⟩ | ⟨hw, v, hv, hj⟩
    · rw [hw, if_pos rfl]
      exact .inl (Oper.wp_mono (fun a' w' h' => by obtain ⟨v, rfl, hj⟩ := h'; exact ⟨_, rfl, hj⟩) h1)
    · rw [hw, if_neg (by decide)]
      exact ⟨upd x i v, hv, hj⟩
  · rintro L a w hall ⟨x, rfl, hx⟩
    exact hend L x w hall hx
  · intro j hj
    simp [hj]
theorem updJ {F : Nat → Value → Prop} {L : Nat → Bool} {x : Nat → Value} {i : Nat} {v : Value} (h : ∀ j, L j = true → F j (x j)) (hf : F i v) : ∀ j, upd L i true j = true → F j (upd x i v j) := by
  intro j hj
  by_cases hji : j = i
  · subst hji; rw [upd_self]; exact hf
  · rw [upd_ne _ _ hji] at hj ⊢
    exact h j hj
end
end Go.Proofs.Ytjjmjbemflhlbaa
