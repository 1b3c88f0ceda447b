/- A region that draws its order, whose operations also read what later ones of it write. Of no program. -/
import Derived.Test.YtjjmjbemflhlbaaND
namespace Go.Proofs.Ytjjmjbemflhlbaa
open Go
section
variable {P : Program} {ops : Array Oper} {Q : Exit → Act → World → Prop}
theorem wp_region_parX {α : Type} {id : Nat} {a : Act} {w : World} (hm : P.follows .mixedOrders = true) (hback : backOkG ops = true) (mk : (Nat → Value) → Act) (F : α → Nat → Value → Prop) (I : (Nat → Bool) → α → World → Prop) (src : Nat → Bool) (later : Nat → Nat → Bool) (x0 : Nat → Value)
    (hlater : ∀ i j o, src i = true → later i j = true → ops[j]? = some o → ∃ e ∈ o.after, Region.binds .any e = true ∧ (e.on = i ∨ later i e.on = true))
    (hq : ∀ i o, src i = false → ops[i]? = some o → ∀ (L : Nat → Bool) (p : α) (x : Nat → Value) (w : World), (∀ e ∈ o.after, Region.binds .any e = true → F p e.on (x e.on)) → L i = false → (∀ j, L j = false → x j = x0 j) → (∀ j o' e, ops[j]? = some o' → e ∈ o'.after → Region.binds .any e = true → L e.on = false → L j = false) → I L p w →
      (Region.wanted o (yielded ops (mk x).tmps) = true ∧ ∃ v, (execOp (mk x).eval o).run P w = .ok (.value v) w ∧ (mk x).put o.dst v = mk (upd x i v) ∧ F p i v ∧ I (upd L i true) p w) ∨
      (Region.wanted o (yielded ops (mk x).tmps) = false ∧ ∃ v, (mk x).put o.dst undef = mk (upd x i v) ∧ F p i v ∧ I (upd L i true) p w))
    (hs : ∀ i o, src i = true → ops[i]? = some o → ∀ (L : Nat → Bool) (p : α) (x : Nat → Value) (w : World), (∀ e ∈ o.after, Region.binds .any e = true → L e.on = true ∧ F p e.on (x e.on)) → L i = false → (∀ j, L j = false → x j = x0 j) → (∀ j, later i j = true → L j = false) → I L p w →
      Region.wanted o (yielded ops (mk x).tmps) = true ∧ o.wp P (mk x) w (fun a' w' => ∃ v p', a' = mk (upd x i v) ∧ F p' i v ∧ (∀ j q, j ≠ i → later i j = false → F p j q → F p' j q) ∧ I (upd L i true) p' w') Q)
    (hend : ∀ L p x w, (∀ j, j < ops.size → L j = true ∧ F p j (x j)) → I L p w → Q .normal (mk x) w)
    (p0 : α) (h0 : a = mk x0) (hI : I (fun _ => false) p0 w.drew) : (Code.region id ops true).wp P Q a w := by
  refine wp_region_slotsJ hm hback mk (fun L x w => (∀ i j, src i = true → later i j = true → j < ops.size → L j = true → L i = true) ∧ (∀ j, L j = true → j < ops.size) ∧ (∀ j, L j = false → x j = x0 j) ∧ (∀ j o' e, ops[j]? = some o' → e ∈ o'.after → Region.binds .any e = true → L e.on = false → L j = false) ∧ ∃ p, I L p w ∧ ∀ j, L j = true → F p j (x j)) ?_ ?_ x0 h0 ⟨(fun i j _ _ _ h => by cases h), (fun j h => by cases h), (fun j _ => rfl), (fun j o' e _ _ _ _ => rfl), p0, hI, fun j h => by cases h⟩
  · rintro i o ho L x w hd hi ⟨hc, hsz, hx0, hnl, p, hIp, hF⟩
    have hilt : i < ops.size := (Array.getElem?_eq_some_iff.1 ho).1
    have hcl : ∀ i' j, src i' = true → later i' j = true → j < ops.size → upd L i true j = true → upd L i true i' = true := by
      intro i' j hs' hl hj hL
      by_cases hii : i' = i
      · rw [hii, upd_self]
      · rw [upd_ne _ _ hii]
        by_cases hji : j = i
        · subst hji
          obtain ⟨e, he, hb, hor⟩ := hlater i' j o hs' hl ho
          have hLe := hd e he hb
          rcases hor with h | h
          · rw [← h]; exact hLe
          · exact hc i' e.on hs' h (Nat.lt_trans (backOkG_spec hback ho e he hb) hilt) hLe
        · rw [upd_ne _ _ hji] at hL
          exact hc i' j hs' hl hj hL
    have hsz' : ∀ j, upd L i true j = true → j < ops.size := by
      intro j hj
      by_cases hji : j = i
      · rw [hji]; exact hilt
      · rw [upd_ne _ _ hji] at hj
        exact hsz j hj
    have hx0' : ∀ v, ∀ j, upd L i true j = false → upd x i v j = x0 j := by
      intro v j hj
      by_cases hji : j = i
      · rw [hji, upd_self] at hj; cases hj
      · rw [upd_ne _ _ hji] at hj ⊢
        exact hx0 j hj
    have hnl' : ∀ j o' e, ops[j]? = some o' → e ∈ o'.after → Region.binds .any e = true → upd L i true e.on = false → upd L i true j = false := by
      intro j o' e h1 h2 h3 h4
      have h5 : e.on ≠ i := fun h => by rw [h, upd_self] at h4; cases h4
      rw [upd_ne _ _ h5] at h4
      by_cases hji : j = i
      · subst hji
        rw [ho] at h1
        cases h1
        have := hd e h2 h3
        rw [h4] at this
        cases this
      · rw [upd_ne _ _ hji]
        exact hnl j o' e h1 h2 h3 h4
    cases hsi : src i with
    | false =>
      rcases hq i o hsi ho L p x w (fun e he hb => hF e.on (hd e he hb)) hi hx0 hnl hIp with ⟨hw, v, hr, hp, hFv, hIv⟩ | ⟨hw, v, hp, hFv, hIv⟩
      · exact .inl ⟨hw, slot_run (v := v) (w' := w) hr ⟨v, hp, hcl, hsz', hx0' v, hnl', p, hIv, updJ hF hFv⟩⟩
      · exact .inr ⟨hw, v, hp, hcl, hsz', hx0' v, hnl', p, hIv, updJ hF hFv⟩
    | true =>
      obtain ⟨hw, hwp⟩ := hs i o hsi ho L p x w (fun e he hb => ⟨hd e he hb, hF e.on (hd e he hb)⟩) hi hx0 (fun j hl => by
        cases hj : L j with
        | false => rfl
        | true =>
          have := hc i j hsi hl (hsz j hj) hj
          rw [hi] at this
          cases this) hIp
      refine .inl ⟨hw, Oper.wp_mono (fun a' w' h' => ?_) hwp⟩
      obtain ⟨v, p', rfl, hFv, hkeep, hIv⟩ := h'
      refine ⟨v, rfl, hcl, hsz', hx0' v, hnl', p', hIv, fun j hj => ?_⟩
      by_cases hji : j = i
      · subst hji; rw [upd_self]; exact hFv
      · rw [upd_ne _ _ hji] at hj ⊢
        by_cases hlj : later i j = true
        · have := hc i j hsi hlj (hsz j hj) hj
          rw [hi] at this
          cases this
        · exact hkeep j _ hji (by simpa using hlj) (hF j hj)
  · rintro L x w hall ⟨hc, _, _, _, p, hIp, hF⟩
    exact hend L p x w (fun j hj => ⟨hall j hj, hF j (hall j hj)⟩) hIp
end
end Go.Proofs.Ytjjmjbemflhlbaa
