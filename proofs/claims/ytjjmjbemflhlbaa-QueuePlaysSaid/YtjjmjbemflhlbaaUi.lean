/- A region that draws its order and makes memory: one proof for all orders, by what each operation's slot holds once it was carried out. -/
import Derived.Test.YtjjmjbemflhlbaaQc
namespace Go.Proofs.Ytjjmjbemflhlbaa
open Go
section
variable {P : Program} {ops : Array Oper} {Q : Exit → Act → World → Prop}

def upd {α : Type} (f : Nat → α) (i : Nat) (v : α) : Nat → α := fun j => if j = i then v else f j
theorem upd_self {α : Type} (f : Nat → α) (i : Nat) (v : α) : upd f i v i = v := by simp [upd]
theorem upd_ne {α : Type} (f : Nat → α) {i j : Nat} (v : α) (h : j ≠ i) : upd f i v j = f j := by simp [upd, h]

/-- Each operation waits for earlier ones alone, and none is guarded. -/
def backOk (ops : Array Oper) : Bool :=
  (List.range ops.size).all fun i => match ops[i]? with
    | none => false
    | some o => o.guard.isNone && o.after.all fun e => !Region.binds .any e || decide (e.on < i)

theorem backOk_spec (h : backOk ops = true) {i : Nat} {o : Oper} (ho : ops[i]? = some o) : o.guard = none ∧ ∀ e ∈ o.after, Region.binds .any e = true → e.on < i := by
  have hi : i < ops.size := (Array.getElem?_eq_some_iff.1 ho).1
  have h1 := List.all_eq_true.1 h i (List.mem_range.2 hi)
  rw [ho] at h1
  simp only [Bool.and_eq_true, Option.isNone_iff_eq_none] at h1
  exact ⟨h1.1, fun e he hb => by have := Array.all_eq_true'.1 h1.2 e he; simpa [hb] using this⟩

theorem wpAny_inv (hback : backOk ops = true) (I : (Nat → Bool) → Act → World → Prop)
    (hstep : ∀ i o, ops[i]? = some o → ∀ L a w, (∀ e ∈ o.after, Region.binds .any e = true → L e.on = true) → L i = false → I L a w → o.wp P a w (fun a' w' => I (upd L i true) a' w') Q)
    (hend : ∀ L a w, (∀ j, j < ops.size → L j = true) → I L a w → Q .normal a w) :
    ∀ (fuel : Nat) (l : List Nat) (listed : Array Bool) (L : Nat → Bool) (a : Act) (w : World), l.length ≤ fuel → listed.size = ops.size → (∀ j, j < ops.size → L j = listed.getD j true) → (∀ j, j < ops.size → L j = false → j ∈ l) →
      I L a w → wpAny P .any ops Q fuel listed a w := by
  have all_of_ready : ∀ (listed : Array Bool) (L : Nat → Bool), listed.size = ops.size → (∀ j, j < ops.size → L j = listed.getD j true) → Region.ready .any ops listed = [] → ∀ k j, j < k → j < ops.size → L j = true := by
    intro listed L hs hL hr k
    induction k with
    | zero => intro j hj; omega
    | succ k ih =>
      intro j hj hjs
      by_cases hjk : j = k
      · subst hjk
        rcases hb : L j with _ | _
        · exfalso
          have hm : j ∈ Region.ready .any ops listed := mem_ready.2 ⟨by rw [← hL j hjs]; exact hb, ops[j], Array.getElem?_eq_getElem hjs, fun e he hbi => by
            have hlt := (backOk_spec hback (Array.getElem?_eq_getElem hjs)).2 e he hbi
            have h2 := ih e.on hlt (by omega)
            rw [hL e.on (by omega)] at h2
            have hsz : e.on < listed.size := by omega
            simp [hsz] at h2 ⊢
            exact h2⟩
          rw [hr] at hm
          cases hm
        · rfl
      · exact ih j (by omega) hjs
  intro fuel
  induction fuel with
  | zero =>
    intro l listed L a w hl hs hL hm h
    have hl0 : l = [] := List.length_eq_zero_iff.1 (by omega)
    subst hl0
    have hall : ∀ j, j < ops.size → L j = true := fun j hj => by
      rcases hb : L j with _ | _
      · exact absurd (hm j hj hb) (by simp)
      · rfl
    refine ⟨?_, hend L a w hall h⟩
    refine List.eq_nil_iff_forall_not_mem.2 fun j hj => ?_
    obtain ⟨h1, o, ho, _⟩ := mem_ready.1 hj
    have hjs : j < ops.size := (Array.getElem?_eq_some_iff.1 ho).1
    rw [← hL j hjs, hall j hjs] at h1
    cases h1
  | succ fuel ih =>
    intro l listed L a w hl hs hL hm h
    refine ⟨fun hr => hend L a w (fun j hj => all_of_ready listed L hs hL hr (j + 1) j (by omega) hj) h, fun i hi => ?_⟩
    obtain ⟨h1, o, ho, hall⟩ := mem_ready.1 hi
    have his : i < ops.size := (Array.getElem?_eq_some_iff.1 ho).1
    have hLi : L i = false := by rw [hL i his]; exact h1
    have hstep' := hstep i o ho L a w (fun e he hb => by
      have h2 := hall e he hb
      have hlt := (backOk_spec hback ho).2 e he hb
      rw [hL e.on (by omega)]
      have hsz : e.on < listed.size := by omega
      simp [hsz] at h2 ⊢
      exact h2) hLi h
    unfold wpOp
    simp only [ho]
    have hw : Region.wanted o (yielded ops a.tmps) = true := by unfold Region.wanted; rw [(backOk_spec hback ho).1]
    rw [hw, if_pos rfl]
    refine .inl (Oper.wp_mono (fun a' w' h' => ?_) hstep')
    have him := hm i his hLi
    refine ih (l.erase i) _ (upd L i true) a' w' ?_ (by simp [hs]) ?_ ?_ h'
    · have := List.length_erase_of_mem him
      have := List.length_pos_of_mem him
      omega
    · intro j hj
      by_cases hji : j = i
      · subst hji; rw [upd_self]; simp [hs, hj]
      · rw [upd_ne _ _ hji, hL j hj, getD_set_ne true (Ne.symm hji)]
    · intro j hj hb
      by_cases hji : j = i
      · subst hji; rw [upd_self] at hb; cases hb
      · rw [upd_ne _ _ hji] at hb
        exact (List.mem_erase_of_ne hji).2 (hm j hj hb)

/-- Whatever the order: each operation's slot has its fact from then on. -/
theorem wp_region_slots {id : Nat} {a : Act} {w : World} (hm : P.follows .mixedOrders = true) (hback : backOk ops = true) (mk : (Nat → Value) → Act) (F : Nat → Value → World → Prop) (St : (Nat → Bool) → World → Prop) (Rel : World → World → Prop)
    (hF : ∀ j v w w', Rel w w' → F j v w → F j v w')
    (hstep : ∀ i o, ops[i]? = some o → ∀ L x w, (∀ e ∈ o.after, Region.binds .any e = true → L e.on = true) → L i = false → (∀ j, L j = true → F j (x j) w) → St L w →
      o.wp P (mk x) w (fun a' w' => ∃ v, a' = mk (upd x i v) ∧ Rel w w' ∧ F i v w' ∧ St (upd L i true) w') Q)
    (hend : ∀ L x w, (∀ j, j < ops.size → L j = true) → (∀ j, L j = true → F j (x j) w) → St L w → Q .normal (mk x) w)
    (x0 : Nat → Value) (h0 : a = mk x0) (hS : St (fun _ => false) w.drew) : (Code.region id ops true).wp P Q a w := by
  refine wp_region_any hm ?_
  refine wpAny_inv (Q := Q) hback (fun L a w => ∃ x, a = mk x ∧ (∀ j, L j = true → F j (x j) w) ∧ St L w) ?_ ?_ ops.size (List.range ops.size) _ (fun _ => false) _ _ (by simp) (by simp) ?_ (fun j hj _ => List.mem_range.2 hj) ⟨x0, h0, fun j h => (by cases h), hS⟩
  · rintro i o ho L a w hd hi ⟨x, rfl, hx, hs⟩
    refine Oper.wp_mono (fun a' w' h' => ?_) (hstep i o ho L x w hd hi hx hs)
    obtain ⟨v, rfl, hr, hf, hs'⟩ := h'
    refine ⟨upd x i v, rfl, fun j hj => ?_, hs'⟩
    by_cases hji : j = i
    · subst hji; rw [upd_self]; exact hf
    · rw [upd_ne _ _ hji] at hj ⊢
      exact hF j _ w w' hr (hx j hj)
  · rintro L a w hall ⟨x, rfl, hx, hs⟩
    exact hend L x w hall hx hs
  · intro j hj
    simp [hj]

/-- A step of it that yields a value. -/
theorem slot_run {o : Oper} {a : Act} {w w' : World} {v : Value} {K : Act → World → Prop} (hr : (execOp a.eval o).run P w = .ok (.value v) w') (h : K (a.put o.dst v) w') : o.wp P a w K Q := by
  unfold Oper.wp
  rw [hr]
  exact h
/-- A step of it that calls. -/
theorem slot_call {o : Oper} {a : Act} {w : World} {K : Act → World → Prop} {f : FuncId} {fn : Func} {xs : Array Operand} {ats : Array TypeId} (args : Array Value)
    (hop : o.op = .call { callee := .value (.func f), args := xs, argTypes := ats }) (hf : P.funcs[f]? = some fn) (hname : (fn.name == "runtime.NumGoroutine") = false) (hb : fn.body.isNone = false) (ha : xs.map a.eval = args)
    (hc : Calls P f args w fun e w' => ∃ v, e = .returned v ∧ K (a.put o.dst v) w') : o.wp P a w K Q := by
  unfold Oper.wp
  rw [run_call_go hop hf hname hb ha]
  exact hc.mono fun e w' h => by obtain ⟨v, rfl, h⟩ := h; exact h
end
end Go.Proofs.Ytjjmjbemflhlbaa
