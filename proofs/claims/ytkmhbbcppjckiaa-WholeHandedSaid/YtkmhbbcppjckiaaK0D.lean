/- A region that draws its order and makes memory: one proof for all orders, by what each operation's slot holds once it was carried out. -/
import Derived.Test.YtkmhbbcppjckiaaK0C
import Derived.Test.YtkmhbbcppjckiaaK0B
namespace Go.Proofs.Ytkmhbbcppjckiaa
open Go
section
variable {P : Program} {ops : Array Oper} {Q : Exit → Act → World → Prop}

def upd {α : Type} (f : Nat → α) (i : Nat) (v : α) : Nat → α := fun j => if j = i then v else f j
theorem upd_self {α : Type} (f : Nat → α) (i : Nat) (v : α) : upd f i v i = v := by simp [upd]
theorem upd_ne {α : Type} (f : Nat → α) {i j : Nat} (v : α) (h : j ≠ i) : upd f i v j = f j := by simp [upd, h]

/-- Each operation waits for earlier ones alone, and none is guarded. -/
def backOk (ops : Array Oper) : Bool :=
  (List.range ops.size).all fun i => match ops[i]? with
    | none => false
    | some o => o.guard.isNone && o.after.all fun e => !Region.binds .any e || decide (e.on < i)

theorem backOk_spec (h : backOk ops = true) {i : Nat} {o : Oper} (ho : ops[i]? = some o) : o.guard = none ∧ ∀ e ∈ o.after, Region.binds .any e = true → e.on < i := by
  have hi : i < ops.size := (Array.getElem?_eq_some_iff.1 ho).1
  have h1 := List.all_eq_true.1 h i (List.mem_range.2 hi)
  rw [ho] at h1
  simp only [Bool.and_eq_true, Option.isNone_iff_eq_none] at h1
  exact ⟨h1.1, fun e he hb => by have := Array.all_eq_true'.1 h1.2 e he; simpa [hb] using this⟩

theorem wpAny_inv (hback : backOk ops = true) (I : (Nat → Bool) → Act → World → Prop)
    (hstep : ∀ i o, ops[i]? = some o → ∀ L a w, (∀ e ∈ o.after, Region.binds .any e = true → L e.on = true) → L i = false → I L a w → o.wp P a w (fun a' w' => I (upd L i true) a' w') Q)
    (hend : ∀ L a w, (∀ j, j < ops.size → L j = true) → I L a w → Q .normal a w) :
    ∀ (fuel : Nat) (l : List Nat) (listed : Array Bool) (L : Nat → Bool) (a : Act) (w : World), l.length ≤ fuel → listed.size = ops.size → (∀ j, j < ops.size → L j = listed.getD j true) → (∀ j, j < ops.size → L j = false → j ∈ l) →
      I L a w → wpAny P .any ops Q fuel listed a w := by
  have all_of_ready : ∀ (listed : Array Bool) (L : Nat → Bool), listed.size = ops.size → (∀ j, j < ops.size → L j = listed.getD j true) → Region.ready .any ops listed = [] → ∀ k j, j < k → j < ops.size → L j = true := by
    intro listed L hs hL hr k
    induction k with
    | zero => intro j hj; omega
    | succ k ih =>
      intro j hj hjs
      by_cases hjk : j = k
      · subst hjk
        rcases hb : L j with _ | _
        · exfalso
          have hm : j ∈ Region.ready .any ops listed := mem_ready.2 ⟨by rw [← hL j hjs]; exact hb, ops[j], Array.getElem?_eq_getElem hjs, fun e he hbi => by
            have hlt := (backOk_spec hback (Array.getElem?_eq_getElem hjs)).2 e he hbi
            have h2 := ih e.on hlt (by omega)
            rw [hL e.on (by omega)] at h2
            have hsz : e.on < listed.size := by omega
            simp [hsz] at h2 ⊢
            exact h2⟩
          rw [hr] at hm
          cases hm
        · rfl
      · exact ih j (by omega) hjs
  intro fuel
  induction fuel with
  | zero =>
    intro l listed L a w hl hs hL hm h
    have hl0 : l = [] := List.length_eq_zero_iff.1 (by omega)
    subst hl0
    have hall : ∀ j, j < ops.size → L j = true := fun j hj => by
      rcases hb : L j with _ | _
      · exact absurd (hm j hj hb) (by simp)
      · rfl
    refine ⟨?_, hend L a w hall h⟩
    refine List.eq_nil_iff_forall_not_mem.2 fun j hj => ?_
    obtain ⟨h1, o, ho, _⟩ := mem_ready.1 hj
    have hjs : j < ops.size := (Array.getElem?_eq_some_iff.1 ho).1
    rw [← hL j hjs, hall j hjs] at h1
    cases h1
  | succ fuel ih =>
    intro l listed L a w hl hs hL hm h
    refine ⟨fun hr => hend L a w (fun j hj => all_of_ready listed L hs hL hr (j + 1) j (by omega) hj) h, fun i hi => ?_⟩
    obtain ⟨h1, o, ho, hall⟩ := mem_ready.1 hi
    have his : i < ops.size := (Array.getElem?_eq_some_iff.1 ho).1
    have hLi : L i = false := by rw [hL i his]; exact h1
    have hstep' := hstep i o ho L a w (fun e he hb => by
      have h2 := hall e he hb
      have hlt := (backOk_spec hback ho).2 e he hb
      rw [hL e.on (by omega)]
      have hsz : e.on < listed.size := by omega
      simp [hsz] at h2 ⊢
      exact h2) hLi h
    unfold wpOp
    simp only [ho]
    have hw : Region.wanted o (yielded ops a.tmps) = true := by unfold Region.wanted; rw [(backOk_spec hback ho).1]
    rw [hw, if_pos rfl]
    refine .inl (Oper.wp_mono (fun a' w' h' => ?_) hstep')
    have him := hm i his hLi
    refine ih (l.erase i) _ (upd L i true) a' w' ?_ (by simp [hs]) ?_ ?_ h'
    · have := List.length_erase_of_mem him
      have := List.length_pos_of_mem him
      omega
    · intro j hj
      by_cases hji : j = i
      · subst hji; rw [upd_self]; simp [hs, hj]
      · rw [upd_ne _ _ hji, hL j hj, getD_set_ne true (Ne.symm hji)]
    · intro j hj hb
      by_cases hji : j = i
      · subst hji; rw [upd_self] at hb; cases hb
      · rw [upd_ne _ _ hji] at hb
        exact (List.mem_erase_of_ne hji).2 (hm j hj hb)

/-- Whatever the order: each operation's slot has its fact from then on. -/
theorem wp_region_slots {id : Nat} {a : Act} {w : World} (hm : P.follows .mixedOrders = true) (hback : backOk ops = true) (mk : (Nat → Value) → Act) (F : Nat → Value → World → Prop) (St : (Nat → Bool) → World → Prop) (Rel : World → World → Prop)
    (hF : ∀ j v w w', Rel w w' → F j v w → F j v w')
    (hstep : ∀ i o, ops[i]? = some o → ∀ L x w, (∀ e ∈ o.after, Region.binds .any e = true → L e.on = true) → L i = false → (∀ j, L j = true → F j (x j) w) → St L w →
      o.wp P (mk x) w (fun a' w' => ∃ v, a' = mk (upd x i v) ∧ Rel w w' ∧ F i v w' ∧ St (upd L i true) w') Q)
    (hend : ∀ L x w, (∀ j, j < ops.size → L j = true) → (∀ j, L j = true → F j (x j) w) → St L w → Q .normal (mk x) w)
    (x0 : Nat → Value) (h0 : a = mk x0) (hS : St (fun _ => false) w.drew) : (Code.region id ops true).wp P Q a w := by
  refine wp_region_any hm ?_
  refine wpAny_inv (Q := Q) hback (fun L a w => ∃ x, a = mk x ∧ (∀ j, L j = true → F j (x j) w) ∧ St L w) ?_ ?_ ops.size (List.range ops.size) _ (fun _ => false) _ _ (by simp) (by simp) ?_ (fun j hj _ => List.mem_range.2 hj) ⟨x0, h0, fun j h => (by cases h), hS⟩
  · rintro i o ho L a w hd hi ⟨x, rfl, hx, hs⟩
    refine Oper.wp_mono (fun a' w' h' => ?_) (hstep i o ho L x w hd hi hx hs)
    obtain ⟨v, rfl, hr, hf, hs'⟩ := h'
    refine ⟨upd x i v, rfl, fun j hj => ?_, hs'⟩
    by_cases hji : j = i
    · subst hji; rw [upd_self]; exact hf
    · rw [upd_ne _ _ hji] at hj ⊢
      exact hF j _ w w' hr (hx j hj)
  · rintro L a w hall ⟨x, rfl, hx, hs⟩
    exact hend L x w hall hx hs
  · intro j hj
    simp [hj]

/-- A step of it that yields a value. -/
theorem slot_run {o : Oper} {a : Act} {w w' : World} {v : Value} {K : Act → World → Prop} (hr : (execOp a.eval o).run P w = .ok (.value v) w') (h : K (a.put o.dst v) w') : o.wp P a w K Q := by
  unfold Oper.wp
  rw [hr]
  exact h
/-- A step of it that calls. -/
theorem slot_call {o : Oper} {a : Act} {w : World} {K : Act → World → Prop} {f : FuncId} {fn : Func} {xs : Array Operand} {ats : Array TypeId} (args : Array Value)
    (hop : o.op = .call { callee := .value (.func f), args := xs, argTypes := ats }) (hf : P.funcs[f]? = some fn) (hname : (fn.name == "runtime.NumGoroutine") = false) (hb : fn.body.isNone = false) (ha : xs.map a.eval = args)
    (hc : Calls P f args w fun e w' => ∃ v, e = .returned v ∧ K (a.put o.dst v) w') : o.wp P a w K Q := by
  unfold Oper.wp
  rw [run_call_go hop hf hname hb ha]
  exact hc.mono fun e w' h => by obtain ⟨v, rfl, h⟩ := h; exact h
end
end Go.Proofs.Ytkmhbbcppjckiaa
/- A region that draws its order, makes memory, and has guarded operations: one proof for all orders (XUi, with the guards). -/
namespace Go.Proofs.Ytkmhbbcppjckiaa
open Go
section
variable {P : Program} {ops : Array Oper} {Q : Exit → Act → World → Prop}
theorem wpOp_mono {i : Nat} {K K' : Act → World → Prop} {a : Act} {w : World} (h : ∀ a w, K a w → K' a w) (hh : wpOp P ops Q i K a w) : wpOp P ops Q i K' a w := by
  unfold wpOp at *
  split at hh
  · exact h _ _ hh
  · split at hh
    · rename_i hw
      rw [if_pos hw]
      exact hh.imp (Oper.wp_mono h) id
    · rename_i hw
      rw [if_neg hw]
      exact h _ _ hh

/-- Each operation waits for earlier ones alone, guarded or not. -/
def backOkG (ops : Array Oper) : Bool :=
  (List.range ops.size).all fun i => match ops[i]? with
    | none => false
    | some o => o.after.all fun e => !Region.binds .any e || decide (e.on < i)

theorem backOkG_spec (h : backOkG ops = true) {i : Nat} {o : Oper} (ho : ops[i]? = some o) : ∀ e ∈ o.after, Region.binds .any e = true → e.on < i := by
  have hi : i < ops.size := (Array.getElem?_eq_some_iff.1 ho).1
  have h1 := List.all_eq_true.1 h i (List.mem_range.2 hi)
  rw [ho] at h1
  exact fun e he hb => by have := Array.all_eq_true'.1 h1 e he; simpa [hb] using this

theorem wpAny_invG (hback : backOkG ops = true) (I : (Nat → Bool) → Act → World → Prop)
    (hstep : ∀ i o, ops[i]? = some o → ∀ L a w, (∀ e ∈ o.after, Region.binds .any e = true → L e.on = true) → L i = false → I L a w → wpOp P ops Q i (fun a' w' => I (upd L i true) a' w') a w)
    (hend : ∀ L a w, (∀ j, j < ops.size → L j = true) → I L a w → Q .normal a w) :
    ∀ (fuel : Nat) (l : List Nat) (listed : Array Bool) (L : Nat → Bool) (a : Act) (w : World), l.length ≤ fuel → listed.size = ops.size → (∀ j, j < ops.size → L j = listed.getD j true) → (∀ j, j < ops.size → L j = false → j ∈ l) →
      I L a w → wpAny P .any ops Q fuel listed a w := by
  have all_of_ready : ∀ (listed : Array Bool) (L : Nat → Bool), listed.size = ops.size → (∀ j, j < ops.size → L j = listed.getD j true) → Region.ready .any ops listed = [] → ∀ k j, j < k → j < ops.size → L j = true := by
    intro listed L hs hL hr k
    induction k with
    | zero => intro j hj; omega
    | succ k ih =>
      intro j hj hjs
      by_cases hjk : j = k
      · subst hjk
        rcases hb : L j with _ | _
        · exfalso
          have hm : j ∈ Region.ready .any ops listed := mem_ready.2 ⟨by rw [← hL j hjs]; exact hb, ops[j], Array.getElem?_eq_getElem hjs, fun e he hbi => by
            have hlt := (backOkG_spec hback (Array.getElem?_eq_getElem hjs)) e he hbi
            have h2 := ih e.on hlt (by omega)
            rw [hL e.on (by omega)] at h2
            have hsz : e.on < listed.size := by omega
            simp [hsz] at h2 ⊢
            exact h2⟩
          rw [hr] at hm
          cases hm
        · rfl
      · exact ih j (by omega) hjs
  intro fuel
  induction fuel with
  | zero =>
    intro l listed L a w hl hs hL hm h
    have hl0 : l = [] := List.length_eq_zero_iff.1 (by omega)
    subst hl0
    have hall : ∀ j, j < ops.size → L j = true := fun j hj => by
      rcases hb : L j with _ | _
      · exact absurd (hm j hj hb) (by simp)
      · rfl
    refine ⟨?_, hend L a w hall h⟩
    refine List.eq_nil_iff_forall_not_mem.2 fun j hj => ?_
    obtain ⟨h1, o, ho, _⟩ := mem_ready.1 hj
    have hjs : j < ops.size := (Array.getElem?_eq_some_iff.1 ho).1
    rw [← hL j hjs, hall j hjs] at h1
    cases h1
  | succ fuel ih =>
    intro l listed L a w hl hs hL hm h
    refine ⟨fun hr => hend L a w (fun j hj => all_of_ready listed L hs hL hr (j + 1) j (by omega) hj) h, fun i hi => ?_⟩
    obtain ⟨h1, o, ho, hall⟩ := mem_ready.1 hi
    have his : i < ops.size := (Array.getElem?_eq_some_iff.1 ho).1
    have hLi : L i = false := by rw [hL i his]; exact h1
    have hstep' := hstep i o ho L a w (fun e he hb => by
      have h2 := hall e he hb
      have hlt := (backOkG_spec hback ho) e he hb
      rw [hL e.on (by omega)]
      have hsz : e.on < listed.size := by omega
      simp [hsz] at h2 ⊢
      exact h2) hLi h
    refine wpOp_mono (fun a' w' h' => ?_) hstep'
    have him := hm i his hLi
    refine ih (l.erase i) _ (upd L i true) a' w' ?_ (by simp [hs]) ?_ ?_ h'
    · have := List.length_erase_of_mem him
      have := List.length_pos_of_mem him
      omega
    · intro j hj
      by_cases hji : j = i
      · subst hji; rw [upd_self]; simp [hs, hj]
      · rw [upd_ne _ _ hji, hL j hj, getD_set_ne true (Ne.symm hji)]
    · intro j hj hb
      by_cases hji : j = i
      · subst hji; rw [upd_self] at hb; cases hb
      · rw [upd_ne _ _ hji] at hb
        exact (List.mem_erase_of_ne hji).2 (hm j hj hb)

/-- Whatever the order: each operation's slot has its fact from then on; a guarded one that isn't wanted leaves nothing. -/
theorem wp_region_slotsG {id : Nat} {a : Act} {w : World} (hm : P.follows .mixedOrders = true) (hback : backOkG ops = true) (mk : (Nat → Value) → Act) (F : Nat → Value → World → Prop) (St : (Nat → Bool) → World → Prop) (Rel : World → World → Prop)
    (hF : ∀ j v w w', Rel w w' → F j v w → F j v w')
    (hstep : ∀ i o, ops[i]? = some o → ∀ L x w, (∀ e ∈ o.after, Region.binds .any e = true → L e.on = true) → L i = false → (∀ j, L j = true → F j (x j) w) → St L w →
      (Region.wanted o (yielded ops (mk x).tmps) = true ∧ o.wp P (mk x) w (fun a' w' => ∃ v, a' = mk (upd x i v) ∧ Rel w w' ∧ F i v w' ∧ St (upd L i true) w') Q) ∨
      (Region.wanted o (yielded ops (mk x).tmps) = false ∧ ∃ v, (mk x).put o.dst undef = mk (upd x i v) ∧ F i v w ∧ St (upd L i true) w))
    (hend : ∀ L x w, (∀ j, j < ops.size → L j = true) → (∀ j, L j = true → F j (x j) w) → St L w → Q .normal (mk x) w)
    (x0 : Nat → Value) (h0 : a = mk x0) (hS : St (fun _ => false) w.drew) : (Code.region id ops true).wp P Q a w := by
  refine wp_region_any hm ?_
  refine wpAny_invG (Q := Q) hback (fun L a w => ∃ x, a = mk x ∧ (∀ j, L j = true → F j (x j) w) ∧ St L w) ?_ ?_ ops.size (List.range ops.size) _ (fun _ => false) _ _ (by simp) (by simp) ?_ (fun j hj _ => List.mem_range.2 hj) ⟨x0, h0, fun j h => (by cases h), hS⟩
  · rintro i o ho L a w hd hi ⟨x, rfl, hx, hs⟩
    unfold wpOp
    simp only [ho]
    rcases hstep i o ho L x w hd hi hx hs with ⟨hw, h1⟩ | ⟨hw, v, hv, hf, hs'⟩
    · rw [hw, if_pos rfl]
      refine .inl (Oper.wp_mono (fun a' w' h' => ?_) h1)
      obtain ⟨v, rfl, hr, hf, hs'⟩ := h'
      refine ⟨upd x i v, rfl, fun j hj => ?_, hs'⟩
      by_cases hji : j = i
      · subst hji; rw [upd_self]; exact hf
      · rw [upd_ne _ _ hji] at hj ⊢
        exact hF j _ w w' hr (hx j hj)
    · rw [hw, if_neg (by decide)]
      refine ⟨upd x i v, hv, fun j hj => ?_, hs'⟩
      by_cases hji : j = i
      · subst hji; rw [upd_self]; exact hf
      · rw [upd_ne _ _ hji] at hj ⊢
        exact hx j hj
  · rintro L a w hall ⟨x, rfl, hx, hs⟩
    exact hend L x w hall hx hs
  · intro j hj
    simp [hj]

end
end Go.Proofs.Ytkmhbbcppjckiaa
/- A region that draws its order: any invariant of what was carried out, the slots and the world. -/
namespace Go.Proofs.Ytkmhbbcppjckiaa
open Go
section
variable {P : Program} {ops : Array Oper} {Q : Exit → Act → World → Prop}
theorem wp_region_slotsJ {id : Nat} {a : Act} {w : World} (hm : P.follows .mixedOrders = true) (hback : backOkG ops = true) (mk : (Nat → Value) → Act) (J : (Nat → Bool) → (Nat → Value) → World → Prop)
    (hstep : ∀ i o, ops[i]? = some o → ∀ L x w, (∀ e ∈ o.after, Region.binds .any e = true → L e.on = true) → L i = false → J L x w →
      (Region.wanted o (yielded ops (mk x).tmps) = true ∧ o.wp P (mk x) w (fun a' w' => ∃ v, a' = mk (upd x i v) ∧ J (upd L i true) (upd x i v) w') Q) ∨
      (Region.wanted o (yielded ops (mk x).tmps) = false ∧ ∃ v, (mk x).put o.dst undef = mk (upd x i v) ∧ J (upd L i true) (upd x i v) w))
    (hend : ∀ L x w, (∀ j, j < ops.size → L j = true) → J L x w → Q .normal (mk x) w)
    (x0 : Nat → Value) (h0 : a = mk x0) (hJ : J (fun _ => false) x0 w.drew) : (Code.region id ops true).wp P Q a w := by
  refine wp_region_any hm ?_
  refine wpAny_invG (Q := Q) hback (fun L a w => ∃ x, a = mk x ∧ J L x w) ?_ ?_ ops.size (List.range ops.size) _ (fun _ => false) _ _ (by simp) (by simp) ?_ (fun j hj _ => List.mem_range.2 hj) ⟨x0, h0, hJ⟩
  · rintro i o ho L a w hd hi ⟨x, rfl, hx⟩
    unfold wpOp
    simp only [ho]
    rcases hstep i o ho L x w hd hi hx with ⟨hw, h1⟩ | ⟨hw, v, hv, hj⟩
    · rw [hw, if_pos rfl]
      exact .inl (Oper.wp_mono (fun a' w' h' => by obtain ⟨v, rfl, hj⟩ := h'; exact ⟨_, rfl, hj⟩) h1)
    · rw [hw, if_neg (by decide)]
      exact ⟨upd x i v, hv, hj⟩
  · rintro L a w hall ⟨x, rfl, hx⟩
    exact hend L x w hall hx
  · intro j hj
    simp [hj]
theorem updJ {F : Nat → Value → Prop} {L : Nat → Bool} {x : Nat → Value} {i : Nat} {v : Value} (h : ∀ j, L j = true → F j (x j)) (hf : F i v) : ∀ j, upd L i true j = true → F j (upd x i v j) := by
  intro j hj
  by_cases hji : j = i
  · subst hji; rw [upd_self]; exact hf
  · rw [upd_ne _ _ hji] at hj ⊢
    exact h j hj
end
end Go.Proofs.Ytkmhbbcppjckiaa
/- The queue's small calls: Len, Has. -/
namespace Go.Proofs.Ytkmhbbcppjckiaa.Qu
open Go Go.RowKit Go.Proofs.Ytkmhbbcppjckiaa
open Go.Proofs.Ytkmhbbcppjckiaa.Hp (K3 kv KLit wf3 i64wf kv_inj)
open Go.Proofs.Ytkmhbbcppjckiaa.Dk (Frm below_drewN)
set_option linter.unusedVariables false
set_option linter.unusedSimpArgs false
/-- A task's cells. -/
def kcs (k : K3) : List Value := [.int .i64 k.1, .int .i64 k.2.1, .int .i64 k.2.2]
theorem kv_eq (k : K3) : kv k = .agg (kcs k).toArray := rfl
theorem tkSize (k : K3) : (Try.prog.info? 32).map (·.size) = some (kcs k).length := by kernel_rfl
/-- A task that came in lies in a block of its own. -/
theorem box_task (w : World) (k : K3) : ∀ j v, (kcs k)[j]? = some v → (w.alloc (.cells (kcs k).toArray 32)).cell? ((⟨w.heap.size, 0, none⟩ : Addr).add j) = some v := fun j v hj => by
  rw [Addr.add_mid, Nat.zero_add, cell_of_row _ _ j _ _ _ (heap_alloc_new w _)]
  simpa using hj
variable {w : World} {b o : Nat} {R : Array Value} {ty : TypeId} {mo : Option Nat} {L : List Lk}
theorem qlen_any (h : QAt w b o R ty mo L) : Calls Try.prog 20 #[.pointer (some ⟨b, o, none⟩)] w fun e w' => e = .returned (.int .i64 (L.length : Int)) ∧ w' = w := by
  obtain ⟨c0, c1, c2, f0, f1, f2⟩ := h.c.row.cells
  have LEN := h.map.len qu_keyP
  clear h
  go_enter Try.func20, Try.ntmps20
  go_wp2_with fail
  go_ret
  exact ⟨rfl, rfl⟩
theorem qhas_any (h : QAt w b o R ty mo L) (k : K3) (hk : wf3 k) : Calls Try.prog 22 #[.pointer (some ⟨b, o, none⟩), kv k] w fun e w' => e = .returned (.bool (adOf L k).isSome) ∧ Below w.heap.size w w' := by
  obtain ⟨w1, hw1⟩ : ∃ x, x = w.alloc (.cells (kcs k).toArray 32) := ⟨_, rfl⟩
  obtain ⟨g, hg⟩ : ∃ g, g = w.heap.size := ⟨_, rfl⟩
  have b1 : Below w.heap.size w w1 := by rw [hw1]; exact (Below.refl _ _).alloc (Nat.le_refl _) _
  have KT : ∀ j v, (kcs k)[j]? = some v → w1.cell? ((⟨g, 0, none⟩ : Addr).add j) = some v := by rw [hw1, hg]; exact box_task w k
  obtain ⟨c0, c1, c2, f0, f1, f2⟩ := (h.below b1).c.row.cells
  have LK := fun n => ((h.below b1).below (below_drewN (Below.refl _ _) n)).map.look qu_keyP hk
  obtain ⟨B, hB⟩ : ∃ B, B = (adOf L k).isSome := ⟨_, rfl⟩
  obtain ⟨q, hq⟩ : ∃ q, q = ptr (adOf L k) := ⟨_, rfl⟩
  rw [← hB] at LK ⊢
  rw [← hq] at LK
  have HW := Lib.hid hw1
  have HG := Lib.hid hg
  have B1 := Lib.hid b1
  have LKK : ∀ n, (Instr.lookup 27 (.map mo) (.agg (kcs k).toArray) true).run Try.prog (w1.drewN n) = .ok (.tuple #[q, .bool B]) (w1.drewN n) := fun n => by rw [← kv_eq]; exact LK n
  clear h hw1 hg b1 hB hq f0 f1 f2 LK
  rw [kv_eq]
  go_enter Try.func22, Try.ntmps22
  go_upto_region 1 with fail
  rw [← HW.out, ← HG.out]
  refine wp_region_quiet_lit (by kernel_rfl) (by kernel_rfl) ?_
  repeat (go_big_quiet_step (fail))
  refine wpQuiet_loadG (by kernel_rfl) 32 (.tmp 3) rfl ⟨g, 0, none⟩ rfl (kcs k) _ (fun w' hC => by obtain ⟨nl, rfl⟩ := hC; exact KT) Try.underlying32 rfl (tkSize k) ?_
  simp only [Act.put, List.setIfInBounds_toArray, List.set_cons_zero, List.set_cons_succ, List.getElem_toArray, List.getElem_cons_zero, List.getElem_cons_succ]
  repeat (go_big_quiet_step (fail))
  refine wpQuiet_nil ?_
  intro _ hw'
  obtain ⟨nq, hw''⟩ := hw'
  subst hw''
  go_wp2_with fail
  go_ret
  exact ⟨rfl, below_drewN B1.out nq⟩
theorem qsince_any (h : QAt w b o R ty mo L) (k : K3) (hk : wf3 k) : Calls Try.prog 21 #[.pointer (some ⟨b, o, none⟩), kv k] w fun e w' =>
    (adOf L k = none ∧ e = .returned (.tuple #[.int .i64 0, .bool false]) ∨ ∃ x ∈ L, x.key = k ∧ e = .returned (.tuple #[.int .i64 x.since, .bool true])) ∧ Below w.heap.size w w' := by
  obtain ⟨w1, hw1⟩ : ∃ x, x = w.alloc (.cells (kcs k).toArray 32) := ⟨_, rfl⟩
  obtain ⟨g, hg⟩ : ∃ g, g = w.heap.size := ⟨_, rfl⟩
  have b1 : Below w.heap.size w w1 := by rw [hw1]; exact (Below.refl _ _).alloc (Nat.le_refl _) _
  have KT : ∀ j v, (kcs k)[j]? = some v → w1.cell? ((⟨g, 0, none⟩ : Addr).add j) = some v := by rw [hw1, hg]; exact box_task w k
  obtain ⟨c0, c1, c2, f0, f1, f2⟩ := (h.below b1).c.row.cells
  have LK := fun n => ((h.below b1).below (below_drewN (Below.refl _ _) n)).map.look qu_keyP hk
  have H1 := Lib.hid (h.below b1)
  have HW := Lib.hid hw1
  have HG := Lib.hid hg
  have B1 := Lib.hid b1
  clear h hw1 hg b1 f0 f1 f2
  cases hA : adOf L k with
  | none =>
    rw [hA] at LK
    have LKK : ∀ n, (Instr.lookup 27 (.map mo) (.agg (kcs k).toArray) true).run Try.prog (w1.drewN n) = .ok (.tuple #[.pointer none, .bool false]) (w1.drewN n) := fun n => by rw [← kv_eq]; exact LK n
    clear LK hA
    rw [kv_eq]
    go_enter Try.func21, Try.ntmps21
    go_upto_region 1 with fail
    rw [← HW.out, ← HG.out]
    refine wp_region_quiet_lit (by kernel_rfl) (by kernel_rfl) ?_
    repeat (go_big_quiet_step (fail))
    refine wpQuiet_loadG (by kernel_rfl) 32 (.tmp 3) rfl ⟨g, 0, none⟩ rfl (kcs k) _ (fun w' hC => by obtain ⟨nl, rfl⟩ := hC; exact KT) Try.underlying32 rfl (tkSize k) ?_
    simp only [Act.put, List.setIfInBounds_toArray, List.set_cons_zero, List.set_cons_succ, List.getElem_toArray, List.getElem_cons_zero, List.getElem_cons_succ]
    repeat (go_big_quiet_step (fail))
    refine wpQuiet_nil ?_
    intro _ hw'
    obtain ⟨nq, hw''⟩ := hw'
    subst hw''
    go_wp2_with fail
    go_ret2
    exact ⟨.inl ⟨trivial, rfl⟩, below_drewN B1.out nq⟩
  | some a =>
    rw [hA] at LK
    obtain ⟨X, x, Y, hL, hxk, hxa⟩ := adOf_some hA
    have LKK : ∀ n, (Instr.lookup 27 (.map mo) (.agg (kcs k).toArray) true).run Try.prog (w1.drewN n) = .ok (.tuple #[.pointer (some ⟨a, 0, none⟩), .bool true]) (w1.drewN n) := fun n => by rw [← kv_eq]; exact LK n
    have cs : w1.cell? ⟨a, 3, none⟩ = some (.int .i64 x.since) := by
      have hc := H1.out.c.chain
      rw [hL, chain_app] at hc
      rw [← hxa, cell_of_row w1 x.ad 3 _ _ _ hc.2.1]; rfl
    have hmem : x ∈ L := by rw [hL]; simp
    have HX := Lib.hid (And.intro hmem hxk)
    clear LK hA hmem hxk hL hxa
    rw [kv_eq]
    go_enter Try.func21, Try.ntmps21
    go_upto_region 1 with fail
    rw [← HW.out, ← HG.out]
    refine wp_region_quiet_lit (by kernel_rfl) (by kernel_rfl) ?_
    repeat (go_big_quiet_step (fail))
    refine wpQuiet_loadG (by kernel_rfl) 32 (.tmp 3) rfl ⟨g, 0, none⟩ rfl (kcs k) _ (fun w' hC => by obtain ⟨nl, rfl⟩ := hC; exact KT) Try.underlying32 rfl (tkSize k) ?_
    simp only [Act.put, List.setIfInBounds_toArray, List.set_cons_zero, List.set_cons_succ, List.getElem_toArray, List.getElem_cons_zero, List.getElem_cons_succ]
    repeat (go_big_quiet_step (fail))
    refine wpQuiet_nil ?_
    intro _ hw'
    obtain ⟨nq, hw''⟩ := hw'
    subst hw''
    go_wp2_with fail
    go_ret2
    exact ⟨.inr ⟨x, HX.out.1, HX.out.2, rfl⟩, below_drewN B1.out nq⟩
end Go.Proofs.Ytkmhbbcppjckiaa.Qu
