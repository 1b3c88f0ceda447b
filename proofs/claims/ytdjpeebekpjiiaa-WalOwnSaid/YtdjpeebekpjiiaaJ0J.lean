/- A log in memory; Left, Ends, Waiting, Cost, Drop, newDraft. -/
import Derived.Test.YtdjpeebekpjiiaaJ0I
import Derived.Test.YtdjpeebekpjiiaaJ0B
namespace Go.Proofs.Ytdjpeebekpjiiaa.Dk
open Go Go.RowKit
set_option linter.unusedVariables false
set_option linter.unusedSimpArgs false
/-- A log's five cells. -/
def LgAt (w : World) (lg d r begin : Nat) (wv : Value) (dn : Bool) : Prop :=
  w.heap[lg]? = some (.cells #[.pointer (some ⟨d, 0, none⟩), .pointer (some ⟨r, 0, none⟩), .int .u64 (begin : Int), wv, .bool dn] 100 (0, 0))
structure LgC (w : World) (lg d r begin : Nat) (wv : Value) (dn : Bool) : Prop where
  c0 : w.cell? ⟨lg, 0, none⟩ = some (.pointer (some ⟨d, 0, none⟩))
  c1 : w.cell? ⟨lg, 1, none⟩ = some (.pointer (some ⟨r, 0, none⟩))
  c2 : w.cell? ⟨lg, 2, none⟩ = some (.int .u64 (begin : Int))
  c3 : w.cell? ⟨lg, 3, none⟩ = some wv
  c4 : w.cell? ⟨lg, 4, none⟩ = some (.bool dn)
theorem LgAt.cells {w : World} {lg d r begin : Nat} {wv : Value} {dn : Bool} (h : LgAt w lg d r begin wv dn) : LgC w lg d r begin wv dn :=
  ⟨by rw [cell_of_row w lg 0 _ _ _ h]; rfl, by rw [cell_of_row w lg 1 _ _ _ h]; rfl, by rw [cell_of_row w lg 2 _ _ _ h]; rfl, by rw [cell_of_row w lg 3 _ _ _ h]; rfl, by rw [cell_of_row w lg 4 _ _ _ h]; rfl⟩
theorem LgAt.keep {w w' : World} {lg d r begin : Nat} {wv : Value} {dn : Bool} (h : LgAt w lg d r begin wv dn) (hk : w'.heap[lg]? = w.heap[lg]?) : LgAt w' lg d r begin wv dn := hk.trans h
theorem LgAt.lt {w : World} {lg d r begin : Nat} {wv : Value} {dn : Bool} (h : LgAt w lg d r begin wv dn) : lg < w.heap.size := lt_of_row h
theorem LgAt.below {w w' : World} {B lg d r begin : Nat} {wv : Value} {dn : Bool} (h : LgAt w lg d r begin wv dn) (hb : Below B w w') (hB : w.heap.size ≤ B) : LgAt w' lg d r begin wv dn := h.keep (hb.block lg (Nat.lt_of_lt_of_le h.lt hB))
theorem LgAt.setWv {w : World} {lg d r begin : Nat} {wv : Value} {dn : Bool} (h : LgAt w lg d r begin wv dn) (v : Value) : LgAt (w.setCell ⟨lg, 3, none⟩ v) lg d r begin v dn := Go.Joins.block_setCell (i := 3) h v
theorem LgAt.setDn {w : World} {lg d r begin : Nat} {wv : Value} {dn : Bool} (h : LgAt w lg d r begin wv dn) (b : Bool) : LgAt (w.setCell ⟨lg, 4, none⟩ (.bool b)) lg d r begin wv b := Go.Joins.block_setCell (i := 4) h (.bool b)
theorem LgAt.setRing {w : World} {lg d r begin : Nat} {wv : Value} {dn : Bool} (h : LgAt w lg d r begin wv dn) (r' : Nat) : LgAt (w.setCell ⟨lg, 1, none⟩ (.pointer (some ⟨r', 0, none⟩))) lg d r' begin wv dn := Go.Joins.block_setCell (i := 1) h _
theorem LgAt.setBegin {w : World} {lg d r begin : Nat} {wv : Value} {dn : Bool} (h : LgAt w lg d r begin wv dn) (b : Nat) : LgAt (w.setCell ⟨lg, 2, none⟩ (.int .u64 (b : Int))) lg d r b wv dn := Go.Joins.block_setCell (i := 2) h _
section
variable {w : World} {lg d r k first count tail begin : Nat} {wv : Value} {dn : Bool} {S : List UInt8} {t : TypeId}
theorem wleft_any (h : LgAt w lg d r begin wv dn) (hr : RingAt w r d k first count tail S t) (ht : tail ≤ 4611686018427387904) (hb : begin < 18446744073709551616) :
    Calls Try.prog 17 #[.pointer (some ⟨lg, 0, none⟩)] w fun e w' => e = .returned (.int .i64 ((leftN begin tail count : Nat) : Int)) ∧ ∃ m, w' = w.drewN m := by
  have L := Lib.hid (fun q => left_any (w := w.drewN q) (hr.keep rfl rfl) ht begin hb)
  obtain ⟨c0, c1, c2, c3, c4⟩ := h.cells
  clear h hr
  obtain ⟨N, hN⟩ : ∃ N, N = leftN begin tail count := ⟨_, rfl⟩
  rw [← hN] at L ⊢
  clear hN
  go_enter Try.func17, Try.ntmps17
  go_wp2_with fail
  go_quiet (first | (go_at_call 42; exact Calls.quiet_of (L.out _)))
  go_wp2_with fail
  go_ret
  exact ⟨rfl, _, rfl⟩
theorem wends_any (h : LgAt w lg d r begin wv dn) (hr : RingAt w r d k first count tail S t) :
    Calls Try.prog 15 #[.pointer (some ⟨lg, 0, none⟩)] w fun e w' => e = .returned (.tuple #[.int .u64 (begin : Int), .int .u64 (tail : Int)]) ∧ ∃ m, w' = w.drewN m := by
  have L := Lib.hid (fun q => tail_any (w := w.drewN q) (hr.keep rfl rfl))
  obtain ⟨c0, c1, c2, c3, c4⟩ := h.cells
  clear h hr
  go_enter Try.func15, Try.ntmps15
  go_wp2_with fail
  go_quiet (first | (go_at_call 41; refine Calls.quiet_of_same ((L.out _).mono fun _ _ h => ⟨h.1, h.2.symm⟩)))
  go_wp2_with fail
  go_ret2
  exact ⟨rfl, _, rfl⟩
theorem wwaiting_any {ao : Option Addr} {n c : Nat} (h : LgAt w lg d r begin (.slice ao n c) dn) :
    Calls Try.prog 16 #[.pointer (some ⟨lg, 0, none⟩)] w fun e w' => e = .returned (.int .i64 (n : Int)) ∧ w' = w := by
  obtain ⟨c0, c1, c2, c3, c4⟩ := h.cells
  clear h
  go_enter Try.func16, Try.ntmps16
  go_wp2_with fail
  go_ret
  exact ⟨rfl, rfl⟩
theorem wcost_any (n : Nat) (hn : n ≤ 1000000) (w : World) : Calls Try.prog 30 #[.int .i64 (n : Int)] w fun e w' => e = .returned (.int .i64 (2 * (9 + (n : Int)) - 1)) ∧ w' = w := by
  go_enter Try.func30, Try.ntmps30
  go_wp2
  go_ret
  exact ⟨rfl, rfl⟩
theorem wdrop_any (h : LgAt w lg d r begin wv dn) :
    Calls Try.prog 39 #[.pointer (some ⟨lg, 0, none⟩)] w fun e w' => e = .returned (.tuple #[]) ∧ LgAt w' lg d r begin (.slice none 0 0) dn ∧ Frm (fun i => i = lg) w w' := by
  obtain ⟨c0, c1, c2, c3, c4⟩ := h.cells
  have f3 : w.frozen? ⟨lg, 3, none⟩ = false := frozen_of_row w lg 3 _ _ h
  have H := Lib.hid (h.setWv (.slice none 0 0))
  have F := Lib.hid ((Frm.refl (fun i => i = lg) w).setCell (p := ⟨lg, 3, none⟩) (.inl rfl) (.slice none 0 0))
  clear h
  go_enter Try.func39, Try.ntmps39
  go_wp2_with fail
  go_end0
  exact ⟨rfl, H.out, F.out⟩
/-- A draft's five cells. -/
def DfAt (w : World) (f start endp firstp room : Nat) (pv : Value) : Prop :=
  w.heap[f]? = some (.cells #[.int .u64 (start : Int), .int .u64 (endp : Int), .int .u64 (firstp : Int), .int .u64 (room : Int), pv] 124 (0, 0))
structure DfC (w : World) (f start endp firstp room : Nat) (pv : Value) : Prop where
  c0 : w.cell? ⟨f, 0, none⟩ = some (.int .u64 (start : Int))
  c1 : w.cell? ⟨f, 1, none⟩ = some (.int .u64 (endp : Int))
  c2 : w.cell? ⟨f, 2, none⟩ = some (.int .u64 (firstp : Int))
  c3 : w.cell? ⟨f, 3, none⟩ = some (.int .u64 (room : Int))
  c4 : w.cell? ⟨f, 4, none⟩ = some pv
theorem DfAt.cells {w : World} {f start endp firstp room : Nat} {pv : Value} (h : DfAt w f start endp firstp room pv) : DfC w f start endp firstp room pv :=
  ⟨by rw [cell_of_row w f 0 _ _ _ h]; rfl, by rw [cell_of_row w f 1 _ _ _ h]; rfl, by rw [cell_of_row w f 2 _ _ _ h]; rfl, by rw [cell_of_row w f 3 _ _ _ h]; rfl, by rw [cell_of_row w f 4 _ _ _ h]; rfl⟩
theorem DfAt.lt {w : World} {f start endp firstp room : Nat} {pv : Value} (h : DfAt w f start endp firstp room pv) : f < w.heap.size := lt_of_row h
theorem DfAt.keep {w w' : World} {f start endp firstp room : Nat} {pv : Value} (h : DfAt w f start endp firstp room pv) (hk : w'.heap[f]? = w.heap[f]?) : DfAt w' f start endp firstp room pv := hk.trans h
theorem DfAt.below {w w' : World} {B f start endp firstp room : Nat} {pv : Value} (h : DfAt w f start endp firstp room pv) (hb : Below B w w') (hB : w.heap.size ≤ B) : DfAt w' f start endp firstp room pv := h.keep (hb.block f (Nat.lt_of_lt_of_le h.lt hB))
theorem wdraft_any (h : LgAt w lg d r begin wv dn) (hr : RingAt w r d k first count tail S t) (ht : tail ≤ 4611686018427387904) (hb : begin < 18446744073709551616) (hc : count ≤ 100000) :
    Calls Try.prog 49 #[.pointer (some ⟨lg, 0, none⟩)] w fun e w' => ∃ f, e = .returned (.pointer (some ⟨f, 0, none⟩)) ∧ DfAt w' f tail tail 0 (leftN begin tail count) (.slice none 0 0) ∧ w.heap.size ≤ f ∧ Below w.heap.size w w' := by
  have T := Lib.hid (tail_any hr)
  have L := Lib.hid (wleft_any h hr ht hb)
  obtain ⟨c0, c1, c2, c3, c4⟩ := h.cells
  have hl : leftN begin tail count ≤ count * 128 := by unfold leftN; omega
  obtain ⟨N, hN⟩ : ∃ N, N = leftN begin tail count := ⟨_, rfl⟩
  rw [← hN] at L hl ⊢
  clear h hr hN
  go_enter Try.func49, Try.ntmps49
  go_wp2_with fail
  refine T.out.mono ?_
  rintro e w2 ⟨rfl, rfl⟩
  go_wp2_with fail
  refine L.out.mono ?_
  rintro e w2 ⟨rfl, m, hw2⟩
  have b2 : Below w.heap.size w w2 := by rw [hw2]; exact below_drewN (Below.refl _ _) m
  have B2 := Lib.hid b2
  clear hw2 b2
  go_wp2_with fail
  go_ret
  exact ⟨_, rfl, heap_alloc_new _ _, B2.out.size, B2.out.alloc B2.out.size _⟩
end
end Go.Proofs.Ytdjpeebekpjiiaa.Dk
/- A region that draws its order and makes memory: one proof for all orders, by what each operation's slot holds once it was carried out. -/
namespace Go.Proofs.Ytdjpeebekpjiiaa
open Go
section
variable {P : Program} {ops : Array Oper} {Q : Exit → Act → World → Prop}

def upd {α : Type} (f : Nat → α) (i : Nat) (v : α) : Nat → α := fun j => if j = i then v else f j
theorem upd_self {α : Type} (f : Nat → α) (i : Nat) (v : α) : upd f i v i = v := by simp [upd]
theorem upd_ne {α : Type} (f : Nat → α) {i j : Nat} (v : α) (h : j ≠ i) : upd f i v j = f j := by simp [upd, h]

/-- Each operation waits for earlier ones alone, and none is guarded. -/
def backOk (ops : Array Oper) : Bool :=
  (List.range ops.size).all fun i => match ops[i]? with
    | none => false
    | some o => o.guard.isNone && o.after.all fun e => !Region.binds .any e || decide (e.on < i)

theorem backOk_spec (h : backOk ops = true) {i : Nat} {o : Oper} (ho : ops[i]? = some o) : o.guard = none ∧ ∀ e ∈ o.after, Region.binds .any e = true → e.on < i := by
  have hi : i < ops.size := (Array.getElem?_eq_some_iff.1 ho).1
  have h1 := List.all_eq_true.1 h i (List.mem_range.2 hi)
  rw [ho] at h1
  simp only [Bool.and_eq_true, Option.isNone_iff_eq_none] at h1
  exact ⟨h1.1, fun e he hb => by have := Array.all_eq_true'.1 h1.2 e he; simpa [hb] using this⟩

theorem wpAny_inv (hback : backOk ops = true) (I : (Nat → Bool) → Act → World → Prop)
    (hstep : ∀ i o, ops[i]? = some o → ∀ L a w, (∀ e ∈ o.after, Region.binds .any e = true → L e.on = true) → L i = false → I L a w → o.wp P a w (fun a' w' => I (upd L i true) a' w') Q)
    (hend : ∀ L a w, (∀ j, j < ops.size → L j = true) → I L a w → Q .normal a w) :
    ∀ (fuel : Nat) (l : List Nat) (listed : Array Bool) (L : Nat → Bool) (a : Act) (w : World), l.length ≤ fuel → listed.size = ops.size → (∀ j, j < ops.size → L j = listed.getD j true) → (∀ j, j < ops.size → L j = false → j ∈ l) →
      I L a w → wpAny P .any ops Q fuel listed a w := by
  have all_of_ready : ∀ (listed : Array Bool) (L : Nat → Bool), listed.size = ops.size → (∀ j, j < ops.size → L j = listed.getD j true) → Region.ready .any ops listed = [] → ∀ k j, j < k → j < ops.size → L j = true := by
    intro listed L hs hL hr k
    induction k with
    | zero => intro j hj; omega
    | succ k ih =>
      intro j hj hjs
      by_cases hjk : j = k
      · subst hjk
        rcases hb : L j with _ | _
        · exfalso
          have hm : j ∈ Region.ready .any ops listed := mem_ready.2 ⟨by rw [← hL j hjs]; exact hb, ops[j], Array.getElem?_eq_getElem hjs, fun e he hbi => by
            have hlt := (backOk_spec hback (Array.getElem?_eq_getElem hjs)).2 e he hbi
            have h2 := ih e.on hlt (by omega)
            rw [hL e.on (by omega)] at h2
            have hsz : e.on < listed.size := by omega
            simp [hsz] at h2 ⊢
            exact h2⟩
          rw [hr] at hm
          cases hm
        · rfl
      · exact ih j (by omega) hjs
  intro fuel
  induction fuel with
  | zero =>
    intro l listed L a w hl hs hL hm h
    have hl0 : l = [] := List.length_eq_zero_iff.1 (by omega)
    subst hl0
    have hall : ∀ j, j < ops.size → L j = true := fun j hj => by
      rcases hb : L j with _ | _
      · exact absurd (hm j hj hb) (by simp)
      · rfl
    refine ⟨?_, hend L a w hall h⟩
    refine List.eq_nil_iff_forall_not_mem.2 fun j hj => ?_
    obtain ⟨h1, o, ho, _⟩ := mem_ready.1 hj
    have hjs : j < ops.size := (Array.getElem?_eq_some_iff.1 ho).1
    rw [← hL j hjs, hall j hjs] at h1
    cases h1
  | succ fuel ih =>
    intro l listed L a w hl hs hL hm h
    refine ⟨fun hr => hend L a w (fun j hj => all_of_ready listed L hs hL hr (j + 1) j (by omega) hj) h, fun i hi => ?_⟩
    obtain ⟨h1, o, ho, hall⟩ := mem_ready.1 hi
    have his : i < ops.size := (Array.getElem?_eq_some_iff.1 ho).1
    have hLi : L i = false := by rw [hL i his]; exact h1
    have hstep' := hstep i o ho L a w (fun e he hb => by
      have h2 := hall e he hb
      have hlt := (backOk_spec hback ho).2 e he hb
      rw [hL e.on (by omega)]
      have hsz : e.on < listed.size := by omega
      simp [hsz] at h2 ⊢
      exact h2) hLi h
    unfold wpOp
    simp only [ho]
    have hw : Region.wanted o (yielded ops a.tmps) = true := by unfold Region.wanted; rw [(backOk_spec hback ho).1]
    rw [hw, if_pos rfl]
    refine .inl (Oper.wp_mono (fun a' w' h' => ?_) hstep')
    have him := hm i his hLi
    refine ih (l.erase i) _ (upd L i true) a' w' ?_ (by simp [hs]) ?_ ?_ h'
    · have := List.length_erase_of_mem him
      have := List.length_pos_of_mem him
      omega
    · intro j hj
      by_cases hji : j = i
      · subst hji; rw [upd_self]; simp [hs, hj]
      · rw [upd_ne _ _ hji, hL j hj, getD_set_ne true (Ne.symm hji)]
    · intro j hj hb
      by_cases hji : j = i
      · subst hji; rw [upd_self] at hb; cases hb
      · rw [upd_ne _ _ hji] at hb
        exact (List.mem_erase_of_ne hji).2 (hm j hj hb)

/-- Whatever the order: each operation's slot has its fact from then on. -/
theorem wp_region_slots {id : Nat} {a : Act} {w : World} (hm : P.follows .mixedOrders = true) (hback : backOk ops = true) (mk : (Nat → Value) → Act) (F : Nat → Value → World → Prop) (St : (Nat → Bool) → World → Prop) (Rel : World → World → Prop)
    (hF : ∀ j v w w', Rel w w' → F j v w → F j v w')
    (hstep : ∀ i o, ops[i]? = some o → ∀ L x w, (∀ e ∈ o.after, Region.binds .any e = true → L e.on = true) → L i = false → (∀ j, L j = true → F j (x j) w) → St L w →
      o.wp P (mk x) w (fun a' w' => ∃ v, a' = mk (upd x i v) ∧ Rel w w' ∧ F i v w' ∧ St (upd L i true) w') Q)
    (hend : ∀ L x w, (∀ j, j < ops.size → L j = true) → (∀ j, L j = true → F j (x j) w) → St L w → Q .normal (mk x) w)
    (x0 : Nat → Value) (h0 : a = mk x0) (hS : St (fun _ => false) w.drew) : (Code.region id ops true).wp P Q a w := by
  refine wp_region_any hm ?_
  refine wpAny_inv (Q := Q) hback (fun L a w => ∃ x, a = mk x ∧ (∀ j, L j = true → F j (x j) w) ∧ St L w) ?_ ?_ ops.size (List.range ops.size) _ (fun _ => false) _ _ (by simp) (by simp) ?_ (fun j hj _ => List.mem_range.2 hj) ⟨x0, h0, fun j h => (by cases h), hS⟩
  · rintro i o ho L a w hd hi ⟨x, rfl, hx, hs⟩
    refine Oper.wp_mono (fun a' w' h' => ?_) (hstep i o ho L x w hd hi hx hs)
    obtain ⟨v, rfl, hr, hf, hs'⟩ := h'
    refine ⟨upd x i v, rfl, fun j hj => ?_, hs'⟩
    by_cases hji : j = i
    · subst hji; rw [upd_self]; exact hf
    · rw [upd_ne _ _ hji] at hj ⊢
      exact hF j _ w w' hr (hx j hj)
  · rintro L a w hall ⟨x, rfl, hx, hs⟩
    exact hend L x w hall hx hs
  · intro j hj
    simp [hj]

/-- A step of it that yields a value. -/
theorem slot_run {o : Oper} {a : Act} {w w' : World} {v : Value} {K : Act → World → Prop} (hr : (execOp a.eval o).run P w = .ok (.value v) w') (h : K (a.put o.dst v) w') : o.wp P a w K Q := by
  unfold Oper.wp
  rw [hr]
  exact h
/-- A step of it that calls. -/
theorem slot_call {o : Oper} {a : Act} {w : World} {K : Act → World → Prop} {f : FuncId} {fn : Func} {xs : Array Operand} {ats : Array TypeId} (args : Array Value)
    (hop : o.op = .call { callee := .value (.func f), args := xs, argTypes := ats }) (hf : P.funcs[f]? = some fn) (hname : (fn.name == "runtime.NumGoroutine") = false) (hb : fn.body.isNone = false) (ha : xs.map a.eval = args)
    (hc : Calls P f args w fun e w' => ∃ v, e = .returned v ∧ K (a.put o.dst v) w') : o.wp P a w K Q := by
  unfold Oper.wp
  rw [run_call_go hop hf hname hb ha]
  exact hc.mono fun e w' h => by obtain ⟨v, rfl, h⟩ := h; exact h
end
end Go.Proofs.Ytdjpeebekpjiiaa
/- A region that draws its order, makes memory, and has guarded operations: one proof for all orders (XUi, with the guards). -/
namespace Go.Proofs.Ytdjpeebekpjiiaa
open Go
section
variable {P : Program} {ops : Array Oper} {Q : Exit → Act → World → Prop}
theorem wpOp_mono {i : Nat} {K K' : Act → World → Prop} {a : Act} {w : World} (h : ∀ a w, K a w → K' a w) (hh : wpOp P ops Q i K a w) : wpOp P ops Q i K' a w := by
  unfold wpOp at *
  split at hh
  · exact h _ _ hh
  · split at hh
    · rename_i hw
      rw [if_pos hw]
      exact hh.imp (Oper.wp_mono h) id
    · rename_i hw
      rw [if_neg hw]
      exact h _ _ hh

/-- Each operation waits for earlier ones alone, guarded or not. -/
def backOkG (ops : Array Oper) : Bool :=
  (List.range ops.size).all fun i => match ops[i]? with
    | none => false
    | some o => o.after.all fun e => !Region.binds .any e || decide (e.on < i)

theorem backOkG_spec (h : backOkG ops = true) {i : Nat} {o : Oper} (ho : ops[i]? = some o) : ∀ e ∈ o.after, Region.binds .any e = true → e.on < i := by
  have hi : i < ops.size := (Array.getElem?_eq_some_iff.1 ho).1
  have h1 := List.all_eq_true.1 h i (List.mem_range.2 hi)
  rw [ho] at h1
  exact fun e he hb => by have := Array.all_eq_true'.1 h1 e he; simpa [hb] using this

theorem wpAny_invG (hback : backOkG ops = true) (I : (Nat → Bool) → Act → World → Prop)
    (hstep : ∀ i o, ops[i]? = some o → ∀ L a w, (∀ e ∈ o.after, Region.binds .any e = true → L e.on = true) → L i = false → I L a w → wpOp P ops Q i (fun a' w' => I (upd L i true) a' w') a w)
    (hend : ∀ L a w, (∀ j, j < ops.size → L j = true) → I L a w → Q .normal a w) :
    ∀ (fuel : Nat) (l : List Nat) (listed : Array Bool) (L : Nat → Bool) (a : Act) (w : World), l.length ≤ fuel → listed.size = ops.size → (∀ j, j < ops.size → L j = listed.getD j true) → (∀ j, j < ops.size → L j = false → j ∈ l) →
      I L a w → wpAny P .any ops Q fuel listed a w := by
  have all_of_ready : ∀ (listed : Array Bool) (L : Nat → Bool), listed.size = ops.size → (∀ j, j < ops.size → L j = listed.getD j true) → Region.ready .any ops listed = [] → ∀ k j, j < k → j < ops.size → L j = true := by
    intro listed L hs hL hr k
    induction k with
    | zero => intro j hj; omega
    | succ k ih =>
      intro j hj hjs
      by_cases hjk : j = k
      · subst hjk
        rcases hb : L j with _ | _
        · exfalso
          have hm : j ∈ Region.ready .any ops listed := mem_ready.2 ⟨by rw [← hL j hjs]; exact hb, ops[j], Array.getElem?_eq_getElem hjs, fun e he hbi => by
            have hlt := (backOkG_spec hback (Array.getElem?_eq_getElem hjs)) e he hbi
            have h2 := ih e.on hlt (by omega)
            rw [hL e.on (by omega)] at h2
            have hsz : e.on < listed.size := by omega
            simp [hsz] at h2 ⊢
            exact h2⟩
          rw [hr] at hm
          cases hm
        · rfl
      · exact ih j (by omega) hjs
  intro fuel
  induction fuel with
  | zero =>
    intro l listed L a w hl hs hL hm h
    have hl0 : l = [] := List.length_eq_zero_iff.1 (by omega)
    subst hl0
    have hall : ∀ j, j < ops.size → L j = true := fun j hj => by
      rcases hb : L j with _ | _
      · exact absurd (hm j hj hb) (by simp)
      · rfl
    refine ⟨?_, hend L a w hall h⟩
    refine List.eq_nil_iff_forall_not_mem.2 fun j hj => ?_
    obtain ⟨h1, o, ho, _⟩ := mem_ready.1 hj
    have hjs : j < ops.size := (Array.getElem?_eq_some_iff.1 ho).1
    rw [← hL j hjs, hall j hjs] at h1
    cases h1
  | succ fuel ih =>
    intro l listed L a w hl hs hL hm h
    refine ⟨fun hr => hend L a w (fun j hj => all_of_ready listed L hs hL hr (j + 1) j (by omega) hj) h, fun i hi => ?_⟩
    obtain ⟨h1, o, ho, hall⟩ := mem_ready.1 hi
    have his : i < ops.size := (Array.getElem?_eq_some_iff.1 ho).1
    have hLi : L i = false := by rw [hL i his]; exact h1
    have hstep' := hstep i o ho L a w (fun e he hb => by
      have h2 := hall e he hb
      have hlt := (backOkG_spec hback ho) e he hb
      rw [hL e.on (by omega)]
      have hsz : e.on < listed.size := by omega
      simp [hsz] at h2 ⊢
      exact h2) hLi h
    refine wpOp_mono (fun a' w' h' => ?_) hstep'
    have him := hm i his hLi
    refine ih (l.erase i) _ (upd L i true) a' w' ?_ (by simp [hs]) ?_ ?_ h'
    · have := List.length_erase_of_mem him
      have := List.length_pos_of_mem him
      omega
    · intro j hj
      by_cases hji : j = i
      · subst hji; rw [upd_self]; simp [hs, hj]
      · rw [upd_ne _ _ hji, hL j hj, getD_set_ne true (Ne.symm hji)]
    · intro j hj hb
      by_cases hji : j = i
      · subst hji; rw [upd_self] at hb; cases hb
      · rw [upd_ne _ _ hji] at hb
        exact (List.mem_erase_of_ne hji).2 (hm j hj hb)

/-- Whatever the order: each operation's slot has its fact from then on; a guarded one that isn't wanted leaves nothing. -/
theorem wp_region_slotsG {id : Nat} {a : Act} {w : World} (hm : P.follows .mixedOrders = true) (hback : backOkG ops = true) (mk : (Nat → Value) → Act) (F : Nat → Value → World → Prop) (St : (Nat → Bool) → World → Prop) (Rel : World → World → Prop)
    (hF : ∀ j v w w', Rel w w' → F j v w → F j v w')
    (hstep : ∀ i o, ops[i]? = some o → ∀ L x w, (∀ e ∈ o.after, Region.binds .any e = true → L e.on = true) → L i = false → (∀ j, L j = true → F j (x j) w) → St L w →
      (Region.wanted o (yielded ops (mk x).tmps) = true ∧ o.wp P (mk x) w (fun a' w' => ∃ v, a' = mk (upd x i v) ∧ Rel w w' ∧ F i v w' ∧ St (upd L i true) w') Q) ∨
      (Region.wanted o (yielded ops (mk x).tmps) = false ∧ ∃ v, (mk x).put o.dst undef = mk (upd x i v) ∧ F i v w ∧ St (upd L i true) w))
    (hend : ∀ L x w, (∀ j, j < ops.size → L j = true) → (∀ j, L j = true → F j (x j) w) → St L w → Q .normal (mk x) w)
    (x0 : Nat → Value) (h0 : a = mk x0) (hS : St (fun _ => false) w.drew) : (Code.region id ops true).wp P Q a w := by
  refine wp_region_any hm ?_
  refine wpAny_invG (Q := Q) hback (fun L a w => ∃ x, a = mk x ∧ (∀ j, L j = true → F j (x j) w) ∧ St L w) ?_ ?_ ops.size (List.range ops.size) _ (fun _ => false) _ _ (by simp) (by simp) ?_ (fun j hj _ => List.mem_range.2 hj) ⟨x0, h0, fun j h => (by cases h), hS⟩
  · rintro i o ho L a w hd hi ⟨x, rfl, hx, hs⟩
    unfold wpOp
    simp only [ho]
    rcases hstep i o ho L x w hd hi hx hs with ⟨hw, h1⟩ | ⟨hw, v, hv, hf, hs'⟩
    · rw [hw, if_pos rfl]
      refine .inl (Oper.wp_mono (fun a' w' h' => ?_) h1)
      obtain ⟨v, rfl, hr, hf, hs'⟩ := h'
      refine ⟨upd x i v, rfl, fun j hj => ?_, hs'⟩
      by_cases hji : j = i
      · subst hji; rw [upd_self]; exact hf
      · rw [upd_ne _ _ hji] at hj ⊢
        exact hF j _ w w' hr (hx j hj)
    · rw [hw, if_neg (by decide)]
      refine ⟨upd x i v, hv, fun j hj => ?_, hs'⟩
      by_cases hji : j = i
      · subst hji; rw [upd_self]; exact hf
      · rw [upd_ne _ _ hji] at hj ⊢
        exact hx j hj
  · rintro L a w hall ⟨x, rfl, hx, hs⟩
    exact hend L x w hall hx hs
  · intro j hj
    simp [hj]

end
end Go.Proofs.Ytdjpeebekpjiiaa
/- A region that draws its order: any invariant of what was carried out, the slots and the world. -/
namespace Go.Proofs.Ytdjpeebekpjiiaa
open Go
section
variable {P : Program} {ops : Array Oper} {Q : Exit → Act → World → Prop}
theorem wp_region_slotsJ {id : Nat} {a : Act} {w : World} (hm : P.follows .mixedOrders = true) (hback : backOkG ops = true) (mk : (Nat → Value) → Act) (J : (Nat → Bool) → (Nat → Value) → World → Prop)
    (hstep : ∀ i o, ops[i]? = some o → ∀ L x w, (∀ e ∈ o.after, Region.binds .any e = true → L e.on = true) → L i = false → J L x w →
      (Region.wanted o (yielded ops (mk x).tmps) = true ∧ o.wp P (mk x) w (fun a' w' => ∃ v, a' = mk (upd x i v) ∧ J (upd L i true) (upd x i v) w') Q) ∨
      (Region.wanted o (yielded ops (mk x).tmps) = false ∧ ∃ v, (mk x).put o.dst undef = mk (upd x i v) ∧ J (upd L i true) (upd x i v) w))
    (hend : ∀ L x w, (∀ j, j < ops.size → L j = true) → J L x w → Q .normal (mk x) w)
    (x0 : Nat → Value) (h0 : a = mk x0) (hJ : J (fun _ => false) x0 w.drew) : (Code.region id ops true).wp P Q a w := by
  refine wp_region_any hm ?_
  refine wpAny_invG (Q := Q) hback (fun L a w => ∃ x, a = mk x ∧ J L x w) ?_ ?_ ops.size (List.range ops.size) _ (fun _ => false) _ _ (by simp) (by simp) ?_ (fun j hj _ => List.mem_range.2 hj) ⟨x0, h0, hJ⟩
  · rintro i o ho L a w hd hi ⟨x, rfl, hx⟩
    unfold wpOp
    simp only [ho]
    rcases hstep i o ho L x w hd hi hx with ⟨hw, h1⟩ | ⟨hw, v, hv, hj⟩
    · rw [hw, if_pos rfl]
      exact .inl (Oper.wp_mono (fun a' w' h' => by obtain ⟨v, rfl, hj⟩ := h'; exact ⟨_, rfl, hj⟩) h1)
    · rw [hw, if_neg (by decide)]
      exact ⟨upd x i v, hv, hj⟩
  · rintro L a w hall ⟨x, rfl, hx⟩
    exact hend L x w hall hx
  · intro j hj
    simp [hj]
theorem updJ {F : Nat → Value → Prop} {L : Nat → Bool} {x : Nat → Value} {i : Nat} {v : Value} (h : ∀ j, L j = true → F j (x j)) (hf : F i v) : ∀ j, upd L i true j = true → F j (upd x i v j) := by
  intro j hj
  by_cases hji : j = i
  · subst hji; rw [upd_self]; exact hf
  · rw [upd_ne _ _ hji] at hj ⊢
    exact h j hj
end
end Go.Proofs.Ytdjpeebekpjiiaa
