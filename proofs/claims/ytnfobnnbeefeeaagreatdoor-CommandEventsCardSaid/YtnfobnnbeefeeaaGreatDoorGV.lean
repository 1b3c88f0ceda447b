/- A region that draws its order but for its last operation (a store that waits for all others): of no program. -/
import Derived.Test.YtnfobnnbeefeeaaGreatDoorG2
import Derived.Test.YtnfobnnbeefeeaaGreatDoorGP
import Derived.Test.YtnfobnnbeefeeaaGreatDoorG5
import Derived.Test.YtnfobnnbeefeeaaGreatDoorGR
import Derived.Test.YtnfobnnbeefeeaaGreatDoorGT
namespace Go.Proofs.YtnfobnnbeefeeaaGreatDoor.Wi
open Go
section
variable {P : Program} {ops : Array Oper} {Q : Exit → Act → World → Prop}
/-- Which operations an operation waits for. -/
def depsO (ops : Array Oper) (j : Nat) : List Nat := match ops[j]? with
  | some o => (o.after.toList.filter (Region.binds .any)).map (·.on)
  | none => []
def reachO (ops : Array Oper) : Nat → List Nat → List Nat
  | 0, S => S
  | f + 1, S => S ++ reachO ops f (S.flatMap (depsO ops)).eraseDups
def lastO (ops : Array Oper) (n : Nat) : Bool := (List.range n).all fun i => (reachO ops n [n]).contains i
def ClosO (ops : Array Oper) (L : Nat → Bool) : Prop := ∀ j o, ops[j]? = some o → L j = true → ∀ e ∈ o.after, Region.binds .any e = true → L e.on = true
theorem mem_eraseDups_le {l : List Nat} {a : Nat} (h : a ∈ l.eraseDups) : a ∈ l := by simpa using h
theorem reach_all {L : Nat → Bool} (hc : ClosO ops L) : ∀ (f : Nat) (S : List Nat), (∀ j ∈ S, L j = true) → ∀ j ∈ reachO ops f S, L j = true
  | 0, S, h => h
  | f + 1, S, h => by
    intro j hj
    rw [reachO] at hj
    rcases List.mem_append.1 hj with hj | hj
    · exact h j hj
    · refine reach_all hc f _ (fun i hi => ?_) j hj
      have hi := mem_eraseDups_le hi
      obtain ⟨k, hk, hi⟩ := List.mem_flatMap.1 hi
      unfold depsO at hi
      cases ho : ops[k]? with
      | none => rw [ho] at hi; cases hi
      | some o =>
        rw [ho] at hi
        obtain ⟨e, he, rfl⟩ := List.mem_map.1 hi
        obtain ⟨h1, h2⟩ := List.mem_filter.1 he
        exact hc k o ho (h k hk) e (by simpa using h1) h2
theorem last_all {L : Nat → Bool} {n : Nat} (hc : ClosO ops L) (hl : lastO ops n = true) (hn : L n = true) : ∀ i, i < n → L i = true := by
  intro i hi
  have h1 := List.all_eq_true.1 hl i (List.mem_range.2 hi)
  exact reach_all hc n [n] (fun j hj => by rw [List.mem_singleton.1 hj]; exact hn) i (by simpa using h1)
/-- Whatever the order of the others, the last operation comes behind them all. -/
theorem wp_region_slotsM {id : Nat} {a : Act} {w : World} (n : Nat) (hm : P.follows .mixedOrders = true) (hback : backOkG ops = true) (hsz : ops.size = n + 1) (hl : lastO ops n = true) (mk : (Nat → Value) → Act) (K : (Nat → Bool) → (Nat → Value) → World → Prop) (E : (Nat → Value) → World → Prop)
    (hstep : ∀ i o, i < n → ops[i]? = some o → ∀ (L : Nat → Bool) (x : Nat → Value) (w : World), (∀ e ∈ o.after, Region.binds .any e = true → L e.on = true) → L i = false → K L x w →
      (Region.wanted o (yielded ops (mk x).tmps) = true ∧ o.wp P (mk x) w (fun a' w' => ∃ v, a' = mk (upd x i v) ∧ K (upd L i true) (upd x i v) w') Q) ∨
      (Region.wanted o (yielded ops (mk x).tmps) = false ∧ ∃ v, (mk x).put o.dst undef = mk (upd x i v) ∧ K (upd L i true) (upd x i v) w))
    (hlast : ∀ o, ops[n]? = some o → ∀ (L : Nat → Bool) (x : Nat → Value) (w : World), (∀ j, j < n → L j = true) → K L x w → Region.wanted o (yielded ops (mk x).tmps) = true ∧ o.wp P (mk x) w (fun a' w' => ∃ v, a' = mk (upd x n v) ∧ E (upd x n v) w') Q)
    (hend : ∀ x w, E x w → Q .normal (mk x) w)
    (x0 : Nat → Value) (h0 : a = mk x0) (hS : K (fun _ => false) x0 w.drew) : (Code.region id ops true).wp P Q a w := by
  refine wp_region_slotsJ hm hback mk (fun L x w => ClosO ops L ∧ (L n = true → (∀ j, j < n → L j = true) ∧ E x w) ∧ (L n = false → K L x w)) ?_ ?_ x0 h0 ⟨(fun j o _ h => by cases h), (fun h => by cases h), fun _ => hS⟩
  · rintro i o ho L x w hd hi ⟨hc, hpost, hpre⟩
    have hilt : i < ops.size := (Array.getElem?_eq_some_iff.1 ho).1
    have hcl : ClosO ops (upd L i true) := by
      intro j o' ho' hj e he hb
      by_cases hei : e.on = i
      · rw [hei, upd_self]
      · rw [upd_ne _ _ hei]
        by_cases hji : j = i
        · subst hji
          rw [ho] at ho'
          obtain rfl := Option.some.inj ho'
          exact hd e he hb
        · rw [upd_ne _ _ hji] at hj
          exact hc j o' ho' hj e he hb
    by_cases hin : i = n
    · subst hin
      have hall := last_all hcl hl (upd_self _ _ _)
      have hall' : ∀ j, j < i → L j = true := fun j hj => by have := hall j hj; rwa [upd_ne _ _ (by omega)] at this
      obtain ⟨hw, h3⟩ := hlast o ho L x w hall' (hpre hi)
      refine .inl ⟨hw, Oper.wp_mono (fun a' w' h' => ?_) h3⟩
      obtain ⟨v, rfl, he⟩ := h'
      exact ⟨v, rfl, hcl, fun _ => ⟨hall, he⟩, fun h => by rw [upd_self] at h; cases h⟩
    · have hln : L n = false := by
        cases h : L n with
        | false => rfl
        | true => have := (hpost h).1 i (by omega); rw [this] at hi; cases hi
      have hupn : upd L i true n = false := by rw [upd_ne _ _ (fun e => hin e.symm)]; exact hln
      rcases hstep i o (by omega) ho L x w hd hi (hpre hln) with ⟨hw, h3⟩ | ⟨hw, v, hv, hf⟩
      · refine .inl ⟨hw, Oper.wp_mono (fun a' w' h' => ?_) h3⟩
        obtain ⟨v, rfl, hf⟩ := h'
        exact ⟨v, rfl, hcl, (fun h => by rw [hupn] at h; cases h), fun _ => hf⟩
      · exact .inr ⟨hw, v, hv, hcl, (fun h => by rw [hupn] at h; cases h), fun _ => hf⟩
  · rintro L x w hall ⟨_, hpost, _⟩
    exact hend x w (hpost (hall n (by omega))).2
end
end Go.Proofs.YtnfobnnbeefeeaaGreatDoor.Wi
/- Erase. -/
namespace Go.Proofs.YtnfobnnbeefeeaaGreatDoor.Wi
open Go Go.RowKit
set_option linter.unusedVariables false
set_option linter.unusedSimpArgs false
theorem ecs_app (a b : List Ev) : ecs (a ++ b) = ecs a ++ ecs b := by simp [ecs]
theorem ecs_one (l : List Ev) : ∀ u ∈ ecs l, u.oneCell' = true := by
  intro u hu
  simp only [ecs, List.mem_flatten, List.mem_map] at hu
  obtain ⟨q, ⟨x, _, rfl⟩, hu⟩ := hu
  exact x.cells_one' u hu
/-- An event is written behind a row of events. -/
theorem wpList_apEv {ops : Array Oper} {rest : List Oper} {o : Oper} {a : Act} {Q : Exit → Act → World → Prop} {w : World} (hgd : o.guard = none) (s x : Operand)
    (ho : o.op = .call { callee := .builtin .append, args := #[s, x], argTypes := #[72, 72] })
    (B : Nat) (ao : Option Addr) (c : Nat) (L : List Ev) (n : Nat) (hn : n = L.length) (hsv : a.eval s = .slice ao n c) (own : w.ownsRow B 28 11 (.slice ao n c) n (ecs L)) (hB : B ≤ w.heap.size)
    (z : Ev) (hx : a.eval x = .slice (some ⟨w.heap.size, 0, none⟩) 1 1) (hlim : n + 1 ≤ 1000000)
    (h : ∀ ao' c' w', w'.ownsRow B 28 11 (.slice ao' (n + 1) c') (n + 1) (ecs (L ++ [z])) → Below B w w' → (∀ k, k < w.heap.size → some k ≠ (Value.slice ao n c).ownBlock → w'.heap[k]? = w.heap[k]?) → ((Value.slice ao' (n + 1) c').ownBlock = (Value.slice ao n c).ownBlock ∨ (Value.slice ao' (n + 1) c').ownBlock = some (w.heap.size + 1)) → w.heap.size ≤ w'.heap.size → wpList Tryz.prog ops Q rest (a.put o.dst (.slice ao' (n + 1) c')) w') :
    wpList Tryz.prog ops Q (o :: rest) a (w.alloc (.cells z.cells.toArray 28)) := by
  obtain ⟨i0, hi, hz0, hz1, hz2⟩ := info_parts (show (Tryz.prog.info? 28).map (fun i => (i.zero, i.size, i.bytes)) = some (some (.agg z11.toArray), 11, 128) by kernel_rfl)
  refine wpList_append_own_src _ hgd s x 72 72 ho B 28 i0 (.agg z11.toArray) 11 128 Tryz.underlying72 hi hz0 hz1 hz2 rfl _ n (ecs L) hsv (own.alloc _) _ 1 z.cells hx ?_ (by unfold maxLen; omega) (by omega) (by simp; omega) ?_
  · exact src_oneK Tryz.underlying72 w z.cells z.cells_len z.cells_one'
  · intro v' w' hg
    have gr := hg.2.2
    obtain ⟨a2, c2, rfl, own4, hb4, blk4⟩ := grew_oneK own hB (Nat.le_refl _) hg
    rw [show ecs L ++ z.cells = ecs (L ++ [z]) by simp [ecs]] at own4
    exact h a2 c2 w' own4 hb4 blk4 (by simpa using gr) hb4.size
/-- A value's list, where it has one, lies in a row of its own. -/
def VT.Own (B : Nat) (w : World) : VT → Prop
  | .mk _ _ _ ao c l => l ≠ [] → w.ownsRow B 26 4 (.slice ao l.length c) l.length (vcs l)
theorem VT.Own.keep {B : Nat} {w w' : World} {P : Nat → Prop} : ∀ {v : VT}, v.Own B w → v.In P → (∀ k, k < w.heap.size → B ≤ k → P k → w'.heap[k]? = w.heap[k]?) → v.Own B w'
  | .mk k n s ao c l, h, hi, hk => fun hl => by
    have own := h hl
    rw [VT.In] at hi
    refine own_keepK own fun b hb hlt => hk b hlt (own.lt b hb).1 ?_
    rcases own.2 with ⟨e1, e0⟩ | ⟨g, cap', cur, e1, _⟩
    · exact absurd (List.eq_nil_of_length_eq_zero e0) hl
    · injection e1 with e1
      subst e1
      injection hb with hb
      have := hi.1 hl _ rfl
      rwa [← hb]
theorem VT.Own.base {B C : Nat} {w : World} (hC : C ≤ B) : ∀ {v : VT}, v.Own B w → v.Own C w
  | .mk k n s ao c l, h => fun hl => own_base (h hl) hC
def ErPost (w : World) (l : List Ev) (e : Ending) (w' : World) : Prop :=
  ∃ ao c Y, e = .returned (.slice ao (Y : List Ev).length c) ∧ Y.map Ev.nz = (erE 1 l).map Ev.nz ∧ (∀ y ∈ Y, y.At w'.heap.size w' ∧ y.val.In (w.heap.size ≤ ·) ∧ y.val.In (fun k => some k ≠ (Value.slice ao Y.length c).ownBlock) ∧ y.val.Own w.heap.size w') ∧ w'.ownsRow w.heap.size 28 11 (.slice ao Y.length c) Y.length (ecs Y) ∧ Below w.heap.size w w'
def erRel (w : World) (l : List Ev) (lv i : Value) (wr : World) : Prop :=
  ∃ (j : Nat) (Y : List Ev) (ao : Option Addr) (c : Nat), i = .int .i64 (j : Int) ∧ j ≤ l.length ∧ lv = .slice ao Y.length c ∧ Y.length ≤ j ∧ Y.map Ev.nz ++ (erE ((Y.length : Int) + 1) (l.drop j)).map Ev.nz = (erE 1 l).map Ev.nz ∧
    wr.ownsRow w.heap.size 28 11 (.slice ao Y.length c) Y.length (ecs Y) ∧ (∀ y ∈ Y, y.At wr.heap.size wr ∧ y.val.In (w.heap.size ≤ ·) ∧ y.val.In (fun k => some k ≠ (Value.slice ao Y.length c).ownBlock) ∧ y.val.Own w.heap.size wr) ∧ Below w.heap.size w wr
theorem eelems_app {B n c m : Nat} {ao : Option Addr} {wq w4 w5 : World} {Y : List Ev} {z : Ev} {v' : Value} (hBq : B ≤ wq.heap.size)
    (hel : ∀ y ∈ Y, y.At wq.heap.size wq ∧ y.val.In (B ≤ ·) ∧ y.val.In (fun k => some k ≠ (Value.slice ao n c).ownBlock)) (hs : wq.heap.size ≤ w4.heap.size) (hk : ∀ k, k < wq.heap.size → B ≤ k → w4.heap[k]? = wq.heap[k]?)
    (hz : z.At w4.heap.size w4 ∧ z.val.In (wq.heap.size ≤ ·)) (hlt : ∀ g, (Value.slice ao n c).ownBlock = some g → g < wq.heap.size) (h45 : w4.heap.size ≤ w5.heap.size) (blk : ∀ k, k < w4.heap.size → some k ≠ (Value.slice ao n c).ownBlock → w5.heap[k]? = w4.heap[k]?)
    (gr : v'.ownBlock = (Value.slice ao n c).ownBlock ∨ v'.ownBlock = some m) (hm : w4.heap.size ≤ m) : ∀ y ∈ Y ++ [z], y.At w5.heap.size w5 ∧ y.val.In (B ≤ ·) ∧ y.val.In (fun k => some k ≠ v'.ownBlock) := by
  have h := elems_app (B := B) (n := n) (c := c) (m := m) (ao := ao) (wq := wq) (w4 := w4) (w5 := w5) (Y := Y.map Ev.val) (z := z.val) (v' := v') hBq (fun y hy => by
    obtain ⟨x, hx, rfl⟩ := List.mem_map.1 hy
    obtain ⟨a, b, c⟩ := hel x hx
    exact ⟨a.val, b, c⟩) hs hk ⟨hz.1.val, hz.2⟩ hlt h45 blk gr hm
  intro y hy
  have hv := h y.val (by
    rcases List.mem_append.1 hy with hy | hy
    · exact List.mem_append.2 (.inl (List.mem_map_of_mem hy))
    · rw [List.mem_singleton.1 hy]; exact List.mem_append.2 (.inr (List.mem_singleton.2 rfl)))
  have ha : ∃ (N : Nat) (W : World), y.At N W := by
    rcases List.mem_append.1 hy with hy | hy
    · exact ⟨_, _, (hel y hy).1⟩
    · rw [List.mem_singleton.1 hy]; exact ⟨_, _, hz.1⟩
  obtain ⟨N, W, ha⟩ := ha
  exact ⟨⟨ha.id, ha.time, ha.kind, ha.a, ha.b, ha.name, ha.text, hv.1⟩, hv.2.1, hv.2.2⟩
theorem eelems_app4 {B n c m : Nat} {ao : Option Addr} {wq w4 w5 : World} {Y : List Ev} {z : Ev} {v' : Value} (hBq : B ≤ wq.heap.size)
    (hel : ∀ y ∈ Y, y.At wq.heap.size wq ∧ y.val.In (B ≤ ·) ∧ y.val.In (fun k => some k ≠ (Value.slice ao n c).ownBlock) ∧ y.val.Own B wq) (hs : wq.heap.size ≤ w4.heap.size) (hk : ∀ k, k < wq.heap.size → B ≤ k → w4.heap[k]? = wq.heap[k]?)
    (hz : z.At w4.heap.size w4 ∧ z.val.In (wq.heap.size ≤ ·) ∧ z.val.Own wq.heap.size w4) (hlt : ∀ g, (Value.slice ao n c).ownBlock = some g → g < wq.heap.size) (h45 : w4.heap.size ≤ w5.heap.size) (blk : ∀ k, k < w4.heap.size → some k ≠ (Value.slice ao n c).ownBlock → w5.heap[k]? = w4.heap[k]?)
    (gr : v'.ownBlock = (Value.slice ao n c).ownBlock ∨ v'.ownBlock = some m) (hm : w4.heap.size ≤ m) : ∀ y ∈ Y ++ [z], y.At w5.heap.size w5 ∧ y.val.In (B ≤ ·) ∧ y.val.In (fun k => some k ≠ v'.ownBlock) ∧ y.val.Own B w5 := by
  intro y hy
  have h3 := eelems_app hBq (fun y hy => ⟨(hel y hy).1, (hel y hy).2.1, (hel y hy).2.2.1⟩) hs hk ⟨hz.1, hz.2.1⟩ hlt h45 blk gr hm y hy
  refine ⟨h3.1, h3.2.1, h3.2.2, ?_⟩
  rcases List.mem_append.1 hy with hy | hy
  · have h := hel y hy
    exact (h.2.2.2.keep h.2.1 fun k h1 h2 _ => hk k h1 h2).keep h.2.2.1 fun k h1 _ h2 => blk k h1 h2
  · rw [List.mem_singleton.1 hy]
    refine (hz.2.2.keep hz.2.1 fun k h1 h2 _ => blk k h1 fun e => ?_).base hBq
    have := hlt k e.symm
    omega
theorem own_keepE {w w' : World} {B n c : Nat} {ao : Option Addr} {xs : List Value} (h : w.ownsRow B 28 11 (.slice ao n c) n xs) (hk : ∀ k, k < w.heap.size → w'.heap[k]? = w.heap[k]?) : w'.ownsRow B 28 11 (.slice ao n c) n xs := own_keepK h fun b _ h => hk b h
end Go.Proofs.YtnfobnnbeefeeaaGreatDoor.Wi
/- Event: what is written of a command. -/
namespace Go.Proofs.YtnfobnnbeefeeaaGreatDoor.Wi
open Go Go.RowKit
set_option linter.unusedVariables false
set_option linter.unusedSimpArgs false
theorem slot_storeF {P : Program} {Q : Exit → Act → World → Prop} {o : Oper} {a : Act} {w : World} {K : Act → World → Prop} (ty : TypeId) (x y : Operand) (ho : o.op = .store ty x y)
    (g : Nat) (t : TypeId) (old cells : Array Value) (hx : a.eval x = .pointer (some ⟨g, 0, none⟩)) (hy : a.eval y = .agg cells) (hg : w.heap[g]? = some (.cells old t (0, 0)))
    (hi : (P.info? ty).map (·.size) = some cells.size) (hs : old.size = cells.size) (h1 : cells.all (·.oneCell') = true)
    (h : K (a.put o.dst undef) (w.setRow g cells)) : o.wp P a w K Q := by
  unfold Oper.wp execOp
  simp only [ho, hx, hy, Instr.storeAt, Instr.sureAddr, Sem.run_bind, Sem.run_pure, Result.andThen_ok, run_storeVar_row w g t ty old cells hg hi hs h1]
  exact h
/-- The event that is laid first. -/
def evO (c : Cm) (y : VT) : Ev := ⟨0, c.time, eK c.kind, c.a, c.b, c.name, [], y⟩
/-- What is known of a copied value. -/
def GoodO (B : Nat) (W : World) (v y : VT) : Prop := y.nz = v.nz ∧ y.At W.heap.size W ∧ y.In (B ≤ ·) ∧ y.Own B W
theorem GoodO.below {B : Nat} {W W' : World} {v y : VT} (h : GoodO B W v y) (hb : Below W.heap.size W W') : GoodO B W' v y :=
  ⟨h.1, (h.2.1.below hb).mono hb.size, h.2.2.1, h.2.2.2.keep h.2.2.1 (fun k hk _ _ => hb.block k hk)⟩
theorem GoodO.aside {B g : Nat} {W W' : World} {v y : VT} (h : GoodO B W v y) (hn : y.In (fun q => q ≠ g)) (hs : W.heap.size ≤ W'.heap.size) (hk : ∀ q, q ≠ g → W'.heap[q]? = W.heap[q]?) : GoodO B W' v y :=
  ⟨h.1, (h.2.1.keepT hn (fun q _ h2 => hk q h2)).mono hs, h.2.2.1, h.2.2.2.keep hn (fun k _ _ h2 => hk k h2)⟩
def ceF (g k t a b : Int) (S M Fl : ByteArray) (E : Int) (vc : Array Value) (gp : Nat) (j : Nat) (q : Value) : Prop := match j with
  | 0 => q = .pointer (some ⟨gp, 0, none⟩)
  | 1 => q = .int .i64 k
  | 2 => q = .agg #[.string M, .string Fl, .int .i64 E]
  | 3 => q = .int .i64 E
  | 4 => q = .pointer (some ⟨gp, 1, none⟩)
  | 5 => q = .int .i64 t
  | 6 => q = .pointer (some ⟨gp, 2, none⟩)
  | 7 => q = .int .i64 a
  | 8 => q = .pointer (some ⟨gp, 3, none⟩)
  | 9 => q = .int .i64 b
  | 10 => q = .pointer (some ⟨gp, 4, none⟩)
  | 11 => q = .string S
  | 12 => q = .pointer (some ⟨gp, 5, none⟩)
  | 13 => q = .agg vc
  | _ => True
structure CeK (B : Nat) (w2 : World) (F : Nat → Value → Prop) (EV : VT → Ev) (v : VT) (L : Nat → Bool) (x : Nat → Value) (W : World) : Prop where
  be : Below w2.heap.size w2 W
  fx : ∀ j, L j = true → F j (x j)
  ex : ∃ (y : VT) (g8 : Nat), (L 14 = true → x 14 = .agg y.cells.toArray ∧ GoodO B W v y) ∧ (L 15 = true → L 14 = true ∧ x 15 = .agg (EV y).cells.toArray) ∧ (L 16 = true → x 16 = .pointer (some ⟨g8, 0, none⟩) ∧ B ≤ g8 ∧ W.heap[g8]? = some (.cells z11.toArray 28 (0, 0))) ∧ (L 14 = true → L 16 = true → y.In (fun q => q ≠ g8))
theorem CeK.step {B : Nat} {w2 : World} {F : Nat → Value → Prop} {EV : VT → Ev} {v : VT} {L : Nat → Bool} {x : Nat → Value} {W W' : World} (h : CeK B w2 F EV v L x W) {i : Nat} (hi : i < 14) {q : Value} (hq : F i q) (hb : Below W.heap.size W W') : CeK B w2 F EV v (upd L i true) (upd x i q) W' := by
  obtain ⟨y, g8, h14, h15, h16, hx⟩ := h.ex
  refine ⟨h.be.trans (hb.mono h.be.size), updJ h.fx hq, y, g8, ?_, ?_, ?_, ?_⟩
  · rw [upd_ne _ _ (by omega), upd_ne _ _ (by omega)]
    exact fun h => ⟨(h14 h).1, (h14 h).2.below hb⟩
  · rw [upd_ne _ _ (by omega), upd_ne _ _ (by omega), upd_ne _ _ (by omega)]
    exact h15
  · rw [upd_ne _ _ (by omega), upd_ne _ _ (by omega)]
    exact fun h => ⟨(h16 h).1, (h16 h).2.1, (hb.block g8 (lt_of_rowK (h16 h).2.2)).trans (h16 h).2.2⟩
  · rw [upd_ne _ _ (by omega), upd_ne _ _ (by omega)]
    exact hx
theorem CeK.clone {B : Nat} {w2 : World} {F : Nat → Value → Prop} {EV : VT → Ev} {v : VT} {L : Nat → Bool} {x : Nat → Value} {W W' : World} (h : CeK B w2 F EV v L x W) (hBW : B ≤ W.heap.size) {z : VT} (hF : ∀ q, F 14 q) (hl15 : L 15 = false) (hg : GoodO W.heap.size W' v z) (hb : Below W.heap.size W W') : CeK B w2 F EV v (upd L 14 true) (upd x 14 (.agg z.cells.toArray)) W' := by
  obtain ⟨y, g8, h14, h15, h16, hx⟩ := h.ex
  refine ⟨h.be.trans (hb.mono h.be.size), updJ h.fx (hF _), z, g8, ?_, ?_, ?_, ?_⟩
  · rw [upd_self]
    exact fun _ => ⟨rfl, hg.1, hg.2.1, hg.2.2.1.imp fun q hq => Nat.le_trans hBW hq, hg.2.2.2.base hBW⟩
  · rw [upd_ne _ _ (by omega), hl15]
    intro h; cases h
  · rw [upd_ne _ _ (by omega), upd_ne _ _ (by omega)]
    exact fun h => ⟨(h16 h).1, (h16 h).2.1, (hb.block g8 (lt_of_rowK (h16 h).2.2)).trans (h16 h).2.2⟩
  · rw [upd_ne L true (show (16 : Nat) ≠ 14 by omega)]
    exact fun _ h => hg.2.2.1.imp fun q hq => by have := lt_of_rowK (h16 h).2.2; omega
theorem CeK.build {B : Nat} {w2 : World} {F : Nat → Value → Prop} {EV : VT → Ev} {v : VT} {L : Nat → Bool} {x : Nat → Value} {W : World} (h : CeK B w2 F EV v L x W) (hF : ∀ q, F 15 q) (hl : L 14 = true) : ∃ y : VT, x 14 = .agg y.cells.toArray ∧ ((x 14 = .agg y.cells.toArray) → CeK B w2 F EV v (upd L 15 true) (upd x 15 (.agg (EV y).cells.toArray)) W) := by
  obtain ⟨y, g8, h14, h15, h16, hx⟩ := h.ex
  refine ⟨y, (h14 hl).1, fun _ => ⟨h.be, updJ h.fx (hF _), y, g8, ?_, ?_, ?_, ?_⟩⟩
  · rw [upd_ne _ _ (by omega), upd_ne _ _ (by omega)]
    exact h14
  · rw [upd_self, upd_ne _ _ (by omega)]
    exact fun _ => ⟨hl, by rw [upd_self]⟩
  · rw [upd_ne _ _ (by omega), upd_ne _ _ (by omega)]
    exact h16
  · rw [upd_ne _ _ (by omega), upd_ne _ _ (by omega)]
    exact hx
theorem CeK.alloc {B : Nat} {w2 : World} {F : Nat → Value → Prop} {EV : VT → Ev} {v : VT} {L : Nat → Bool} {x : Nat → Value} {W : World} (h : CeK B w2 F EV v L x W) (hBW : B ≤ W.heap.size) (hF : ∀ q, F 16 q) : CeK B w2 F EV v (upd L 16 true) (upd x 16 (.pointer (some ⟨W.heap.size, 0, none⟩))) (W.alloc (.cells z11.toArray 28)) := by
  obtain ⟨y, g8, h14, h15, h16, hx⟩ := h.ex
  have hb : Below W.heap.size W (W.alloc (.cells z11.toArray 28)) := (Below.refl _ _).alloc (Nat.le_refl _) _
  refine ⟨h.be.trans (hb.mono h.be.size), updJ h.fx (hF _), y, W.heap.size, ?_, ?_, ?_, ?_⟩
  · rw [upd_ne _ _ (by omega), upd_ne _ _ (by omega)]
    exact fun h => ⟨(h14 h).1, (h14 h).2.below hb⟩
  · rw [upd_ne _ _ (by omega), upd_ne _ _ (by omega), upd_ne _ _ (by omega)]
    exact h15
  · rw [upd_self, upd_self]
    exact fun _ => ⟨rfl, hBW, heap_alloc_new _ _⟩
  · rw [upd_ne L true (show (14 : Nat) ≠ 16 by omega)]
    exact fun h _ => (h14 h).2.2.1.inN.imp fun q hq => Nat.ne_of_lt hq
def CevPost (w : World) (x : Cm) (e : Ending) (w' : World) : Prop :=
  ∃ y : VT, e = .returned (.agg ({ x.ev 0 with val := y } : Ev).cells.toArray) ∧ GoodO w.heap.size w' x.val y ∧ Below w.heap.size w w'
theorem cln_own {B : Nat} {w : World} {v : VT} {ao : Option Addr} {c : Nat} {Y : List VT} (h : Cln B w v ao c Y) : (cln v ao c Y).Own B w := by
  unfold cln
  rw [VT.Own]
  exact fun _ => h.own
set_option maxHeartbeats 16000000 in
set_option maxRecDepth 100000 in
theorem cevent_any (x : Cm) (hd : x.val.dpr 65536 = false) (N : Nat) (w : World) (hx : x.At N w) (hN : N ≤ w.heap.size) (he : CB w.heap.size w) : Calls Tryz.prog 29 #[.agg x.cells.toArray] w (CevPost w x) := by
  obtain ⟨w1, hw1⟩ : ∃ bx, bx = w.alloc (.cells x.cells.toArray 42) := ⟨_, rfl⟩
  obtain ⟨g, hg⟩ : ∃ bx, bx = w.heap.size := ⟨_, rfl⟩
  have bw1 : Below w.heap.size w w1 := by rw [hw1]; exact (Below.refl _ _).alloc (Nat.le_refl _) _
  have nw1 : w1.heap[g]? = some (.cells x.cells.toArray 42 (0, 0)) := by rw [hw1, hg]; exact heap_alloc_new _ _
  have Kw1 := Lib.hid (rowC nw1)
  have Cw1 := Lib.hid (cmC nw1)
  have Hw1 := Lib.hid hw1
  have Hg := Lib.hid hg
  have Bw1 := Lib.hid bw1
  have Nw1 := Lib.hid nw1
  clear hw1 hg bw1 nw1
  obtain ⟨w2, hw2⟩ : ∃ w2, w2 = w1.alloc (.cells z11.toArray 28) := ⟨_, rfl⟩
  obtain ⟨g2, hg2⟩ : ∃ g, g = w1.heap.size := ⟨_, rfl⟩
  have b2 : Below w1.heap.size w1 w2 := by rw [hw2]; exact (Below.refl _ _).alloc (Nat.le_refl _) _
  have n2 : w2.heap[g2]? = some (.cells z11.toArray 28 (0, 0)) := by rw [hw2, hg2]; exact heap_alloc_new _ _
  have n12 := (b2.block g (lt_of_rowK Nw1.out)).trans Nw1.out
  have B2 := Lib.hid (Bw1.out.trans (b2.mono Bw1.out.size))
  have HX := Lib.hid hx
  have HC := Lib.hid ((he.on B2.out).base B2.out.size)
  have AB := Lib.hid (fun (W : World) (h : Below w2.heap.size w2 W) => cabout_any x.kind hx.kind W ((HC.out.on h).base h.size))
  have CL := Lib.hid (fun (W : World) (h : Below w2.heap.size w2 W) => vclone_any x.val hd N W (hx.val.below ((B2.out.mono hN).trans (h.mono (Nat.le_trans hN B2.out.size)))) (Nat.le_trans hN (Nat.le_trans B2.out.size h.size)))
  have ST := Lib.hid (fun (W : World) => csat_any x.time x.b hx.time hx.b W)
  have KC := Lib.hid (fun W (h : Below w2.heap.size w2 W) => cmC ((h.block g (lt_of_rowK n12)).trans n12))
  obtain ⟨k, hk⟩ : ∃ k, k = x.kind := ⟨_, rfl⟩
  obtain ⟨t, ht⟩ : ∃ k, k = x.time := ⟨_, rfl⟩
  obtain ⟨a, ha⟩ : ∃ k, k = x.a := ⟨_, rfl⟩
  obtain ⟨b, hb⟩ : ∃ k, k = x.b := ⟨_, rfl⟩
  obtain ⟨S, hS⟩ : ∃ k, k = str x.name := ⟨_, rfl⟩
  obtain ⟨M, hM⟩ : ∃ M, M = str (cNm x.kind) := ⟨_, rfl⟩
  obtain ⟨Fl, hF⟩ : ∃ F, F = str (cFl x.kind) := ⟨_, rfl⟩
  obtain ⟨E, hE⟩ : ∃ E, E = eK x.kind := ⟨_, rfl⟩
  obtain ⟨sa, hsa⟩ : ∃ s, s = sat x.time x.b := ⟨_, rfl⟩
  have AB2 := Lib.hid (fun (W : World) (h : Below w2.heap.size w2 W) => show Calls Tryz.prog 65 #[.int .i64 k] W fun e w' => e = .returned (.agg #[.string M, .string Fl, .int .i64 E]) ∧ Below W.heap.size W w' from by
    rw [hk, hM, hF, hE]; exact AB.out W h)
  have FD := Lib.hid (fun W => sh_field2 M Fl E W)
  have D := Lib.hid (show ∀ W, Below w2.heap.size w2 W → W.cell? ⟨g, 0, none⟩ = some (.int .i64 k) ∧ W.cell? ⟨g, 1, none⟩ = some (.int .i64 t) ∧ W.cell? ⟨g, 2, none⟩ = some (.int .i64 a) ∧ W.cell? ⟨g, 3, none⟩ = some (.int .i64 b) ∧ W.cell? ⟨g, 4, none⟩ = some (.string S) ∧ ∀ (j : Nat) u, x.val.cells[j]? = some u → W.cell? ((⟨g, 5, none⟩ : Addr).add j) = some u from fun W h => by
    have q := KC.out W h
    rw [hk, ht, ha, hb, hS]
    exact ⟨q.c0, q.c1, q.c2, q.c3, q.c4, q.cv⟩)
  rw [← hsa, ← ht, ← hb] at ST
  have EQ := Lib.hid (show ∀ y, (evO x y).cells.toArray = #[.int .i64 0, .int .i64 t, .int .i64 E, .int .i64 a, .int .i64 b, .string S, .string ⟨#[]⟩] ++ y.cells.toArray from fun y => by
    rw [ht, hE, ha, hb, hS]; simp [evO, Ev.cells]; rfl)
  have HK := Lib.hid hk
  have HSA := Lib.hid hsa
  have HE := Lib.hid hE
  have HG2b := Lib.hid (show g2 = w.heap.size + 1 by rw [hg2, Hw1.out]; simp)
  have HW2 := Lib.hid (show w2 = w1.alloc (.cells #[.int .i64 0, .int .i64 0, .int .i64 0, .int .i64 0, .int .i64 0, .string ⟨#[]⟩, .string ⟨#[]⟩, .int .i64 0, .int .i64 0, .string ⟨#[]⟩, .slice none 0 0] 28) from hw2)
  have N2 := Lib.hid n2
  have LT := Lib.hid (show w.heap.size ≤ w2.heap.size ∧ g2 < w2.heap.size ∧ w.heap.size ≤ g2 from ⟨B2.out.size, lt_of_rowK n2, by rw [hg2]; exact Bw1.out.size⟩)
  clear hw2 hg2 b2 n2 n12 hx he hk ht ha hb hS hM hF hE hsa AB
  go_enter Tryz.func29, Tryz.ntmps29
  go_upto_region 1 with fail
  rw [← Hw1.out, ← HG2b.out, ← Hg.out, ← HW2.out]
  refine wp_region_slotsM 17 (by kernel_rfl) (by kernel_rfl) rfl (by kernel_rfl)
    (fun y => ⟨#[.agg x.cells.toArray, .pointer (some ⟨g, 0, none⟩), .pointer (some ⟨g2, 0, none⟩), y 16, y 0, y 1, y 2, y 3, y 4, y 5, y 6, y 7, y 8, y 9, y 10, y 11, y 12, y 13, y 14, y 15, undef, undef, undef, undef, undef, undef, undef, undef, undef, undef], []⟩)
    (CeK w2.heap.size w2 (ceF 0 k t a b S M Fl E x.val.cells.toArray g) (evO x) x.val)
    (fun xs W => ∃ (y : VT) (g8 : Nat), xs 16 = .pointer (some ⟨g8, 0, none⟩) ∧ w2.heap.size ≤ g8 ∧ EvRow W g8 (evO x y) ∧ GoodO w2.heap.size W x.val y ∧ y.In (fun q => q ≠ g8) ∧ Below w2.heap.size w2 W)
    ?_ ?_ ?_ (fun _ => undef) rfl ⟨below_drewG (Below.refl _ _) 1, (fun j h => by cases h), zV, 0, (fun h => by cases h), (fun h => by cases h), (fun h => by cases h), (fun h => by cases h)⟩
  · intro i o hi ho L y wx hd' hl hK
    have hs := hK.be
    match i, ho with
    | 0, ho =>
      obtain rfl := Option.some.inj ho
      refine .inl ⟨rfl, ?_⟩
      exact slot_run (v := .pointer (some ⟨g, 0, none⟩)) (w' := wx) rfl ⟨_, rfl, hK.step (by omega) rfl (Below.refl _ _)⟩
    | 1, ho =>
      obtain rfl := Option.some.inj ho
      refine .inl ⟨rfl, ?_⟩
      have y0 : y 0 = .pointer (some ⟨g, 0, none⟩) := hK.fx 0 (hd' ⟨0, .data⟩ (by simp) rfl)
      obtain ⟨c0, c1, c2, c3, c4, cv⟩ := D.out wx hs
      refine slot_run (v := .int .i64 k) (w' := wx) ?_ ⟨_, rfl, hK.step (by omega) rfl (Below.refl _ _)⟩
      refine runWithK (fun z => match z with | .tmp 4 => y 0 | .const c => c | _ => undef) (by kernel_rfl) ?_
      rw [y0]
      go_simp
    | 2, ho =>
      obtain rfl := Option.some.inj ho
      refine .inl ⟨rfl, ?_⟩
      have y0 : y 1 = .int .i64 k := hK.fx 1 (hd' ⟨1, .data⟩ (by simp) rfl)
      refine slot_call #[.int .i64 k] rfl Tryz.func65 (by kernel_rfl) (by kernel_rfl) (by simp [Act.eval, y0]) ?_
      refine (AB2.out wx hs).mono ?_
      rintro e w' ⟨rfl, hb⟩
      exact ⟨_, rfl, _, rfl, hK.step (by omega) rfl hb⟩
    | 3, ho =>
      obtain rfl := Option.some.inj ho
      refine .inl ⟨rfl, ?_⟩
      have y0 : y 2 = .agg #[.string M, .string Fl, .int .i64 E] := hK.fx 2 (hd' ⟨2, .data⟩ (by simp) rfl)
      refine slot_run (v := .int .i64 E) (w' := wx) ?_ ⟨_, rfl, hK.step (by omega) rfl (Below.refl _ _)⟩
      refine runWithK (fun z => match z with | .tmp 6 => y 2 | .const c => c | _ => undef) (by kernel_rfl) ?_
      rw [y0]
      have hf := FD.out wx
      go_simp
    | 4, ho =>
      obtain rfl := Option.some.inj ho
      refine .inl ⟨rfl, ?_⟩
      exact slot_run (v := .pointer (some ⟨g, 1, none⟩)) (w' := wx) rfl ⟨_, rfl, hK.step (by omega) rfl (Below.refl _ _)⟩
    | 5, ho =>
      obtain rfl := Option.some.inj ho
      refine .inl ⟨rfl, ?_⟩
      have y0 : y 4 = .pointer (some ⟨g, 1, none⟩) := hK.fx 4 (hd' ⟨4, .data⟩ (by simp) rfl)
      obtain ⟨c0, c1, c2, c3, c4, cv⟩ := D.out wx hs
      refine slot_run (v := .int .i64 t) (w' := wx) ?_ ⟨_, rfl, hK.step (by omega) rfl (Below.refl _ _)⟩
      refine runWithK (fun z => match z with | .tmp 8 => y 4 | .const c => c | _ => undef) (by kernel_rfl) ?_
      rw [y0]
      go_simp
    | 6, ho =>
      obtain rfl := Option.some.inj ho
      refine .inl ⟨rfl, ?_⟩
      exact slot_run (v := .pointer (some ⟨g, 2, none⟩)) (w' := wx) rfl ⟨_, rfl, hK.step (by omega) rfl (Below.refl _ _)⟩
    | 7, ho =>
      obtain rfl := Option.some.inj ho
      refine .inl ⟨rfl, ?_⟩
      have y0 : y 6 = .pointer (some ⟨g, 2, none⟩) := hK.fx 6 (hd' ⟨6, .data⟩ (by simp) rfl)
      obtain ⟨c0, c1, c2, c3, c4, cv⟩ := D.out wx hs
      refine slot_run (v := .int .i64 a) (w' := wx) ?_ ⟨_, rfl, hK.step (by omega) rfl (Below.refl _ _)⟩
      refine runWithK (fun z => match z with | .tmp 10 => y 6 | .const c => c | _ => undef) (by kernel_rfl) ?_
      rw [y0]
      go_simp
    | 8, ho =>
      obtain rfl := Option.some.inj ho
      refine .inl ⟨rfl, ?_⟩
      exact slot_run (v := .pointer (some ⟨g, 3, none⟩)) (w' := wx) rfl ⟨_, rfl, hK.step (by omega) rfl (Below.refl _ _)⟩
    | 9, ho =>
      obtain rfl := Option.some.inj ho
      refine .inl ⟨rfl, ?_⟩
      have y0 : y 8 = .pointer (some ⟨g, 3, none⟩) := hK.fx 8 (hd' ⟨8, .data⟩ (by simp) rfl)
      obtain ⟨c0, c1, c2, c3, c4, cv⟩ := D.out wx hs
      refine slot_run (v := .int .i64 b) (w' := wx) ?_ ⟨_, rfl, hK.step (by omega) rfl (Below.refl _ _)⟩
      refine runWithK (fun z => match z with | .tmp 12 => y 8 | .const c => c | _ => undef) (by kernel_rfl) ?_
      rw [y0]
      go_simp
    | 10, ho =>
      obtain rfl := Option.some.inj ho
      refine .inl ⟨rfl, ?_⟩
      exact slot_run (v := .pointer (some ⟨g, 4, none⟩)) (w' := wx) rfl ⟨_, rfl, hK.step (by omega) rfl (Below.refl _ _)⟩
    | 11, ho =>
      obtain rfl := Option.some.inj ho
      refine .inl ⟨rfl, ?_⟩
      have y0 : y 10 = .pointer (some ⟨g, 4, none⟩) := hK.fx 10 (hd' ⟨10, .data⟩ (by simp) rfl)
      obtain ⟨c0, c1, c2, c3, c4, cv⟩ := D.out wx hs
      refine slot_run (v := .string S) (w' := wx) ?_ ⟨_, rfl, hK.step (by omega) rfl (Below.refl _ _)⟩
      refine runWithK (fun z => match z with | .tmp 14 => y 10 | .const c => c | _ => undef) (by kernel_rfl) ?_
      rw [y0]
      go_simp
    | 12, ho =>
      obtain rfl := Option.some.inj ho
      refine .inl ⟨rfl, ?_⟩
      exact slot_run (v := .pointer (some ⟨g, 5, none⟩)) (w' := wx) rfl ⟨_, rfl, hK.step (by omega) rfl (Below.refl _ _)⟩
    | 13, ho =>
      obtain rfl := Option.some.inj ho
      refine .inl ⟨rfl, ?_⟩
      have y0 : y 12 = .pointer (some ⟨g, 5, none⟩) := hK.fx 12 (hd' ⟨12, .data⟩ (by simp) rfl)
      obtain ⟨c0, c1, c2, c3, c4, cv⟩ := D.out wx hs
      exact slot_loadK 26 (.tmp 16) rfl ⟨g, 5, none⟩ y0 x.val.cells _ cv Tryz.underlying26 rfl (Tryz.valSize x.val) ⟨_, rfl, hK.step (by omega) rfl (Below.refl _ _)⟩
    | 14, ho =>
      obtain rfl := Option.some.inj ho
      refine .inl ⟨rfl, ?_⟩
      have y0 : y 13 = .agg x.val.cells.toArray := hK.fx 13 (hd' ⟨13, .data⟩ (by simp) rfl)
      have hl15 : L 15 = false := by
        obtain ⟨_, _, _, h15, _, _⟩ := hK.ex
        cases h : L 15 with
        | false => rfl
        | true => rw [(h15 h).1] at hl; cases hl
      refine slot_call #[.agg x.val.cells.toArray] rfl Tryz.func85 (by kernel_rfl) (by kernel_rfl) (by simp [Act.eval, y0]) ?_
      refine (CL.out wx hs).mono ?_
      rintro e w' ⟨ao, c, Y, rfl, hcl, hb⟩
      exact ⟨_, rfl, _, rfl, hK.clone hs.size (fun _ => trivial) hl15 ⟨cln_nz hcl, cln_at hcl (HX.out.val), cln_in hcl, cln_own hcl⟩ hb⟩
    | 15, ho =>
      obtain rfl := Option.some.inj ho
      refine .inl ⟨rfl, ?_⟩
      have y3 : y 3 = .int .i64 E := hK.fx 3 (hd' ⟨3, .data⟩ (by simp) rfl)
      have y5 : y 5 = .int .i64 t := hK.fx 5 (hd' ⟨5, .data⟩ (by simp) rfl)
      have y7 : y 7 = .int .i64 a := hK.fx 7 (hd' ⟨7, .data⟩ (by simp) rfl)
      have y9 : y 9 = .int .i64 b := hK.fx 9 (hd' ⟨9, .data⟩ (by simp) rfl)
      have yb : y 11 = .string S := hK.fx 11 (hd' ⟨11, .data⟩ (by simp) rfl)
      obtain ⟨z, ye, hz⟩ := hK.build (fun _ => trivial) (hd' ⟨14, .data⟩ (by simp) rfl)
      refine slot_run (v := .agg (evO x z).cells.toArray) (w' := wx) ?_ ⟨_, rfl, hz ye⟩
      refine runWithK (fun q => match q with | .tmp 7 => y 3 | .tmp 9 => y 5 | .tmp 11 => y 7 | .tmp 13 => y 9 | .tmp 15 => y 11 | .tmp 18 => y 14 | .const c => c | _ => undef) (by kernel_rfl) ?_
      rw [y3, y5, y7, y9, yb, ye, EQ.out z]
      obtain ⟨zk, zn, zs, za, zc, zl⟩ := z
      kernel_rfl
    | 16, ho =>
      obtain rfl := Option.some.inj ho
      refine .inl ⟨rfl, ?_⟩
      refine slot_run (v := .pointer (some ⟨wx.heap.size, 0, none⟩)) (w' := wx.alloc (.cells z11.toArray 28 (0, 0))) ?_ ⟨_, rfl, hK.alloc hs.size (fun _ => trivial)⟩
      kernel_rfl
    | k + 17, ho => omega
  · intro o ho L y wx hall hK
    obtain rfl := Option.some.inj ho
    refine ⟨rfl, ?_⟩
    obtain ⟨z, g8, h14, h15, h16, hx⟩ := hK.ex
    obtain ⟨_, hz⟩ := h14 (hall 14 (by omega))
    obtain ⟨_, y15⟩ := h15 (hall 15 (by omega))
    obtain ⟨y16, hg8, hrow⟩ := h16 (hall 16 (by omega))
    have hin := hx (hall 14 (by omega)) (hall 16 (by omega))
    refine slot_storeF 28 (.tmp 3) (.tmp 19) rfl g8 28 z11.toArray (evO x z).cells.toArray y16 y15 hrow (Tryz.evSize' _) (Ev.elevenZ _) (Ev.cells_one _) ?_
    refine ⟨undef, rfl, z, g8, by rw [upd_ne _ _ (by omega)]; exact y16, hg8, setRow_heap _ g8 _ _ _ _ hrow, hz.aside hin (by simp) (fun q hq => setRow_other wx g8 q _ hq), hin, ?_⟩
    exact ⟨hK.be.os, hK.be.tape, hK.be.output, by simpa using hK.be.size, fun q hq => (setRow_other wx g8 q _ (by omega)).trans (hK.be.block q hq)⟩
  · rintro y wx ⟨z, g8, y16, hg8, hrow, hz, hin, hb⟩
    rw [y16]
    have BX := Lib.hid hb
    have HZ := Lib.hid hz
    have HIN := Lib.hid hin
    have HG8 := Lib.hid hg8
    have ROW := Lib.hid hrow
    obtain ⟨c0, c1, c2, c3, c4, cv⟩ := D.out wx hb
    have fz := hrow.frz 4
    have d4 := (evC hrow).c4
    clear y16 hg8 hrow hz hin hb
    go_upto_if 22 with fail
    go_cut [] (fun wy => EvRow wy g8 ({ x.ev 0 with val := z } : Ev) ∧ GoodO w2.heap.size wy x.val z ∧ Below w2.heap.size w2 wy)
    case first =>
      by_cases h1 : k = 1
      · have RL := Lib.hid (show EvRow (wx.setCell ⟨g8, 4, none⟩ (.int .i64 sa)) g8 ({ x.ev 0 with val := z } : Ev) ∧ GoodO w2.heap.size (wx.setCell ⟨g8, 4, none⟩ (.int .i64 sa)) x.val z ∧ Below w2.heap.size w2 (wx.setCell ⟨g8, 4, none⟩ (.int .i64 sa)) from by
          have he : ({ x.ev 0 with val := z } : Ev) = { evO x z with b := sa } := by
            unfold Cm.ev evO
            rw [if_pos (by rw [← HK.out]; exact h1), ← HSA.out]
          refine ⟨by rw [he]; exact ROW.out.setB sa, HZ.out.aside HIN.out (by simp) (fun q hq => Below.heap_setCell wx ⟨g8, 4, none⟩ _ q hq), ?_⟩
          have hb := BX.out
          exact ⟨hb.os, hb.tape, hb.output, by simpa using hb.size, fun q hq => (Below.heap_setCell wx ⟨g8, 4, none⟩ _ q (by have := HG8.out; show q ≠ g8; omega)).trans (hb.block q hq)⟩)
        subst h1
        go_wp2_with fail
        refine (ST.out wx).mono ?_
        rintro e wz ⟨rfl, hwz⟩
        have hwz2 := hwz.symm
        subst hwz2
        clear hwz
        go_wp2_with fail
        go_meet
        all_goals exact RL.out
      · have h2 : (k == 1) = false := by simpa using h1
        have RL := Lib.hid (show EvRow wx g8 ({ x.ev 0 with val := z } : Ev) ∧ GoodO w2.heap.size wx x.val z ∧ Below w2.heap.size w2 wx from by
          have he : ({ x.ev 0 with val := z } : Ev) = evO x z := by
            unfold Cm.ev evO
            rw [if_neg (by rw [← HK.out]; exact h1)]
          exact ⟨by rw [he]; exact ROW.out, HZ.out, BX.out⟩)
        go_wp2_with fail
        go_meet
        all_goals exact RL.out
    case rest =>
      obtain ⟨w9, rfl⟩ : ∃ wd : World, wd = wc := ⟨_, rfl⟩
      obtain ⟨hrow, hz, hb⟩ := hcut
      obtain ⟨EV, hEV⟩ : ∃ EV : Ev, EV = { x.ev 0 with val := z } := ⟨_, rfl⟩
      rw [← hEV] at hrow
      have K9 := Lib.hid (rowE hrow)
      have N9 := Lib.hid ((hb.block g2 LT.out.2.1).trans N2.out)
      have RL := Lib.hid (show CevPost w x (.returned (.agg EV.cells.toArray)) (w9.setRow g2 EV.cells.toArray) from by
        have lt := LT.out
        refine ⟨z, by rw [hEV], ?_, ?_⟩
        · have h := hz.aside (g := g2) (hz.2.2.1.imp fun q hq => by omega) (W' := w9.setRow g2 EV.cells.toArray) (by simp) (fun q hq => setRow_other w9 g2 q _ hq)
          exact ⟨h.1, h.2.1, h.2.2.1.imp fun q hq => Nat.le_trans lt.1 hq, h.2.2.2.base lt.1⟩
        · have h2 := B2.out.trans (hb.mono B2.out.size)
          exact ⟨h2.os, h2.tape, h2.output, by simpa using h2.size, fun q hq => (setRow_other w9 g2 q _ (by omega)).trans (h2.block q hq)⟩)
      clear hrow hz hb hEV c0 c1 c2 c3 c4 cv fz d4
      go_wp2_with (first
        | (with_reducible show wpList _ _ _ _ _ _; refine wpList_load_allW rfl 28 (.tmp 3) rfl ⟨g8,0,none⟩ rfl EV.cells _ K9.out Tryz.underlying28 rfl (Tryz.evSize EV) ?_)
        | (with_reducible show wpList _ _ _ _ _ _; refine wpList_store_whole rfl 28 (.tmp 2) (.tmp 29) rfl g2 28 z11.toArray EV.cells.toArray rfl rfl N9.out (Tryz.evSize' EV) (Ev.elevenZ EV) EV.cells_one ?_))
      refine bodyPost_ret (results_cell_row rfl _ _ g2 28 EV.cells.toArray (0, 0) _ rfl (setRow_heap _ g2 _ _ _ _ N9.out) Tryz.underlying28 rfl (Tryz.evSize' EV)) rfl ?_
      exact RL.out
end Go.Proofs.YtnfobnnbeefeeaaGreatDoor.Wi
/- Fits, Made. -/
namespace Go.Proofs.YtnfobnnbeefeeaaGreatDoor.Wi
open Go Go.RowKit
set_option linter.unusedVariables false
set_option linter.unusedSimpArgs false
theorem Ev.same_of_nz {x x' y : Ev} (hx : x.val.Kin) (h : x.nz = x'.nz) : x.same y = x'.same y := by
  have hx' : x'.val.Kin := by
    have e := congrArg Ev.val h
    have e : x.val.nz = x'.val.nz := e
    rw [← nz_kin, ← e, nz_kin]; exact hx
  apply bool_iff
  rw [Ev.same_nz hx, Ev.same_nz hx', h]
theorem GoodO.aside' {B g : Nat} {W W' : World} {v y : VT} (h : GoodO B W v y) (hn : y.In (fun q => q ≠ g)) (hs : W'.heap.size = W.heap.size) (hk : ∀ q, q ≠ g → W'.heap[q]? = W.heap[q]?) : GoodO B W' v y := h.aside hn (Nat.le_of_eq hs.symm) hk
theorem sat_bd (t b : Int) (ht : -9223372036854775808 ≤ t ∧ t ≤ 9223372036854775807) (hb : -9223372036854775808 ≤ b ∧ b ≤ 9223372036854775807) : -9223372036854775808 ≤ sat t b ∧ sat t b ≤ 9223372036854775807 := by
  unfold sat
  split
  · omega
  · split <;> omega
set_option maxHeartbeats 16000000 in
set_option maxRecDepth 100000 in
theorem cfits_any (x : Cm) (y : Ev) (hf : Fine x.val) (N : Nat) (w : World) (hx : x.At N w) (hy : y.At N w) (hN : N ≤ w.heap.size) (he : CB w.heap.size w) : Calls Tryz.prog 37 #[.agg x.cells.toArray, .agg y.cells.toArray] w fun e w' => e = .returned (.bool (x.fitsE y)) ∧ Below w.heap.size w w' := by
  obtain ⟨w1, hw1⟩ : ∃ bx, bx = w.alloc (.cells x.cells.toArray 42) := ⟨_, rfl⟩
  obtain ⟨g, hg⟩ : ∃ bx, bx = w.heap.size := ⟨_, rfl⟩
  have bw1 : Below w.heap.size w w1 := by rw [hw1]; exact (Below.refl _ _).alloc (Nat.le_refl _) _
  have nw1 : w1.heap[g]? = some (.cells x.cells.toArray 42 (0, 0)) := by rw [hw1, hg]; exact heap_alloc_new _ _
  have Kw1 := Lib.hid (rowC nw1)
  have Cw1 := Lib.hid (cmC nw1)
  have Hw1 := Lib.hid hw1
  have Hg := Lib.hid hg
  have Bw1 := Lib.hid bw1
  have Nw1 := Lib.hid nw1
  clear hw1 hg bw1 nw1
  obtain ⟨w2, hw2⟩ : ∃ bx, bx = w1.alloc (.cells y.cells.toArray 28) := ⟨_, rfl⟩
  obtain ⟨g3, hg3⟩ : ∃ bx, bx = w1.heap.size := ⟨_, rfl⟩
  have bw2 : Below w1.heap.size w1 w2 := by rw [hw2]; exact (Below.refl _ _).alloc (Nat.le_refl _) _
  have nw2 : w2.heap[g3]? = some (.cells y.cells.toArray 28 (0, 0)) := by rw [hw2, hg3]; exact heap_alloc_new _ _
  have Kw2 := Lib.hid (rowE nw2)
  have Cw2 := Lib.hid (evC nw2)
  have Hw2 := Lib.hid hw2
  have Hg3 := Lib.hid hg3
  have Bw2 := Lib.hid bw2
  have Nw2 := Lib.hid nw2
  clear hw2 hg3 bw2 nw2
  have B2 := Lib.hid (Bw1.out.trans (Bw2.out.mono Bw1.out.size))
  have n12 := (Bw2.out.block g (lt_of_rowK Nw1.out)).trans Nw1.out
  have KX := Lib.hid (rowC n12)
  have HG3b := Lib.hid (show g3 = w.heap.size + 1 by rw [Hg3.out, Hw1.out]; simp)
  have CE := Lib.hid (cevent_any x hf.dpr N w2 (hx.below (B2.out.mono hN)) (Nat.le_trans hN B2.out.size) ((he.on B2.out).base B2.out.size))
  have HF := Lib.hid hf
  have HX := Lib.hid hx
  have HY := Lib.hid (hy.below (B2.out.mono hN))
  have HN := Lib.hid (Nat.le_trans hN B2.out.size)
  obtain ⟨R, hR⟩ : ∃ R, R = x.fitsE y := ⟨_, rfl⟩
  rw [← hR]
  have HR := Lib.hid hR
  clear hx hy he hf n12 hR
  go_enter Tryz.func37, Tryz.ntmps37
  go_upto_region 1 with fail
  rw [← Hw1.out, ← HG3b.out, ← Hg.out, ← Hw2.out]
  go_wp2_with (with_reducible show wpList _ _ _ _ _ _; refine wpList_load_allW rfl 42 (.tmp 2) rfl ⟨g,0,none⟩ rfl x.cells _ KX.out Tryz.underlying42 rfl (Tryz.cmSize x) ?_)
  refine CE.out.mono ?_
  rintro q w3 ⟨z, rfl, hz, hb3⟩
  obtain ⟨W0, hW0⟩ : ∃ W0 : Ev, W0 = { x.ev 0 with val := z } := ⟨_, rfl⟩
  rw [← hW0]
  obtain ⟨w4, hw4⟩ : ∃ bx, bx = w3.alloc (.cells W0.cells.toArray 28) := ⟨_, rfl⟩
  obtain ⟨g5, hg5⟩ : ∃ bx, bx = w3.heap.size := ⟨_, rfl⟩
  have bw4 : Below w3.heap.size w3 w4 := by rw [hw4]; exact (Below.refl _ _).alloc (Nat.le_refl _) _
  have nw4 : w4.heap[g5]? = some (.cells W0.cells.toArray 28 (0, 0)) := by rw [hw4, hg5]; exact heap_alloc_new _ _
  have Kw4 := Lib.hid (rowE nw4)
  have Cw4 := Lib.hid (evC nw4)
  have Hw4 := Lib.hid hw4
  have Hg5 := Lib.hid hg5
  have Bw4 := Lib.hid bw4
  have Nw4 := Lib.hid nw4
  clear hw4 hg5 bw4 nw4
  have B4 := Lib.hid (hb3.trans (Bw4.out.mono hb3.size))
  have HZ := Lib.hid (hz.below Bw4.out)
  have HW0 := Lib.hid hW0
  have hlt : w2.heap.size ≤ g5 ∧ g3 < g5 := by have := Hg5.out; have := lt_of_rowK Nw2.out; have := hb3.size; omega
  have LT := Lib.hid hlt
  have ZIN := Lib.hid (show z.In (fun q => q ≠ g5) from hz.2.1.inN.imp fun q hq => by have := Hg5.out; omega)
  clear hb3 hz hW0
  have n34 := (B4.out.block g3 (lt_of_rowK Nw2.out)).trans Nw2.out
  have e0 := (evC n34).c0
  have cc := Cw4.out.c0
  have row4 : EvRow w4 g5 W0 := Nw4.out
  have fz := row4.frz 0
  obtain ⟨w5, hw5⟩ : ∃ w5, w5 = w4.setCell ⟨g5, 0, none⟩ (.int .i64 y.id) := ⟨_, rfl⟩
  obtain ⟨W1, hW1⟩ : ∃ W1 : Ev, W1 = { W0 with id := y.id } := ⟨_, rfl⟩
  have R5 := Lib.hid (show EvRow w5 g5 W1 by rw [hw5, hW1]; exact row4.setId y.id)
  have oth : ∀ q, q ≠ g5 → w5.heap[q]? = w4.heap[q]? := fun q hq => by rw [hw5]; exact Below.heap_setCell w4 ⟨g5, 0, none⟩ _ q hq
  have B5 := Lib.hid (show Below w2.heap.size w2 w5 from by
    have hb := B4.out
    rw [hw5]
    exact ⟨hb.os, hb.tape, hb.output, by simpa using hb.size, fun q hq => (Below.heap_setCell w4 ⟨g5, 0, none⟩ _ q (by show q ≠ g5; omega)).trans (hb.block q hq)⟩)
  have Z5 := Lib.hid (show GoodO w2.heap.size w5 x.val z from HZ.out.aside' ZIN.out (by rw [hw5]; simp) oth)
  have N5 := Lib.hid (show w5.heap[g3]? = some (.cells y.cells.toArray 28 (0, 0)) from (oth g3 (by omega)).trans n34)
  have HW5 := Lib.hid hw5
  have HW1 := Lib.hid hW1
  clear row4 oth hw5 hW1 n34 hlt
  go_upto_region 2 with (with_reducible show wpList _ _ _ _ _ _; refine wpList_store_newW rfl 28 (.tmp 5) (.tmp 7) rfl 28 _ W0.cells.toArray rfl rfl (Tryz.evSize' W0) (by with_unfolding_all exact Ev.eleven W0) W0.cells_one ?_; rw [← Hw4.out, ← Hg5.out])
  go_upto_region 3 with fail
  rw [← HW5.out]
  clear e0 cc fz
  have k5 := (evC R5.out).c2
  have b3 := (evC N5.out).c4
  have fz := R5.out.frz 4
  have cc := (evC R5.out).c4
  obtain ⟨W2, hW2⟩ : ∃ W2 : Ev, W2 = if W1.kind = 21 then { W1 with b := y.b } else W1 := ⟨_, rfl⟩
  have HW2 := Lib.hid hW2
  clear hW2
  obtain ⟨k, hk⟩ : ∃ k, k = W1.kind := ⟨_, rfl⟩
  rw [← hk] at k5
  have HK := Lib.hid hk
  clear hk
  go_upto_if 13 with fail
  go_cut [] (fun wy => EvRow wy g5 W2 ∧ GoodO w2.heap.size wy x.val z ∧ Below w2.heap.size w2 wy ∧ wy.heap[g3]? = some (.cells y.cells.toArray 28 (0, 0)))
  case first =>
    by_cases h1 : k = 21
    · have RL := Lib.hid (show EvRow (w5.setCell ⟨g5, 4, none⟩ (.int .i64 y.b)) g5 W2 ∧ GoodO w2.heap.size (w5.setCell ⟨g5, 4, none⟩ (.int .i64 y.b)) x.val z ∧ Below w2.heap.size w2 (w5.setCell ⟨g5, 4, none⟩ (.int .i64 y.b)) ∧ (w5.setCell ⟨g5, 4, none⟩ (.int .i64 y.b)).heap[g3]? = some (.cells y.cells.toArray 28 (0, 0)) from by
        have he : W2 = { W1 with b := y.b } := by rw [HW2.out, if_pos (by rw [← HK.out]; exact h1)]
        have lt := LT.out
        have hb := B5.out
        refine ⟨by rw [he]; exact R5.out.setB y.b, Z5.out.aside' ZIN.out (by simp) (fun q hq => Below.heap_setCell w5 ⟨g5, 4, none⟩ _ q hq), ⟨hb.os, hb.tape, hb.output, by simpa using hb.size, fun q hq => (Below.heap_setCell w5 ⟨g5, 4, none⟩ _ q (by show q ≠ g5; omega)).trans (hb.block q hq)⟩, (Below.heap_setCell w5 ⟨g5, 4, none⟩ _ g3 (by show g3 ≠ g5; omega)).trans N5.out⟩)
      subst h1
      go_wp2_with fail
      go_meet
      all_goals exact RL.out
    · have h2 : (k == 21) = false := by simpa using h1
      have RL := Lib.hid (show EvRow w5 g5 W2 ∧ GoodO w2.heap.size w5 x.val z ∧ Below w2.heap.size w2 w5 ∧ w5.heap[g3]? = some (.cells y.cells.toArray 28 (0, 0)) from by
        have he : W2 = W1 := by rw [HW2.out, if_neg (by rw [← HK.out]; exact h1)]
        exact ⟨by rw [he]; exact R5.out, Z5.out, B5.out, N5.out⟩)
      go_wp2_with fail
      go_meet
      all_goals exact RL.out
  case rest =>
    obtain ⟨w9, rfl⟩ : ∃ wd : World, wd = wc := ⟨_, rfl⟩
    obtain ⟨hrow, hz, hb, hn3⟩ := hcut
    have hm : x.fitsE y = W2.same y := by
      unfold Cm.fitsE
      dsimp only
      have hnz : (if (x.ev y.id).kind = 21 then { x.ev y.id with b := y.b } else x.ev y.id).nz = W2.nz := by
        rw [HW2.out, HW1.out, HW0.out]
        have hk : ({ ({ x.ev 0 with val := z } : Ev) with id := y.id } : Ev).kind = (x.ev y.id).kind := rfl
        rw [hk]
        have hv : z.nz = (x.ev y.id).val.nz := hz.1
        by_cases h : (x.ev y.id).kind = 21
        · rw [if_pos h, if_pos h]
          unfold Ev.nz
          simp only [← hv]
          rfl
        · rw [if_neg h, if_neg h]
          unfold Ev.nz
          simp only [← hv]
          rfl
      refine Ev.same_of_nz ?_ hnz
      have hv : (if (x.ev y.id).kind = 21 then { x.ev y.id with b := y.b } else x.ev y.id).val = x.val := by split <;> rfl
      rw [hv]
      exact HF.out.kin
    have hv2 : W2.val = z := by
      rw [HW2.out, HW1.out, HW0.out]
      split <;> rfl
    have hat : W2.At w9.heap.size w9 := by
      have hx := HX.out
      have hy := HY.out
      have hs := sat_bd x.time x.b hx.time hx.b
      have hb2 : -9223372036854775808 ≤ (if x.kind = 1 then sat x.time x.b else x.b) ∧ (if x.kind = 1 then sat x.time x.b else x.b) ≤ 9223372036854775807 := by
        split
        · exact hs
        · exact hx.b
      have hek : 0 ≤ eK x.kind ∧ eK x.kind ≤ 21 := by unfold eK; (repeat' split) <;> omega
      rw [HW2.out, HW1.out, HW0.out]
      split
      · exact ⟨hy.id, hx.time, by show _ ≤ eK x.kind ∧ eK x.kind ≤ _; omega, hx.a, hy.b, hx.name, by simp [Cm.ev], hz.2.1⟩
      · exact ⟨hy.id, hx.time, by show _ ≤ eK x.kind ∧ eK x.kind ≤ _; omega, hx.a, hb2, hx.name, by simp [Cm.ev], hz.2.1⟩
    have SM := Lib.hid (esame_any W2 y (by rw [hv2, ← nz_dpr, hz.1, nz_dpr]; exact HF.out.dpr) w9.heap.size w9 hat (((HY.out.mono HN.out).below hb).mono hb.size) (Nat.le_refl _))
    rw [← hm, ← HR.out] at SM
    have K9 := Lib.hid (rowE hrow)
    have K3 := Lib.hid (rowE hn3)
    have B9 := Lib.hid (B2.out.trans (hb.mono B2.out.size))
    clear hrow hz hb hn3 hm hv2 hat k5 b3 fz cc
    go_wp2_with (first | (with_reducible show wpList _ _ _ _ _ _; refine wpList_load_allW rfl 28 (.tmp 5) rfl ⟨g5,0,none⟩ rfl W2.cells _ K9.out Tryz.underlying28 rfl (Tryz.evSize W2) ?_) | (with_reducible show wpList _ _ _ _ _ _; refine wpList_load_allW rfl 28 (.tmp 3) rfl ⟨g3,0,none⟩ rfl y.cells _ K3.out Tryz.underlying28 rfl (Tryz.evSize y) ?_))
    refine SM.out.mono ?_
    rintro q wz ⟨rfl, hbz⟩
    have RL := Lib.hid (B9.out.trans (hbz.mono B9.out.size))
    clear hbz
    go_wp2_with fail
    go_ret
    exact ⟨rfl, RL.out⟩
end Go.Proofs.YtnfobnnbeefeeaaGreatDoor.Wi
