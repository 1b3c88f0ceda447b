/- A region that draws its order but for its last operation (a store that waits for all others): of no program. -/
import Derived.Test.YtdjpeebekpjiiaaJ0J
import Derived.Laws.OwnMore
namespace Go.Proofs.Ytdjpeebekpjiiaa
open Go
section
variable {P : Program} {ops : Array Oper} {Q : Exit → Act → World → Prop}
/-- Which operations an operation waits for. -/
def depsO (ops : Array Oper) (j : Nat) : List Nat := match ops[j]? with
  | some o => (o.after.toList.filter (Region.binds .any)).map (·.on)
  | none => []
def reachO (ops : Array Oper) : Nat → List Nat → List Nat
  | 0, S => S
  | f + 1, S => S ++ reachO ops f (S.flatMap (depsO ops)).eraseDups
def lastO (ops : Array Oper) (n : Nat) : Bool := (List.range n).all fun i => (reachO ops n [n]).contains i
def ClosO (ops : Array Oper) (L : Nat → Bool) : Prop := ∀ j o, ops[j]? = some o → L j = true → ∀ e ∈ o.after, Region.binds .any e = true → L e.on = true
theorem mem_eraseDups_le {l : List Nat} {a : Nat} (h : a ∈ l.eraseDups) : a ∈ l := by simpa using h
theorem reach_all {L : Nat → Bool} (hc : ClosO ops L) : ∀ (f : Nat) (S : List Nat), (∀ j ∈ S, L j = true) → ∀ j ∈ reachO ops f S, L j = true
  | 0, S, h => h
  | f + 1, S, h => by
    intro j hj
    rw [reachO] at hj
    rcases List.mem_append.1 hj with hj | hj
    · exact h j hj
    · refine reach_all hc f _ (fun i hi => ?_) j hj
      have hi := mem_eraseDups_le hi
      obtain ⟨k, hk, hi⟩ := List.mem_flatMap.1 hi
      unfold depsO at hi
      cases ho : ops[k]? with
      | none => rw [ho] at hi; cases hi
      | some o =>
        rw [ho] at hi
        obtain ⟨e, he, rfl⟩ := List.mem_map.1 hi
        obtain ⟨h1, h2⟩ := List.mem_filter.1 he
        exact hc k o ho (h k hk) e (by simpa using h1) h2
theorem last_all {L : Nat → Bool} {n : Nat} (hc : ClosO ops L) (hl : lastO ops n = true) (hn : L n = true) : ∀ i, i < n → L i = true := by
  intro i hi
  have h1 := List.all_eq_true.1 hl i (List.mem_range.2 hi)
  exact reach_all hc n [n] (fun j hj => by rw [List.mem_singleton.1 hj]; exact hn) i (by simpa using h1)
/-- Whatever the order of the others, the last operation comes behind them all. -/
theorem wp_region_slotsM {id : Nat} {a : Act} {w : World} (n : Nat) (hm : P.follows .mixedOrders = true) (hback : backOkG ops = true) (hsz : ops.size = n + 1) (hl : lastO ops n = true) (mk : (Nat → Value) → Act) (K : (Nat → Bool) → (Nat → Value) → World → Prop) (E : (Nat → Value) → World → Prop)
    (hstep : ∀ i o, i < n → ops[i]? = some o → ∀ (L : Nat → Bool) (x : Nat → Value) (w : World), (∀ e ∈ o.after, Region.binds .any e = true → L e.on = true) → L i = false → K L x w →
      (Region.wanted o (yielded ops (mk x).tmps) = true ∧ o.wp P (mk x) w (fun a' w' => ∃ v, a' = mk (upd x i v) ∧ K (upd L i true) (upd x i v) w') Q) ∨
      (Region.wanted o (yielded ops (mk x).tmps) = false ∧ ∃ v, (mk x).put o.dst undef = mk (upd x i v) ∧ K (upd L i true) (upd x i v) w))
    (hlast : ∀ o, ops[n]? = some o → ∀ (L : Nat → Bool) (x : Nat → Value) (w : World), (∀ j, j < n → L j = true) → K L x w → Region.wanted o (yielded ops (mk x).tmps) = true ∧ o.wp P (mk x) w (fun a' w' => ∃ v, a' = mk (upd x n v) ∧ E (upd x n v) w') Q)
    (hend : ∀ x w, E x w → Q .normal (mk x) w)
    (x0 : Nat → Value) (h0 : a = mk x0) (hS : K (fun _ => false) x0 w.drew) : (Code.region id ops true).wp P Q a w := by
  refine wp_region_slotsJ hm hback mk (fun L x w => ClosO ops L ∧ (L n = true → (∀ j, j < n → L j = true) ∧ E x w) ∧ (L n = false → K L x w)) ?_ ?_ x0 h0 ⟨(fun j o _ h => by cases h), (fun h => by cases h), fun _ => hS⟩
  · rintro i o ho L x w hd hi ⟨hc, hpost, hpre⟩
    have hilt : i < ops.size := (Array.getElem?_eq_some_iff.1 ho).1
    have hcl : ClosO ops (upd L i true) := by
      intro j o' ho' hj e he hb
      by_cases hei : e.on = i
      · rw [hei, upd_self]
      · rw [upd_ne _ _ hei]
        by_cases hji : j = i
        · subst hji
          rw [ho] at ho'
          obtain rfl := Option.some.inj ho'
          exact hd e he hb
        · rw [upd_ne _ _ hji] at hj
          exact hc j o' ho' hj e he hb
    by_cases hin : i = n
    · subst hin
      have hall := last_all hcl hl (upd_self _ _ _)
      have hall' : ∀ j, j < i → L j = true := fun j hj => by have := hall j hj; rwa [upd_ne _ _ (by omega)] at this
      obtain ⟨hw, h3⟩ := hlast o ho L x w hall' (hpre hi)
      refine .inl ⟨hw, Oper.wp_mono (fun a' w' h' => ?_) h3⟩
      obtain ⟨v, rfl, he⟩ := h'
      exact ⟨v, rfl, hcl, fun _ => ⟨hall, he⟩, fun h => by rw [upd_self] at h; cases h⟩
    · have hln : L n = false := by
        cases h : L n with
        | false => rfl
        | true => have := (hpost h).1 i (by omega); rw [this] at hi; cases hi
      have hupn : upd L i true n = false := by rw [upd_ne _ _ (fun e => hin e.symm)]; exact hln
      rcases hstep i o (by omega) ho L x w hd hi (hpre hln) with ⟨hw, h3⟩ | ⟨hw, v, hv, hf⟩
      · refine .inl ⟨hw, Oper.wp_mono (fun a' w' h' => ?_) h3⟩
        obtain ⟨v, rfl, hf⟩ := h'
        exact ⟨v, rfl, hcl, (fun h => by rw [hupn] at h; cases h), fun _ => hf⟩
      · exact .inr ⟨hw, v, hv, hcl, (fun h => by rw [hupn] at h; cases h), fun _ => hf⟩
  · rintro L x w hall ⟨_, hpost, _⟩
    exact hend x w (hpost (hall n (by omega))).2
end
end Go.Proofs.Ytdjpeebekpjiiaa
/- A frame more in a draft. -/
namespace Go.Proofs.Ytdjpeebekpjiiaa.Dk
open Go Go.RowKit
set_option linter.unusedVariables false
set_option linter.unusedSimpArgs false
/-- The parts of a draft: a row of its own; each part's bytes lie below B or are its own. -/
def PartW (w : World) (B : Nat) (u : Value) (l : List UInt8) : Prop := w.ownsRow B 5 1 u l.length (bvs l) ∨ ∃ g off c, u = .slice (some ⟨g, off, none⟩) l.length c ∧ g < B ∧ w.rangeAt g off (bvs l)
def PartsD (w : World) (B : Nat) (v : Value) (L : List (List UInt8)) : Prop :=
  ∃ vs : List Value, vs.length = L.length ∧ w.ownsRow B 37 1 v L.length vs ∧ ∀ (j : Nat) l u, L[j]? = some l → vs[j]? = some u → PartW w B u l
theorem PartsD.nil (w : World) (B : Nat) : PartsD w B (.slice none 0 0) [] := ⟨[], rfl, ⟨rfl, .inl ⟨rfl, rfl⟩⟩, fun j l u h => by simp at h⟩
theorem PartW.one {w : World} {B : Nat} {u : Value} {l : List UInt8} (h : PartW w B u l) : u.oneCell' = true := by
  rcases h with h | ⟨g, off, c, rfl, _⟩
  · obtain ⟨ao, c, rfl⟩ := own_slK h
    rfl
  · rfl
theorem PartW.keep {w w' : World} {B : Nat} {u : Value} {l : List UInt8} (h : PartW w B u l) (h1 : ∀ k, k < B → w'.heap[k]? = w.heap[k]?) (h2 : ∀ k, u.ownBlock = some k → k < w.heap.size → (∃ cs fr, w.heap[k]? = some (.cells cs 5 fr)) → w'.heap[k]? = w.heap[k]?) : PartW w' B u l := by
  rcases h with h | ⟨g, off, c, rfl, hg, hr⟩
  · refine .inl (own_keepK h fun b hb hlt => h2 b hb hlt ?_)
    rcases h.2 with ⟨rfl, _⟩ | ⟨g, cap, cur, rfl, _, hh, _⟩
    · simp [Value.ownBlock] at hb
    · have hb' : g = b := by simpa [Value.ownBlock] using hb
      subst hb'
      exact ⟨_, _, hh⟩
  · refine .inr ⟨g, off, c, rfl, hg, fun j u hj => ?_⟩
    rw [World.cell?_of_block (w := w) (h1 g hg)]
    exact hr j u hj
theorem PartW.sl {w : World} {B : Nat} {u : Value} {l : List UInt8} (h : PartW w B u l) : ∃ ao c, u = .slice ao l.length c ∧ Sl w (.slice ao l.length c) l := by
  rcases h with h | ⟨g, off, c, rfl, hg, hr⟩
  · rcases h.2 with ⟨rfl, h0⟩ | ⟨g, cap, cur, rfl, hb, hh, h3⟩
    · have hl0 : l = [] := List.length_eq_zero_iff.1 h0
      subst hl0
      exact ⟨none, 0, rfl, _, _, rfl, (fun _ => rfl), fun a h => by cases h⟩
    · refine ⟨_, _, rfl, _, _, rfl, (fun e => by cases e), fun a ha j u hu => ?_⟩
      cases ha
      exact h.cells rfl j u hu
  · exact ⟨_, _, rfl, range_sl rfl hr⟩
theorem PartsD.below {w w' : World} {B : Nat} {v : Value} {L : List (List UInt8)} (h : PartsD w B v L) (hb : Below w.heap.size w w') (hB : B ≤ w.heap.size) : PartsD w' B v L := by
  obtain ⟨vs, h1, h2, h3⟩ := h
  exact ⟨vs, h1, own_belowK h2 hb, fun j l u hl hu => (h3 j l u hl hu).keep (fun k hk => hb.block k (by omega)) fun k _ hk _ => hb.block k hk⟩
theorem PartsD.parts {w : World} {B : Nat} {ao : Option Addr} {c : Nat} {L : List (List UInt8)} (h : PartsD w B (.slice ao L.length c) L) : Parts w (.slice ao L.length c) L := by
  obtain ⟨vs, h1, h2, h3⟩ := h
  refine ⟨ao, c, rfl, fun j hj => ?_⟩
  have hvj : vs[j]? = some vs[j] := List.getElem?_eq_getElem (by omega)
  have hlj : L[j]? = some L[j] := List.getElem?_eq_getElem hj
  obtain ⟨g, rfl, _, _, hc⟩ := own_cellK h2 hvj
  obtain ⟨aj, cj, e, hs⟩ := (h3 j _ _ hlj hvj).sl
  refine ⟨_, rfl, aj, cj, ?_, ?_⟩
  · rw [Addr.add_mid, Nat.zero_add, hc, e]
    simp [List.getD, hj]
  · rw [show L.getD j [] = L[j] by simp [List.getD, hj]]
    exact hs
/-- Three parts more. -/
theorem PartsD.snoc3 {w w' : World} {B : Nat} {v v' : Value} {L : List (List UInt8)} {vs : List Value} {a b c : Value} {la lb lc : List UInt8} (h1 : vs.length = L.length) (h2 : w.ownsRow B 37 1 v L.length vs) (h3 : ∀ (j : Nat) l u, L[j]? = some l → vs[j]? = some u → PartW w B u l)
    (hown : w'.ownsRow B 37 1 v' (L.length + 3) (vs ++ [a, b, c])) (ha : PartW w' B a la) (hb : PartW w' B b lb) (hc : PartW w' B c lc) (hk1 : ∀ k, k < B → w'.heap[k]? = w.heap[k]?) (hk2 : ∀ k, k < w.heap.size → (∃ cs fr, w.heap[k]? = some (.cells cs 5 fr)) → w'.heap[k]? = w.heap[k]?) : PartsD w' B v' (L ++ [la, lb, lc]) := by
  refine ⟨vs ++ [a, b, c], by simp [h1], by simpa using hown, fun j l u hl hu => ?_⟩
  by_cases hj : j < L.length
  · rw [List.getElem?_append_left hj] at hl
    rw [List.getElem?_append_left (by omega)] at hu
    exact (h3 j l u hl hu).keep hk1 fun k hk1 hk2' hk3 => hk2 k hk2' hk3
  · rw [List.getElem?_append_right (by omega)] at hl
    rw [List.getElem?_append_right (by omega), h1] at hu
    obtain ⟨i, hi⟩ : ∃ i, i = j - L.length := ⟨_, rfl⟩
    rw [← hi] at hl hu
    match i, hl, hu with
    | 0, hl, hu => simp at hl hu; subst hl hu; exact ha
    | 1, hl, hu => simp at hl hu; subst hl hu; exact hb
    | 2, hl, hu => simp at hl hu; subst hl hu; exact hc
    | i + 3, hl, hu => simp at hl
def adF (f : Nat) (pv : Value) (rest at_ k : Nat) (dv : Value) (hd : List UInt8) (C : Nat) (j : Nat) (q : Value) (W : World) : Prop := match j with
  | 0 | 1 | 2 | 14 => q = .pointer (some ⟨f, 0, none⟩)
  | 3 | 15 => q = .pointer (some ⟨f, 4, none⟩)
  | 4 => q = pv
  | 5 => q = .int .i64 (rest : Int)
  | 6 => W.ownsRow C 5 1 q rest (bvs (List.replicate rest 0))
  | 7 => q = .int .u64 (at_ : Int)
  | 8 => q = .int .i64 (k : Int)
  | 9 | 11 => q = dv
  | 10 => W.ownsRow C 5 1 q 9 (bvs hd)
  | _ => True
structure adK (f : Nat) (pv : Value) (rest at_ k : Nat) (dv : Value) (hd : List UInt8) (wo : World) (B n0 : Nat) (vs : List Value) (L : Nat → Bool) (y : Nat → Value) (w : World) : Prop where
  vals : ∀ j, L j = true → adF f pv rest at_ k dv hd wo.heap.size j (y j) w
  low : Below B wo w
  row : w.heap[f]? = wo.heap[f]?
  pre : L 13 = false → Below wo.heap.size wo w ∧ (L 12 = true → L 6 = true ∧ L 10 = true ∧ ∃ g, y 12 = .slice (some ⟨g, 0, none⟩) 3 3 ∧ w.heap[g]? = some (.cells #[y 6, y 10, dv] 37 (0, 0)))
  post : L 13 = true → L 6 = true ∧ L 10 = true ∧ L 12 = true ∧ w.ownsRow B 37 1 (y 13) (n0 + 3) (vs ++ [y 6, y 10, dv]) ∧ ∀ k, k < wo.heap.size → some k ≠ pv.ownBlock → w.heap[k]? = wo.heap[k]?
theorem adF.below {f : Nat} {pv : Value} {rest at_ k : Nat} {dv : Value} {hd : List UInt8} {C j : Nat} {q : Value} {W W' : World} (h : adF f pv rest at_ k dv hd C j q W) (hb : Below W.heap.size W W') : adF f pv rest at_ k dv hd C j q W' := by
  match j, h with
  | 0, h => exact h
  | 1, h => exact h
  | 2, h => exact h
  | 3, h => exact h
  | 4, h => exact h
  | 5, h => exact h
  | 6, h => exact own_belowK h hb
  | 7, h => exact h
  | 8, h => exact h
  | 9, h => exact h
  | 10, h => exact own_belowK h hb
  | 11, h => exact h
  | 12, _ => trivial
  | 13, _ => trivial
  | 14, h => exact h
  | 15, h => exact h
  | j + 16, _ => trivial
theorem adK.step {f : Nat} {pv : Value} {rest at_ k : Nat} {dv : Value} {hd : List UInt8} {wo : World} {B n0 : Nat} {vs : List Value} {L : Nat → Bool} {y : Nat → Value} {w w' : World} (h : adK f pv rest at_ k dv hd wo B n0 vs L y w) {i : Nat} {q : Value} (hi : L i = false) (h12 : i ≠ 12) (h13 : i ≠ 13) (hb : Below w.heap.size w w') (hB : B ≤ wo.heap.size) (hf : f < wo.heap.size)
    (hq : adF f pv rest at_ k dv hd wo.heap.size i q w') : adK f pv rest at_ k dv hd wo B n0 vs (Go.Proofs.Ytdjpeebekpjiiaa.upd L i true) (Go.Proofs.Ytdjpeebekpjiiaa.upd y i q) w' := by
  have hw := h.low.size
  refine ⟨fun j hj => ?_, h.low.trans (hb.mono (by omega)), (hb.block f (by omega)).trans h.row, fun e13 => ?_, fun e13 => ?_⟩
  · by_cases hji : j = i
    · subst hji; rw [upd_self]; exact hq
    · rw [upd_ne _ _ hji] at hj ⊢
      exact (h.vals j hj).below hb
  · rw [upd_ne _ _ (Ne.symm h13)] at e13
    obtain ⟨p1, p2⟩ := h.pre e13
    refine ⟨p1.trans (hb.mono p1.size), fun e12 => ?_⟩
    rw [upd_ne _ _ (Ne.symm h12)] at e12
    obtain ⟨e6, e10, g, e, hr⟩ := p2 e12
    have n6 : i ≠ 6 := fun e => by rw [e, e6] at hi; cases hi
    have n10 : i ≠ 10 := fun e => by rw [e, e10] at hi; cases hi
    exact ⟨by rw [upd_ne _ _ (Ne.symm n6)]; exact e6, by rw [upd_ne _ _ (Ne.symm n10)]; exact e10, g, by rw [upd_ne _ _ (Ne.symm h12)]; exact e, by rw [upd_ne _ _ (Ne.symm n6), upd_ne _ _ (Ne.symm n10)]; exact (hb.block g (lt_of_row hr)).trans hr⟩
  · rw [upd_ne _ _ (Ne.symm h13)] at e13
    obtain ⟨e6, e10, e12, p2, p3⟩ := h.post e13
    have n6 : i ≠ 6 := fun e => by rw [e, e6] at hi; cases hi
    have n10 : i ≠ 10 := fun e => by rw [e, e10] at hi; cases hi
    rw [upd_ne _ _ (Ne.symm h13), upd_ne _ _ (Ne.symm n6), upd_ne _ _ (Ne.symm n10), upd_ne _ _ (Ne.symm h12), upd_ne _ _ (Ne.symm n6), upd_ne _ _ (Ne.symm n10)]
    exact ⟨e6, e10, e12, own_belowK p2 hb, fun k hk hne => (hb.block k (by omega)).trans (p3 k hk hne)⟩
theorem adK.built {f : Nat} {pv : Value} {rest at_ k : Nat} {dv : Value} {hd : List UInt8} {wo : World} {B n0 : Nat} {vs : List Value} {L : Nat → Bool} {y : Nat → Value} {w w' : World} {q : Value} (h : adK f pv rest at_ k dv hd wo B n0 vs L y w) (hi : L 12 = false) (h13 : L 13 = false) (e6 : L 6 = true) (e10 : L 10 = true) (hb : Below w.heap.size w w') (hB : B ≤ wo.heap.size) (hf : f < wo.heap.size)
    {gb : Nat} (hq : q = .slice (some ⟨gb, 0, none⟩) 3 3) (hr : w'.heap[gb]? = some (.cells #[y 6, y 10, dv] 37 (0, 0))) : adK f pv rest at_ k dv hd wo B n0 vs (Go.Proofs.Ytdjpeebekpjiiaa.upd L 12 true) (Go.Proofs.Ytdjpeebekpjiiaa.upd y 12 q) w' := by
  have hw := h.low.size
  refine ⟨fun j hj => ?_, h.low.trans (hb.mono (by omega)), (hb.block f (by omega)).trans h.row, fun e13 => ?_, fun e13 => ?_⟩
  · by_cases hji : j = 12
    · subst hji; trivial
    · rw [upd_ne _ _ hji] at hj ⊢
      exact (h.vals j hj).below hb
  · obtain ⟨p1, p2⟩ := h.pre h13
    refine ⟨p1.trans (hb.mono p1.size), fun _ => ⟨by rw [upd_ne _ _ (by decide)]; exact e6, by rw [upd_ne _ _ (by decide)]; exact e10, gb, by rw [upd_self]; exact hq, by rw [upd_ne _ _ (by decide), upd_ne _ _ (by decide)]; exact hr⟩⟩
  · rw [upd_ne _ _ (by decide), h13] at e13
    cases e13
theorem adK.grew {f : Nat} {pv : Value} {rest at_ k : Nat} {dv : Value} {hd : List UInt8} {wo : World} {B n0 : Nat} {vs : List Value} {L : Nat → Bool} {y : Nat → Value} {w w' : World} {v' : Value} (h : adK f pv rest at_ k dv hd wo B n0 vs L y w) (hi : L 13 = false) (e6 : L 6 = true) (e10 : L 10 = true) (e12 : L 12 = true)
    (hg : Grew w w' B 37 1 pv v' (n0 + 3) (vs ++ [y 6, y 10, dv])) (hown : w.ownsRow B 37 1 pv n0 vs) (hB : B ≤ wo.heap.size) (hf : f < wo.heap.size) (hfn : some f ≠ pv.ownBlock) : adK f pv rest at_ k dv hd wo B n0 vs (Go.Proofs.Ytdjpeebekpjiiaa.upd L 13 true) (Go.Proofs.Ytdjpeebekpjiiaa.upd y 13 v') w' := by
  obtain ⟨own', gr, hat⟩ := hg
  obtain ⟨p1, p2⟩ := h.pre hi
  have hw := p1.size
  have hkp : ∀ {x : Value} {m : Nat} {xs : List Value} {C : Nat}, w.ownsRow C 5 1 x m xs → w'.ownsRow C 5 1 x m xs := fun hx => own_keepK hx fun b hb hlt => gr.block b hlt (fun e => by
    rcases hx.2 with ⟨rfl, _⟩ | ⟨g, cap, cur, rfl, _, hh, _⟩
    · simp [Value.ownBlock] at hb
    · have hb' : g = b := by simpa [Value.ownBlock] using hb
      subst hb'
      exact own_neK hown hh (by decide) e)
  refine ⟨fun j hj => ?_, h.low.grown gr (by omega) (fun b e => (hown.lt b e).1), (gr.block f (by omega) hfn).trans h.row, fun e13 => ?_, fun _ => ⟨by rw [upd_ne _ _ (by decide)]; exact e6, by rw [upd_ne _ _ (by decide)]; exact e10, by rw [upd_ne _ _ (by decide)]; exact e12, by rw [upd_self, upd_ne _ _ (by decide), upd_ne _ _ (by decide)]; exact own', fun q hq hne => (gr.block q (by omega) hne).trans (p1.block q hq)⟩⟩
  · by_cases hji : j = 13
    · subst hji; trivial
    · rw [upd_ne _ _ hji] at hj ⊢
      have hv := h.vals j hj
      match j, hv with
      | 0, h => exact h
      | 1, h => exact h
      | 2, h => exact h
      | 3, h => exact h
      | 4, h => exact h
      | 5, h => exact h
      | 6, h => exact hkp h
      | 7, h => exact h
      | 8, h => exact h
      | 9, h => exact h
      | 10, h => exact hkp h
      | 11, h => exact h
      | 12, _ => trivial
      | 13, _ => trivial
      | 14, h => exact h
      | 15, h => exact h
      | j + 16, _ => trivial
  · rw [upd_self] at e13; cases e13
theorem PartsD.other {w w' : World} {B f : Nat} {v : Value} {L : List (List UInt8)} {cs : Array Value} {fr : Nat × Nat} (h : PartsD w B v L) (hk : ∀ q, q ≠ f → w'.heap[q]? = w.heap[q]?) (hf : B ≤ f) (hd : w.heap[f]? = some (.cells cs 124 fr)) : PartsD w' B v L := by
  obtain ⟨vs, h1, h2, h3⟩ := h
  have hnf : ∀ {x : Value} {e : TypeId} {sz m : Nat} {xs : List Value} {C : Nat}, w.ownsRow C e sz x m xs → 124 ≠ e → ∀ b, x.ownBlock = some b → b ≠ f := fun h hne b hb hbf => own_neK h hd hne (by rw [hb, hbf])
  refine ⟨vs, h1, own_keepK h2 fun b hb _ => hk b (hnf h2 (by decide) b hb), fun j l u hl hu => (h3 j l u hl hu).keep (fun q hq => hk q (by omega)) fun q hq _ ⟨cs', fr', hc⟩ => hk q fun e => ?_⟩
  rw [e, hd] at hc
  injection hc with hc
  injection hc with _ hc _
  exact absurd hc (by decide)
theorem slot_appendW {P : Program} {Q : Exit → Act → World → Prop} {o : Oper} {a : Act} {w w' : World} {K : Act → World → Prop} {s x : Operand} {t tx : TypeId} {v xv v' : Value}
    (ho : o.op = .call { callee := .builtin .append, args := #[s, x], argTypes := #[t, tx] }) (hs : a.eval s = v) (hx : a.eval x = xv) (hr : (Builtin.append_ #[t, tx] o.type #[v, xv]).run P w = .ok v' w') (h : K (a.put o.dst v') w') : o.wp P a w K Q := by
  unfold Oper.wp execOp
  simp only [ho, resolve, invoke, builtin, Sem.run_bind, Sem.run_pure, Result.andThen_ok, List.map_toArray, List.map_cons, List.map_nil, hs, hx, hr]
  exact h
theorem slot_skipW {P : Program} {Q : Exit → Act → World → Prop} {o : Oper} {a : Act} {w w' : World} {K : Act → World → Prop} (hr : (execOp a.eval o).run P w = .ok .skip w') (h : K (a.put o.dst undef) w') : o.wp P a w K Q := by
  unfold Oper.wp
  rw [hr]
  exact h
theorem slot_makeW {P : Program} {Q : Exit → Act → World → Prop} {o : Oper} {a : Act} {w w' : World} {K : Act → World → Prop} {l c : Operand} {t : TypeId} {lv cv v : Value}
    (ho : o.op = .makeSlice t l c) (hl : a.eval l = lv) (hc : a.eval c = cv) (hr : (Instr.makeSlice t lv cv).run P w = .ok v w') (h : K (a.put o.dst v) w') : o.wp P a w K Q := by
  unfold Oper.wp execOp
  simp only [ho, hl, hc, Sem.run_bind, hr, Result.andThen_ok, Sem.run_pure]
  exact h
theorem runWithW {P : Program} {o : Oper} {a : Act} {w : World} {r : Result Next} (ev : Operand → Value) (h1 : (execOp a.eval o).run P w = (execOp ev o).run P w) (h2 : (execOp ev o).run P w = r) : (execOp a.eval o).run P w = r := h1.trans h2
theorem DfAt.setP {w : World} {f start endp fp room : Nat} {pv : Value} (h : DfAt w f start endp fp room pv) (v : Value) : DfAt (w.setCell ⟨f, 4, none⟩ v) f start endp fp room v := Go.Joins.block_setCell (i := 4) h v
theorem DfAt.setE {w : World} {f start endp fp room : Nat} {pv : Value} (h : DfAt w f start endp fp room pv) (e : Nat) : DfAt (w.setCell ⟨f, 1, none⟩ (.int .u64 (e : Int))) f start e fp room pv := Go.Joins.block_setCell (i := 1) h _
theorem DfAt.setF {w : World} {f start endp fp room : Nat} {pv : Value} (h : DfAt w f start endp fp room pv) (e : Nat) : DfAt (w.setCell ⟨f, 2, none⟩ (.int .u64 (e : Int))) f start endp e room pv := Go.Joins.block_setCell (i := 2) h _
theorem Try.infoBytesW : (Try.prog.info? 37).map (fun i => (i.zero, i.size, i.bytes)) = some (some (.slice none 0 0), 1, 24) := by kernel_rfl
end Go.Proofs.Ytdjpeebekpjiiaa.Dk
/- A frame more in a draft: the walk. -/
namespace Go.Proofs.Ytdjpeebekpjiiaa.Dk
open Go Go.RowKit
set_option linter.unusedVariables false
set_option linter.unusedSimpArgs false
set_option maxRecDepth 100000 in
set_option maxHeartbeats 8000000 in
theorem wadd_no {w : World} {f start endp fp room : Nat} {pv : Value} (hD : DfAt w f start endp fp room pv) {k : Nat} {g off n cc : Nat} (hn : n ≤ 2039)
    (hs : start ≤ endp) (he : endp ≤ 4611686018427387904) (hr : room < endp + restW endp n + 9 + n - start) :
    Calls Try.prog 50 #[.pointer (some ⟨f, 0, none⟩), .int .i64 (k : Int), .slice (some ⟨g, off, none⟩) n cc] w fun e w' => e = .returned (.bool false) ∧ ∃ q, w' = w.drewN q := by
  have RA := wrest_any endp n (by omega) (by omega) w
  have hrl : restW endp n ≤ 2048 := by unfold restW toSeg; split <;> omega
  obtain ⟨rest, hrest⟩ : ∃ rest, rest = restW endp n := ⟨_, rfl⟩
  rw [← hrest] at RA hrl hr
  obtain ⟨c0, c1, c2, c3, c4⟩ := hD.cells
  have hri : (room : Int) < (endp : Int) + (rest : Int) + 9 + (n : Int) - (start : Int) := by omega
  have HRA := Lib.hid RA
  clear RA hD hrest hr
  go_enter Try.func50, Try.ntmps50
  go_wp2_with fail
  refine HRA.out.mono ?_
  rintro e w2 ⟨rfl, rfl⟩
  go_wp2_with fail
  go_quiet (fail)
  go_wp2_with fail
  go_ret
  exact ⟨rfl, _, rfl⟩
set_option maxRecDepth 100000 in
set_option maxHeartbeats 8000000 in
theorem wadd_yes {w : World} {B f start endp fp room : Nat} {ao : Option Addr} {pc : Nat} {L : List (List UInt8)} (hD : DfAt w f start endp fp room (.slice ao L.length pc)) (hP : PartsD w B (.slice ao L.length pc) L) (hB : B ≤ w.heap.size) (hf : B ≤ f) {k : Nat} (hk : k < 256) {d : List UInt8} {g off n cc : Nat} (hn : d.length = n) (hn2 : n ≤ 2039) (hg : g < B) (hr : w.rangeAt g off (bvs d))
    (hs : start ≤ endp) (he : endp ≤ 4611686018427387904) (hL : L.length ≤ 1000) (hroom : endp + restW endp n + 9 + n - start ≤ room) (hro : room ≤ 1000000000) :
    Calls Try.prog 50 #[.pointer (some ⟨f, 0, none⟩), .int .i64 (k : Int), .slice (some ⟨g, off, none⟩) n cc] w fun e w' => e = .returned (.bool true) ∧ ∃ ao' pc', DfAt w' f start (endp + restW endp n + 9 + n) (if L.length = 0 then endp + restW endp n else fp) room (.slice ao' (L.length + 3) pc') ∧
      PartsD w' B (.slice ao' (L.length + 3) pc') (L ++ [List.replicate (restW endp n) 0, headW smW (endp + restW endp n) ⟨k, d⟩, d]) ∧ Below B w w' := by
  have RA := wrest_any endp n (by omega) (by omega) w
  have hrl : restW endp n ≤ 2048 := by unfold restW toSeg; split <;> omega
  obtain ⟨rest, hrest⟩ : ∃ rest, rest = restW endp n := ⟨_, rfl⟩
  rw [← hrest] at RA hrl hroom ⊢
  obtain ⟨c0, c1, c2, c3, c4⟩ := hD.cells
  have hri : ¬ (room : Int) < (endp : Int) + (rest : Int) + 9 + (n : Int) - (start : Int) := by omega
  have f2 : w.frozen? ⟨f, 2, none⟩ = false := frozen_of_row w f 2 _ _ hD
  have HRA := Lib.hid RA
  have HD := Lib.hid hD
  have HP := Lib.hid hP
  have HR := Lib.hid hr
  have fpN := Lib.hid (rfl : (if L.length = 0 then endp + rest else fp) = if L.length = 0 then endp + rest else fp)
  obtain ⟨fp2, hfp2⟩ : ∃ z, z = if L.length = 0 then endp + rest else fp := ⟨_, rfl⟩
  rw [← hfp2]
  have HFP := Lib.hid hfp2
  clear RA hD hP hr hrest hroom hfp2 fpN
  go_enter Try.func50, Try.ntmps50
  go_wp2_with fail
  refine HRA.out.mono ?_
  rintro e w2 ⟨rfl, rfl⟩
  go_wp2_with fail
  go_quiet (fail)
  obtain ⟨wq, hwq⟩ : ∃ wq, wq = w.drewN nq := ⟨_, rfl⟩
  rw [← hwq]
  have bq : Below w.heap.size w wq := by rw [hwq]; exact below_drewN (Below.refl _ _) _
  have HDq := Lib.hid (HD.out.below bq (Nat.le_refl _))
  have HPq := Lib.hid (HP.out.below bq hB)
  have HRq := Lib.hid (range_below HR.out bq (Nat.le_refl _))
  have BQ := Lib.hid (show Below B w wq from bq.mono hB)
  have zq := bq.size
  obtain ⟨c0, c1, c2, c3, c4⟩ := HDq.out.cells
  have f2 : wq.frozen? ⟨f, 2, none⟩ = false := frozen_of_row wq f 2 _ _ HDq.out
  have ZQ := Lib.hid zq
  clear hwq bq zq
  obtain ⟨i0, hi0, hz0, hz1, hz2⟩ := info_parts Try.infoU8
  obtain ⟨i1, hj0, hj1, hj2, hj3⟩ := info_parts Try.infoBytesW
  have HI0 := Lib.hid hi0
  have HZ0 := Lib.hid hz0
  have HZ1 := Lib.hid hz1
  have HZ2 := Lib.hid hz2
  have HJ0 := Lib.hid hj0
  have HJ1 := Lib.hid hj1
  have HJ2 := Lib.hid hj2
  have HJ3 := Lib.hid hj3
  clear hi0 hz0 hz1 hz2 hj0 hj1 hj2 hj3
  obtain ⟨A, hAA⟩ : ∃ A, A = endp + rest := ⟨_, rfl⟩
  have HG := Lib.hid hg
  have HA := Lib.hid (show A < 18446744073709551616 by omega)
  by_cases h0 : L.length = 0
  · have h0i : (L.length : Int) = 0 := by omega
    have h0b : (((L.length : Nat) : Int) == 0) = true := by simpa using h0
    have hfp : fp2 = A := by rw [HFP.out, if_pos h0, hAA]
    obtain ⟨wv, hwx⟩ : ∃ wv, wv = wq.setCell ⟨f, 2, none⟩ (.int .u64 (A : Int)) := ⟨_, rfl⟩
    have hAi : (endp : Int) + (rest : Int) = (A : Int) := by omega
    have hDx : DfAt wv f start endp fp2 room (.slice ao L.length pc) := by rw [hwx, hfp]; exact HDq.out.setF A
    have hothq : ∀ q, q ≠ f → wv.heap[q]? = wq.heap[q]? := fun q hq => by rw [hwx]; exact Below.heap_setCell wq ⟨f, 2, none⟩ _ q hq
    have hPx : PartsD wv B (.slice ao L.length pc) L := HPq.out.other hothq hf HDq.out
    have hBx : Below B w wv := by rw [hwx]; exact BQ.out.setCell (p := ⟨f, 2, none⟩) hf _
    have hsz : wv.heap.size = wq.heap.size := by rw [hwx]; simp
    have hRx : wv.rangeAt g off (bvs d) := fun j u hj => by
      rw [World.cell?_of_block (w := wq) (a := ⟨g, off + j, none⟩) (hothq g (by omega))]
      exact HRq.out j u hj
    have HBX := Lib.hid (show B ≤ wv.heap.size from (by have := ZQ.out; omega))
    have HFX := Lib.hid (show f < wv.heap.size from lt_of_row hDx)
    have HDX := Lib.hid (show DfAt wv f start endp fp2 room (.slice ao 0 pc) from (by rw [h0] at hDx; exact hDx))
    have HRX := Lib.hid (show wv.rangeAt g off (bvs d) from hRx)
    obtain ⟨vs, hv1, hv2, hv3⟩ := (show PartsD wv B (.slice ao L.length pc) L from hPx)
    have HVL := Lib.hid hv1
    have HOX := Lib.hid (show wv.ownsRow B 37 1 (.slice ao 0 pc) 0 vs from (by rw [h0] at hv2; exact hv2))
    have HVP := Lib.hid hv3
    have HOL := Lib.hid (show wv.ownsRow B 37 1 (.slice ao 0 pc) L.length vs from (by have h := hv2; rw [show Value.slice ao L.length pc = Value.slice ao 0 pc by rw [h0]] at h; exact h))
    have BQX := Lib.hid (show Below B w wv from hBx)
    have HFN := Lib.hid (show some f ≠ (Value.slice ao 0 pc).ownBlock from own_neK HOX.out HDX.out (by decide))
    have HLN := Lib.hid (fun (W : World) (v : Value) (xs : List Value) (h : W.ownsRow B 37 1 v (0 + 3) xs) => (show W.ownsRow B 37 1 v (L.length + 3) xs from (by rw [h0]; exact h)))
    clear hv1 hv2 hv3
    have HWX := Lib.hid hwx
    have HAI := Lib.hid hAi
    have HAA := Lib.hid hAA
    clear hwx hDx hothq hPx hBx hsz hRx hfp hAi hAA
    go_upto_region 8 with fail
    simp only [HAI.out]
    rw [← HWX.out]
    refine wp_region_slotsM 16 (by kernel_rfl) (by kernel_rfl) (by kernel_rfl) (by kernel_rfl) (fun y => ⟨#[Value.pointer (some { block := f, off := 0 }), Value.int IntKind.i64 ↑k, Value.slice (some { block := g, off := off }) n cc, undef, undef, undef, Value.bool false, Value.int IntKind.i64 ↑rest, Value.int IntKind.u64 ↑A, Value.int IntKind.u64 (↑A + 9 + ↑n), Value.pointer (some { block := f, off := 0 }), Value.pointer (some { block := f, off := 0 }), Value.pointer (some { block := f, off := 1 }), Value.int IntKind.u64 ↑endp, Value.slice (some { block := g, off := off }) n cc, Value.int IntKind.i64 ↑n, Value.int IntKind.i64 ↑rest, Value.pointer (some { block := f, off := 0 }), Value.pointer (some { block := f, off := 0 }), Value.pointer (some { block := f, off := 1 }), Value.int IntKind.u64 ↑endp, Value.int IntKind.i64 ↑rest, Value.int IntKind.u64 ↑rest, Value.int IntKind.u64 ↑A, Value.int IntKind.u64 ↑A, Value.int IntKind.u64 (↑A + 9), Value.slice (some { block := g, off := off }) n cc, Value.int IntKind.i64 ↑n, Value.int IntKind.u64 ↑n, Value.int IntKind.u64 (↑A + 9 + ↑n), Value.int IntKind.u64 (↑A + 9 + ↑n), Value.pointer (some { block := f, off := 0 }), Value.pointer (some { block := f, off := 0 }), Value.pointer (some { block := f, off := 0 }), Value.int IntKind.u64 ↑start, Value.int IntKind.u64 (↑A + 9 + ↑n - ↑start), Value.pointer (some { block := f, off := 0 }), Value.pointer (some { block := f, off := 0 }), Value.pointer (some { block := f, off := 3 }), Value.int IntKind.u64 ↑room, Value.bool (decide ((room : Int) < (A : Int) + 9 + (n : Int) - (start : Int))), Value.pointer (some { block := f, off := 0 }), Value.pointer (some { block := f, off := 0 }), Value.pointer (some { block := f, off := 4 }), Value.slice ao 0 pc, Value.int IntKind.i64 0, Value.bool true, Value.pointer (some { block := f, off := 0 }), Value.int IntKind.u64 ↑A, Value.pointer (some { block := f, off := 0 }), Value.pointer (some { block := f, off := 2 }), y 0, y 1, y 2, y 3, y 4, y 5, y 6, y 7, y 8, y 9, y 10, y 11, y 12, y 13, y 14, y 15, undef, undef, undef, undef], []⟩) (adK f (.slice ao 0 pc) rest A k (.slice (some ⟨g, off, none⟩) n cc) (headW smW A ⟨k, d⟩) wv B 0 vs) (fun y w' => ∃ ao' pc', y 13 = .slice ao' (0 + 3) pc' ∧ DfAt w' f start endp fp2 room (.slice ao' (0 + 3) pc') ∧ PartsD w' B (.slice ao' (0 + 3) pc') (L ++ [List.replicate rest 0, headW smW A ⟨k, d⟩, d]) ∧ Below B wv w') ?_ ?_ ?_ (fun _ => undef) rfl ⟨(fun j h => by cases h), below_drewN (Below.refl _ _) 1, rfl, fun _ => ⟨below_drewN (Below.refl _ _) 1, fun h => by cases h⟩, fun h => by cases h⟩
    · intro i' o hi16 ho M y wx hd hi' hK
      match i', ho with
      | 0, ho =>
        obtain rfl := Option.some.inj ho
        exact .inl ⟨rfl, slot_run (v := .pointer (some ⟨f, 0, none⟩)) (w' := wx) rfl ⟨_, rfl, hK.step hi' (by decide) (by decide) (Below.refl _ _) HBX.out HFX.out rfl⟩⟩
      | 1, ho =>
        obtain rfl := Option.some.inj ho
        exact .inl ⟨rfl, slot_run (v := .pointer (some ⟨f, 0, none⟩)) (w' := wx) rfl ⟨_, rfl, hK.step hi' (by decide) (by decide) (Below.refl _ _) HBX.out HFX.out rfl⟩⟩
      | 2, ho =>
        obtain rfl := Option.some.inj ho
        have ya : y 1 = .pointer (some ⟨f, 0, none⟩) := hK.vals 1 (hd ⟨1, .data⟩ (by simp) rfl)
        refine .inl ⟨rfl, slot_run (v := .pointer (some ⟨f, 0, none⟩)) (w' := wx) ?_ ⟨_, rfl, hK.step hi' (by decide) (by decide) (Below.refl _ _) HBX.out HFX.out rfl⟩⟩
        refine runWithW (fun z => match z with | .tmp 52 => y 1 | _ => undef) (by kernel_rfl) ?_
        rw [ya]
        go_simp
      | 3, ho =>
        obtain rfl := Option.some.inj ho
        have ya : y 2 = .pointer (some ⟨f, 0, none⟩) := hK.vals 2 (hd ⟨2, .data⟩ (by simp) rfl)
        refine .inl ⟨rfl, slot_run (v := .pointer (some ⟨f, 4, none⟩)) (w' := wx) ?_ ⟨_, rfl, hK.step hi' (by decide) (by decide) (Below.refl _ _) HBX.out HFX.out rfl⟩⟩
        refine runWithW (fun z => match z with | .tmp 53 => y 2 | _ => undef) (by kernel_rfl) ?_
        rw [ya]
        go_simp
      | 4, ho =>
        obtain rfl := Option.some.inj ho
        have ya : y 3 = .pointer (some ⟨f, 4, none⟩) := hK.vals 3 (hd ⟨3, .data⟩ (by simp) rfl)
        have c4x : wx.cell? ⟨f, 4, none⟩ = some (.slice ao 0 pc) := (DfAt.keep HDX.out hK.row).cells.c4
        refine .inl ⟨rfl, slot_run (v := .slice ao 0 pc) (w' := wx) ?_ ⟨_, rfl, hK.step hi' (by decide) (by decide) (Below.refl _ _) HBX.out HFX.out rfl⟩⟩
        refine runWithW (fun z => match z with | .tmp 54 => y 3 | _ => undef) (by kernel_rfl) ?_
        rw [ya]
        go_simp
      | 5, ho =>
        obtain rfl := Option.some.inj ho
        exact .inl ⟨rfl, slot_run (v := .int .i64 (rest : Int)) (w' := wx) rfl ⟨_, rfl, hK.step hi' (by decide) (by decide) (Below.refl _ _) HBX.out HFX.out rfl⟩⟩
      | 6, ho =>
        obtain rfl := Option.some.inj ho
        have ya : y 5 = .int .i64 (rest : Int) := hK.vals 5 (hd ⟨5, .data⟩ (by simp) rfl)
        obtain ⟨w', hrun, r1, r2⟩ := run_make_full (P := Try.prog) wx 0 37 5 i0 (.int .u8 0) 1 Try.underlying37 HI0.out HZ0.out HZ1.out .i64 .i64 rest (by rw [HZ2.out]; omega) (by unfold maxLen; omega) (Nat.zero_le _)
        rw [Nat.mul_one] at r1
        obtain ⟨hrow, hbel⟩ := made_rowN r1 r2
        refine .inl ⟨rfl, slot_makeW (l := .tmp 56) (c := .tmp 56) (t := 37) rfl ya ya hrun ⟨_, rfl, hK.step hi' (by decide) (by decide) hbel HBX.out HFX.out ?_⟩⟩
        show w'.ownsRow _ 5 1 _ rest (bvs (List.replicate rest 0))
        refine ⟨by rw [bvs_length, List.length_replicate, Nat.mul_one], .inr ⟨_, _, _, rfl, hK.low.size, hrow, Nat.le_refl _, by unfold maxLen; omega, by simp [bvs], ?_⟩⟩
        exact List.take_of_length_le (by simp [bvs])
      | 7, ho =>
        obtain rfl := Option.some.inj ho
        exact .inl ⟨rfl, slot_run (v := .int .u64 (A : Int)) (w' := wx) rfl ⟨_, rfl, hK.step hi' (by decide) (by decide) (Below.refl _ _) HBX.out HFX.out rfl⟩⟩
      | 8, ho =>
        obtain rfl := Option.some.inj ho
        exact .inl ⟨rfl, slot_run (v := .int .i64 (k : Int)) (w' := wx) rfl ⟨_, rfl, hK.step hi' (by decide) (by decide) (Below.refl _ _) HBX.out HFX.out rfl⟩⟩
      | 9, ho =>
        obtain rfl := Option.some.inj ho
        exact .inl ⟨rfl, slot_run (v := .slice (some ⟨g, off, none⟩) n cc) (w' := wx) rfl ⟨_, rfl, hK.step hi' (by decide) (by decide) (Below.refl _ _) HBX.out HFX.out rfl⟩⟩
      | 10, ho =>
        obtain rfl := Option.some.inj ho
        have y7 : y 7 = .int .u64 (A : Int) := hK.vals 7 (hd ⟨7, .data⟩ (by simp) rfl)
        have y8 : y 8 = .int .i64 (k : Int) := hK.vals 8 (hd ⟨8, .data⟩ (by simp) rfl)
        have y9 : y 9 = .slice (some ⟨g, off, none⟩) n cc := hK.vals 9 (hd ⟨9, .data⟩ (by simp) rfl)
        have rx : wx.rangeAt g off (bvs d) := fun j u hj => by
          rw [World.cell?_of_block (w := wv) (a := ⟨g, off + j, none⟩) (hK.low.block g HG.out)]
          exact HRX.out j u hj
        have HH := whead_any (w := wx) A k HA.out hk (d := d) (ao := some ⟨g, off, none⟩) (c := cc) (by omega) (range_sl rfl rx)
        rw [hn] at HH
        refine .inl ⟨rfl, slot_call #[.int .u64 (A : Int), .int .i64 (k : Int), .slice (some ⟨g, off, none⟩) n cc] rfl Try.func70 (by kernel_rfl) (by kernel_rfl) (by simp [Act.eval, y7, y8, y9]) ?_⟩
        refine HH.mono ?_
        rintro e w' ⟨v, rfl, ho2, hb2⟩
        exact ⟨v, rfl, _, rfl, hK.step hi' (by decide) (by decide) hb2 HBX.out HFX.out (own_base ho2 hK.low.size)⟩
      | 11, ho =>
        obtain rfl := Option.some.inj ho
        exact .inl ⟨rfl, slot_run (v := .slice (some ⟨g, off, none⟩) n cc) (w' := wx) rfl ⟨_, rfl, hK.step hi' (by decide) (by decide) (Below.refl _ _) HBX.out HFX.out rfl⟩⟩
      | 12, ho =>
        obtain rfl := Option.some.inj ho
        have e6 := hd ⟨6, .data⟩ (by simp) rfl
        have e10 := hd ⟨10, .data⟩ (by simp) rfl
        have y6 : wx.ownsRow wv.heap.size 5 1 (y 6) rest (bvs (List.replicate rest 0)) := hK.vals 6 e6
        have y10 : wx.ownsRow wv.heap.size 5 1 (y 10) 9 (bvs (headW smW A ⟨k, d⟩)) := hK.vals 10 e10
        have y11 : y 11 = .slice (some ⟨g, off, none⟩) n cc := hK.vals 11 (hd ⟨11, .data⟩ (by simp) rfl)
        have h13 : M 13 = false := by
          cases hb : M 13 with
          | false => rfl
          | true => rw [(hK.post hb).2.2.1] at hi'; cases hi'
        obtain ⟨a6, c6, z6⟩ := own_slK y6
        obtain ⟨a10, c10, z10⟩ := own_slK y10
        refine .inl ⟨rfl, slot_run (v := .slice (some ⟨wx.heap.size, 0, none⟩) 3 3) (w' := wx.alloc (.cells #[y 6, y 10, .slice (some ⟨g, off, none⟩) n cc] 37)) ?_ ⟨_, rfl, ?_⟩⟩
        · refine runWithW (fun z => match z with | .tmp 57 => y 6 | .tmp 61 => y 10 | .tmp 62 => y 11 | _ => undef) (by kernel_rfl) ?_
          rw [y11, z6, z10]
          go_simp
        · have hb2 : Below wx.heap.size wx (wx.alloc (.cells #[y 6, y 10, .slice (some ⟨g, off, none⟩) n cc] 37)) := (Below.refl _ _).alloc (Nat.le_refl _) _
          exact hK.built hi' h13 e6 e10 hb2 HBX.out HFX.out rfl (heap_alloc_new _ _)
      | 13, ho =>
        obtain rfl := Option.some.inj ho
        have e12 := hd ⟨12, .data⟩ (by simp) rfl
        have y4 : y 4 = .slice ao 0 pc := hK.vals 4 (hd ⟨4, .data⟩ (by simp) rfl)
        obtain ⟨p1, p2⟩ := hK.pre hi'
        obtain ⟨e6, e10, gb, yb, rb⟩ := p2 e12
        have y6 : wx.ownsRow wv.heap.size 5 1 (y 6) rest (bvs (List.replicate rest 0)) := hK.vals 6 e6
        have y10 : wx.ownsRow wv.heap.size 5 1 (y 10) 9 (bvs (headW smW A ⟨k, d⟩)) := hK.vals 10 e10
        obtain ⟨a6, c6, z6⟩ := own_slK y6
        obtain ⟨a10, c10, z10⟩ := own_slK y10
        have src4 : Src Try.prog 1 98 (.slice (some ⟨gb, 0, none⟩) 3 3) 3 [y 6, y 10, .slice (some ⟨g, off, none⟩) n cc] wx := Src.any (P := Try.prog) wx (e' := 37) (size := 1) Try.underlying98 (some ⟨gb, 0, none⟩) 3 3 _ rfl (fun h => by cases h) (fun a ha j u hu => by
            cases ha
            rw [Addr.add_mid, cell_of_row wx gb (0 + j) _ _ _ rb, Nat.zero_add]
            simpa using hu) (by
            intro u hu
            simp only [List.mem_cons, List.not_mem_nil, or_false] at hu
            rcases hu with rfl | rfl | rfl
            · rw [z6]; rfl
            · rw [z10]; rfl
            · rfl)
        have hown := own_belowK HOX.out p1
        obtain ⟨v', w', hr, hg2⟩ := run_append_own_src (P := Try.prog) wx B 98 98 98 37 i1 (.slice none 0 0) 1 24 Try.underlying98 HJ0.out HJ1.out HJ2.out HJ3.out rfl (.slice ao 0 pc) 0 vs hown _ 3 _ src4 (by unfold maxLen; omega) (by omega) (Nat.le_trans HBX.out hK.low.size)
        refine .inl ⟨rfl, slot_appendW (s := .tmp 55) (x := .tmp 63) (t := 98) (tx := 98) rfl (show _ = .slice ao 0 pc by exact y4) (show _ = Value.slice (some ⟨gb, 0, none⟩) 3 3 by exact yb) hr ⟨_, rfl, ?_⟩⟩
        exact hK.grew hi' e6 e10 e12 hg2 hown HBX.out HFX.out HFN.out
      | 14, ho =>
        obtain rfl := Option.some.inj ho
        have ya : y 0 = .pointer (some ⟨f, 0, none⟩) := hK.vals 0 (hd ⟨0, .data⟩ (by simp) rfl)
        refine .inl ⟨rfl, slot_run (v := .pointer (some ⟨f, 0, none⟩)) (w' := wx) ?_ ⟨_, rfl, hK.step hi' (by decide) (by decide) (Below.refl _ _) HBX.out HFX.out rfl⟩⟩
        refine runWithW (fun z => match z with | .tmp 51 => y 0 | _ => undef) (by kernel_rfl) ?_
        rw [ya]
        go_simp
      | 15, ho =>
        obtain rfl := Option.some.inj ho
        have ya : y 14 = .pointer (some ⟨f, 0, none⟩) := hK.vals 14 (hd ⟨14, .data⟩ (by simp) rfl)
        refine .inl ⟨rfl, slot_run (v := .pointer (some ⟨f, 4, none⟩)) (w' := wx) ?_ ⟨_, rfl, hK.step hi' (by decide) (by decide) (Below.refl _ _) HBX.out HFX.out rfl⟩⟩
        refine runWithW (fun z => match z with | .tmp 65 => y 14 | _ => undef) (by kernel_rfl) ?_
        rw [ya]
        go_simp
      | j + 16, ho => omega
    · intro o ho M y wx hall hK
      obtain rfl := Option.some.inj ho
      have y15 : y 15 = .pointer (some ⟨f, 4, none⟩) := hK.vals 15 (hall 15 (by decide))
      obtain ⟨_, _, _, hown, hkeep⟩ := hK.post (hall 13 (by decide))
      have y6 : wx.ownsRow wv.heap.size 5 1 (y 6) rest (bvs (List.replicate rest 0)) := hK.vals 6 (hall 6 (by decide))
      have y10 : wx.ownsRow wv.heap.size 5 1 (y 10) 9 (bvs (headW smW A ⟨k, d⟩)) := hK.vals 10 (hall 10 (by decide))
      obtain ⟨a13, c13, z13⟩ := own_slK hown
      have hDx : DfAt wx f start endp fp2 room (.slice ao 0 pc) := DfAt.keep HDX.out hK.row
      have c4x := hDx.cells.c4
      have f4x : wx.frozen? ⟨f, 4, none⟩ = false := frozen_of_row wx f 4 _ _ hDx
      have hoth : ∀ q, q ≠ f → (wx.setCell ⟨f, 4, none⟩ (y 13)).heap[q]? = wx.heap[q]? := fun q hq => Below.heap_setCell wx ⟨f, 4, none⟩ (y 13) q hq
      have hnf : ∀ {x : Value} {e : TypeId} {sz m : Nat} {xs : List Value} {C : Nat}, wx.ownsRow C e sz x m xs → 124 ≠ e → ∀ b, x.ownBlock = some b → b ≠ f := fun h hne b hb hbf => own_neK h hDx hne (by rw [hb, hbf])
      refine ⟨rfl, slot_skipW (w' := wx.setCell ⟨f, 4, none⟩ (y 13)) ?_ ⟨undef, rfl, a13, c13, ?_, ?_, ?_, ?_⟩⟩
      · refine runWithW (fun z => match z with | .tmp 66 => y 15 | .tmp 64 => y 13 | _ => undef) (by kernel_rfl) ?_
        rw [y15, z13]
        go_simp
      · rw [upd_ne _ _ (by decide)]; exact z13
      · rw [← z13]; exact hDx.setP (y 13)
      · rw [← z13]
        refine PartsD.snoc3 (w := wv) (v := .slice ao 0 pc) (a := y 6) (b := y 10) (c := .slice (some ⟨g, off, none⟩) n cc) HVL.out HOL.out HVP.out ?_ ?_ ?_ ?_ ?_ ?_
        · exact HLN.out _ _ _ (own_keepK hown (fun b hb _ => hoth b (hnf hown (by decide) b hb)))
        · exact .inl (by rw [List.length_replicate]; exact own_keepK (own_base y6 HBX.out) fun b hb _ => hoth b (hnf y6 (by decide) b hb))
        · exact .inl (by rw [headW_length]; exact own_keepK (own_base y10 HBX.out) fun b hb _ => hoth b (hnf y10 (by decide) b hb))
        · refine .inr ⟨g, off, cc, by rw [hn], HG.out, fun j u hj => ?_⟩
          rw [World.cell?_of_block (w := wv) (a := ⟨g, off + j, none⟩) ((hoth g (by have := HG.out; omega)).trans (hK.low.block g HG.out))]
          exact HRX.out j u hj
        · exact fun q hq => (hoth q (by omega)).trans (hK.low.block q hq)
        · rintro q hq ⟨cs, fr, hc⟩
          have hqf : q ≠ f := fun e => by
            have h1 : wv.heap[f]? = _ := HDX.out
            rw [e, h1] at hc
            injection hc with hc
            injection hc with _ hc _
            exact absurd hc (by decide)
          exact (hoth q hqf).trans (hkeep q hq (own_neK HOX.out hc (by decide)))
      · exact hK.low.setCell (p := ⟨f, 4, none⟩) hf (y 13)
    · rintro y wx ⟨ao', pc', y13, hDx, hPx, hBx⟩
      have f1x : wx.frozen? ⟨f, 1, none⟩ = false := frozen_of_row wx f 1 _ _ hDx
      obtain ⟨c0, c1, c2, c3, c4⟩ := hDx.cells
      have HDE := Lib.hid (hDx.setE (A + 9 + n))
      have HPX := Lib.hid hPx
      have HBE := Lib.hid hBx
      have HDR := Lib.hid hDx
      clear hDx hPx hBx
      go_wp2_with fail
      go_ret
      refine ⟨rfl, ao', pc', ?_, ?_, ?_⟩
      · rw [← HAA.out]
        rw [h0]
        have h := HDE.out
        rw [show ((A + 9 + n : Nat) : Int) = (A : Int) + 9 + (n : Int) by omega] at h
        exact h
      · have hnf : ∀ {x : Value} {e : TypeId} {sz m : Nat} {xs : List Value} {C : Nat}, wx.ownsRow C e sz x m xs → 124 ≠ e → ∀ b, x.ownBlock = some b → b ≠ f := fun h hne b hb hbf => own_neK h HDR.out hne (by rw [hb, hbf])
        rw [← HAA.out]
        rw [h0]
        exact HPX.out.other (fun q hq => Below.heap_setCell wx ⟨f, 1, none⟩ _ q hq) hf HDR.out
      · exact BQX.out.trans (HBE.out.setCell (p := ⟨f, 1, none⟩) hf _)
  · have h0b : (((L.length : Nat) : Int) == 0) = false := by simpa using h0
    have hfp : fp2 = fp := by rw [HFP.out, if_neg h0]
    subst hfp
    have hAi : (endp : Int) + (rest : Int) = (A : Int) := by omega
    have HBX := Lib.hid (show B ≤ wq.heap.size from (by have := ZQ.out; omega))
    have HFX := Lib.hid (show f < wq.heap.size from HDq.out.lt)
    have HDX := Lib.hid (show DfAt wq f start endp fp2 room (.slice ao L.length pc) from HDq.out)
    have HRX := Lib.hid (show wq.rangeAt g off (bvs d) from HRq.out)
    obtain ⟨vs, hv1, hv2, hv3⟩ := (show PartsD wq B (.slice ao L.length pc) L from HPq.out)
    have HVL := Lib.hid hv1
    have HOX := Lib.hid (show wq.ownsRow B 37 1 (.slice ao L.length pc) L.length vs from hv2)
    have HVP := Lib.hid hv3
    have HOL := Lib.hid (show wq.ownsRow B 37 1 (.slice ao L.length pc) L.length vs from hv2)
    have BQX := Lib.hid (show Below B w wq from BQ.out)
    have HFN := Lib.hid (show some f ≠ (Value.slice ao L.length pc).ownBlock from own_neK HOX.out HDX.out (by decide))
    have HLN := Lib.hid (fun (W : World) (v : Value) (xs : List Value) (h : W.ownsRow B 37 1 v (L.length + 3) xs) => (show W.ownsRow B 37 1 v (L.length + 3) xs from h))
    clear hv1 hv2 hv3
    have HAI := Lib.hid hAi
    have HAA := Lib.hid hAA
    clear hAi hAA
    go_upto_region 8 with fail
    simp only [HAI.out]
    refine wp_region_slotsM 16 (by kernel_rfl) (by kernel_rfl) (by kernel_rfl) (by kernel_rfl) (fun y => ⟨#[Value.pointer (some { block := f, off := 0 }), Value.int IntKind.i64 ↑k, Value.slice (some { block := g, off := off }) n cc, undef, undef, undef, Value.bool false, Value.int IntKind.i64 ↑rest, Value.int IntKind.u64 ↑A, Value.int IntKind.u64 (↑A + 9 + ↑n), Value.pointer (some { block := f, off := 0 }), Value.pointer (some { block := f, off := 0 }), Value.pointer (some { block := f, off := 1 }), Value.int IntKind.u64 ↑endp, Value.slice (some { block := g, off := off }) n cc, Value.int IntKind.i64 ↑n, Value.int IntKind.i64 ↑rest, Value.pointer (some { block := f, off := 0 }), Value.pointer (some { block := f, off := 0 }), Value.pointer (some { block := f, off := 1 }), Value.int IntKind.u64 ↑endp, Value.int IntKind.i64 ↑rest, Value.int IntKind.u64 ↑rest, Value.int IntKind.u64 ↑A, Value.int IntKind.u64 ↑A, Value.int IntKind.u64 (↑A + 9), Value.slice (some { block := g, off := off }) n cc, Value.int IntKind.i64 ↑n, Value.int IntKind.u64 ↑n, Value.int IntKind.u64 (↑A + 9 + ↑n), Value.int IntKind.u64 (↑A + 9 + ↑n), Value.pointer (some { block := f, off := 0 }), Value.pointer (some { block := f, off := 0 }), Value.pointer (some { block := f, off := 0 }), Value.int IntKind.u64 ↑start, Value.int IntKind.u64 (↑A + 9 + ↑n - ↑start), Value.pointer (some { block := f, off := 0 }), Value.pointer (some { block := f, off := 0 }), Value.pointer (some { block := f, off := 3 }), Value.int IntKind.u64 ↑room, Value.bool (decide ((room : Int) < (A : Int) + 9 + (n : Int) - (start : Int))), Value.pointer (some { block := f, off := 0 }), Value.pointer (some { block := f, off := 0 }), Value.pointer (some { block := f, off := 4 }), Value.slice ao L.length pc, Value.int IntKind.i64 ↑L.length, Value.bool false, undef, undef, undef, undef, y 0, y 1, y 2, y 3, y 4, y 5, y 6, y 7, y 8, y 9, y 10, y 11, y 12, y 13, y 14, y 15, undef, undef, undef, undef], []⟩) (adK f (.slice ao L.length pc) rest A k (.slice (some ⟨g, off, none⟩) n cc) (headW smW A ⟨k, d⟩) wq B L.length vs) (fun y w' => ∃ ao' pc', y 13 = .slice ao' (L.length + 3) pc' ∧ DfAt w' f start endp fp2 room (.slice ao' (L.length + 3) pc') ∧ PartsD w' B (.slice ao' (L.length + 3) pc') (L ++ [List.replicate rest 0, headW smW A ⟨k, d⟩, d]) ∧ Below B wq w') ?_ ?_ ?_ (fun _ => undef) rfl ⟨(fun j h => by cases h), below_drewN (Below.refl _ _) 1, rfl, fun _ => ⟨below_drewN (Below.refl _ _) 1, fun h => by cases h⟩, fun h => by cases h⟩
    · intro i' o hi16 ho M y wx hd hi' hK
      match i', ho with
      | 0, ho =>
        obtain rfl := Option.some.inj ho
        exact .inl ⟨rfl, slot_run (v := .pointer (some ⟨f, 0, none⟩)) (w' := wx) rfl ⟨_, rfl, hK.step hi' (by decide) (by decide) (Below.refl _ _) HBX.out HFX.out rfl⟩⟩
      | 1, ho =>
        obtain rfl := Option.some.inj ho
        exact .inl ⟨rfl, slot_run (v := .pointer (some ⟨f, 0, none⟩)) (w' := wx) rfl ⟨_, rfl, hK.step hi' (by decide) (by decide) (Below.refl _ _) HBX.out HFX.out rfl⟩⟩
      | 2, ho =>
        obtain rfl := Option.some.inj ho
        have ya : y 1 = .pointer (some ⟨f, 0, none⟩) := hK.vals 1 (hd ⟨1, .data⟩ (by simp) rfl)
        refine .inl ⟨rfl, slot_run (v := .pointer (some ⟨f, 0, none⟩)) (w' := wx) ?_ ⟨_, rfl, hK.step hi' (by decide) (by decide) (Below.refl _ _) HBX.out HFX.out rfl⟩⟩
        refine runWithW (fun z => match z with | .tmp 52 => y 1 | _ => undef) (by kernel_rfl) ?_
        rw [ya]
        go_simp
      | 3, ho =>
        obtain rfl := Option.some.inj ho
        have ya : y 2 = .pointer (some ⟨f, 0, none⟩) := hK.vals 2 (hd ⟨2, .data⟩ (by simp) rfl)
        refine .inl ⟨rfl, slot_run (v := .pointer (some ⟨f, 4, none⟩)) (w' := wx) ?_ ⟨_, rfl, hK.step hi' (by decide) (by decide) (Below.refl _ _) HBX.out HFX.out rfl⟩⟩
        refine runWithW (fun z => match z with | .tmp 53 => y 2 | _ => undef) (by kernel_rfl) ?_
        rw [ya]
        go_simp
      | 4, ho =>
        obtain rfl := Option.some.inj ho
        have ya : y 3 = .pointer (some ⟨f, 4, none⟩) := hK.vals 3 (hd ⟨3, .data⟩ (by simp) rfl)
        have c4x : wx.cell? ⟨f, 4, none⟩ = some (.slice ao L.length pc) := (DfAt.keep HDX.out hK.row).cells.c4
        refine .inl ⟨rfl, slot_run (v := .slice ao L.length pc) (w' := wx) ?_ ⟨_, rfl, hK.step hi' (by decide) (by decide) (Below.refl _ _) HBX.out HFX.out rfl⟩⟩
        refine runWithW (fun z => match z with | .tmp 54 => y 3 | _ => undef) (by kernel_rfl) ?_
        rw [ya]
        go_simp
      | 5, ho =>
        obtain rfl := Option.some.inj ho
        exact .inl ⟨rfl, slot_run (v := .int .i64 (rest : Int)) (w' := wx) rfl ⟨_, rfl, hK.step hi' (by decide) (by decide) (Below.refl _ _) HBX.out HFX.out rfl⟩⟩
      | 6, ho =>
        obtain rfl := Option.some.inj ho
        have ya : y 5 = .int .i64 (rest : Int) := hK.vals 5 (hd ⟨5, .data⟩ (by simp) rfl)
        obtain ⟨w', hrun, r1, r2⟩ := run_make_full (P := Try.prog) wx 0 37 5 i0 (.int .u8 0) 1 Try.underlying37 HI0.out HZ0.out HZ1.out .i64 .i64 rest (by rw [HZ2.out]; omega) (by unfold maxLen; omega) (Nat.zero_le _)
        rw [Nat.mul_one] at r1
        obtain ⟨hrow, hbel⟩ := made_rowN r1 r2
        refine .inl ⟨rfl, slot_makeW (l := .tmp 56) (c := .tmp 56) (t := 37) rfl ya ya hrun ⟨_, rfl, hK.step hi' (by decide) (by decide) hbel HBX.out HFX.out ?_⟩⟩
        show w'.ownsRow _ 5 1 _ rest (bvs (List.replicate rest 0))
        refine ⟨by rw [bvs_length, List.length_replicate, Nat.mul_one], .inr ⟨_, _, _, rfl, hK.low.size, hrow, Nat.le_refl _, by unfold maxLen; omega, by simp [bvs], ?_⟩⟩
        exact List.take_of_length_le (by simp [bvs])
      | 7, ho =>
        obtain rfl := Option.some.inj ho
        exact .inl ⟨rfl, slot_run (v := .int .u64 (A : Int)) (w' := wx) rfl ⟨_, rfl, hK.step hi' (by decide) (by decide) (Below.refl _ _) HBX.out HFX.out rfl⟩⟩
      | 8, ho =>
        obtain rfl := Option.some.inj ho
        exact .inl ⟨rfl, slot_run (v := .int .i64 (k : Int)) (w' := wx) rfl ⟨_, rfl, hK.step hi' (by decide) (by decide) (Below.refl _ _) HBX.out HFX.out rfl⟩⟩
      | 9, ho =>
        obtain rfl := Option.some.inj ho
        exact .inl ⟨rfl, slot_run (v := .slice (some ⟨g, off, none⟩) n cc) (w' := wx) rfl ⟨_, rfl, hK.step hi' (by decide) (by decide) (Below.refl _ _) HBX.out HFX.out rfl⟩⟩
      | 10, ho =>
        obtain rfl := Option.some.inj ho
        have y7 : y 7 = .int .u64 (A : Int) := hK.vals 7 (hd ⟨7, .data⟩ (by simp) rfl)
        have y8 : y 8 = .int .i64 (k : Int) := hK.vals 8 (hd ⟨8, .data⟩ (by simp) rfl)
        have y9 : y 9 = .slice (some ⟨g, off, none⟩) n cc := hK.vals 9 (hd ⟨9, .data⟩ (by simp) rfl)
        have rx : wx.rangeAt g off (bvs d) := fun j u hj => by
          rw [World.cell?_of_block (w := wq) (a := ⟨g, off + j, none⟩) (hK.low.block g HG.out)]
          exact HRX.out j u hj
        have HH := whead_any (w := wx) A k HA.out hk (d := d) (ao := some ⟨g, off, none⟩) (c := cc) (by omega) (range_sl rfl rx)
        rw [hn] at HH
        refine .inl ⟨rfl, slot_call #[.int .u64 (A : Int), .int .i64 (k : Int), .slice (some ⟨g, off, none⟩) n cc] rfl Try.func70 (by kernel_rfl) (by kernel_rfl) (by simp [Act.eval, y7, y8, y9]) ?_⟩
        refine HH.mono ?_
        rintro e w' ⟨v, rfl, ho2, hb2⟩
        exact ⟨v, rfl, _, rfl, hK.step hi' (by decide) (by decide) hb2 HBX.out HFX.out (own_base ho2 hK.low.size)⟩
      | 11, ho =>
        obtain rfl := Option.some.inj ho
        exact .inl ⟨rfl, slot_run (v := .slice (some ⟨g, off, none⟩) n cc) (w' := wx) rfl ⟨_, rfl, hK.step hi' (by decide) (by decide) (Below.refl _ _) HBX.out HFX.out rfl⟩⟩
      | 12, ho =>
        obtain rfl := Option.some.inj ho
        have e6 := hd ⟨6, .data⟩ (by simp) rfl
        have e10 := hd ⟨10, .data⟩ (by simp) rfl
        have y6 : wx.ownsRow wq.heap.size 5 1 (y 6) rest (bvs (List.replicate rest 0)) := hK.vals 6 e6
        have y10 : wx.ownsRow wq.heap.size 5 1 (y 10) 9 (bvs (headW smW A ⟨k, d⟩)) := hK.vals 10 e10
        have y11 : y 11 = .slice (some ⟨g, off, none⟩) n cc := hK.vals 11 (hd ⟨11, .data⟩ (by simp) rfl)
        have h13 : M 13 = false := by
          cases hb : M 13 with
          | false => rfl
          | true => rw [(hK.post hb).2.2.1] at hi'; cases hi'
        obtain ⟨a6, c6, z6⟩ := own_slK y6
        obtain ⟨a10, c10, z10⟩ := own_slK y10
        refine .inl ⟨rfl, slot_run (v := .slice (some ⟨wx.heap.size, 0, none⟩) 3 3) (w' := wx.alloc (.cells #[y 6, y 10, .slice (some ⟨g, off, none⟩) n cc] 37)) ?_ ⟨_, rfl, ?_⟩⟩
        · refine runWithW (fun z => match z with | .tmp 57 => y 6 | .tmp 61 => y 10 | .tmp 62 => y 11 | _ => undef) (by kernel_rfl) ?_
          rw [y11, z6, z10]
          go_simp
        · have hb2 : Below wx.heap.size wx (wx.alloc (.cells #[y 6, y 10, .slice (some ⟨g, off, none⟩) n cc] 37)) := (Below.refl _ _).alloc (Nat.le_refl _) _
          exact hK.built hi' h13 e6 e10 hb2 HBX.out HFX.out rfl (heap_alloc_new _ _)
      | 13, ho =>
        obtain rfl := Option.some.inj ho
        have e12 := hd ⟨12, .data⟩ (by simp) rfl
        have y4 : y 4 = .slice ao L.length pc := hK.vals 4 (hd ⟨4, .data⟩ (by simp) rfl)
        obtain ⟨p1, p2⟩ := hK.pre hi'
        obtain ⟨e6, e10, gb, yb, rb⟩ := p2 e12
        have y6 : wx.ownsRow wq.heap.size 5 1 (y 6) rest (bvs (List.replicate rest 0)) := hK.vals 6 e6
        have y10 : wx.ownsRow wq.heap.size 5 1 (y 10) 9 (bvs (headW smW A ⟨k, d⟩)) := hK.vals 10 e10
        obtain ⟨a6, c6, z6⟩ := own_slK y6
        obtain ⟨a10, c10, z10⟩ := own_slK y10
        have src4 : Src Try.prog 1 98 (.slice (some ⟨gb, 0, none⟩) 3 3) 3 [y 6, y 10, .slice (some ⟨g, off, none⟩) n cc] wx := Src.any (P := Try.prog) wx (e' := 37) (size := 1) Try.underlying98 (some ⟨gb, 0, none⟩) 3 3 _ rfl (fun h => by cases h) (fun a ha j u hu => by
            cases ha
            rw [Addr.add_mid, cell_of_row wx gb (0 + j) _ _ _ rb, Nat.zero_add]
            simpa using hu) (by
            intro u hu
            simp only [List.mem_cons, List.not_mem_nil, or_false] at hu
            rcases hu with rfl | rfl | rfl
            · rw [z6]; rfl
            · rw [z10]; rfl
            · rfl)
        have hown := own_belowK HOX.out p1
        obtain ⟨v', w', hr, hg2⟩ := run_append_own_src (P := Try.prog) wx B 98 98 98 37 i1 (.slice none 0 0) 1 24 Try.underlying98 HJ0.out HJ1.out HJ2.out HJ3.out rfl (.slice ao L.length pc) L.length vs hown _ 3 _ src4 (by unfold maxLen; omega) (by omega) (Nat.le_trans HBX.out hK.low.size)
        refine .inl ⟨rfl, slot_appendW (s := .tmp 55) (x := .tmp 63) (t := 98) (tx := 98) rfl (show _ = .slice ao L.length pc by exact y4) (show _ = Value.slice (some ⟨gb, 0, none⟩) 3 3 by exact yb) hr ⟨_, rfl, ?_⟩⟩
        exact hK.grew hi' e6 e10 e12 hg2 hown HBX.out HFX.out HFN.out
      | 14, ho =>
        obtain rfl := Option.some.inj ho
        have ya : y 0 = .pointer (some ⟨f, 0, none⟩) := hK.vals 0 (hd ⟨0, .data⟩ (by simp) rfl)
        refine .inl ⟨rfl, slot_run (v := .pointer (some ⟨f, 0, none⟩)) (w' := wx) ?_ ⟨_, rfl, hK.step hi' (by decide) (by decide) (Below.refl _ _) HBX.out HFX.out rfl⟩⟩
        refine runWithW (fun z => match z with | .tmp 51 => y 0 | _ => undef) (by kernel_rfl) ?_
        rw [ya]
        go_simp
      | 15, ho =>
        obtain rfl := Option.some.inj ho
        have ya : y 14 = .pointer (some ⟨f, 0, none⟩) := hK.vals 14 (hd ⟨14, .data⟩ (by simp) rfl)
        refine .inl ⟨rfl, slot_run (v := .pointer (some ⟨f, 4, none⟩)) (w' := wx) ?_ ⟨_, rfl, hK.step hi' (by decide) (by decide) (Below.refl _ _) HBX.out HFX.out rfl⟩⟩
        refine runWithW (fun z => match z with | .tmp 65 => y 14 | _ => undef) (by kernel_rfl) ?_
        rw [ya]
        go_simp
      | j + 16, ho => omega
    · intro o ho M y wx hall hK
      obtain rfl := Option.some.inj ho
      have y15 : y 15 = .pointer (some ⟨f, 4, none⟩) := hK.vals 15 (hall 15 (by decide))
      obtain ⟨_, _, _, hown, hkeep⟩ := hK.post (hall 13 (by decide))
      have y6 : wx.ownsRow wq.heap.size 5 1 (y 6) rest (bvs (List.replicate rest 0)) := hK.vals 6 (hall 6 (by decide))
      have y10 : wx.ownsRow wq.heap.size 5 1 (y 10) 9 (bvs (headW smW A ⟨k, d⟩)) := hK.vals 10 (hall 10 (by decide))
      obtain ⟨a13, c13, z13⟩ := own_slK hown
      have hDx : DfAt wx f start endp fp2 room (.slice ao L.length pc) := DfAt.keep HDX.out hK.row
      have c4x := hDx.cells.c4
      have f4x : wx.frozen? ⟨f, 4, none⟩ = false := frozen_of_row wx f 4 _ _ hDx
      have hoth : ∀ q, q ≠ f → (wx.setCell ⟨f, 4, none⟩ (y 13)).heap[q]? = wx.heap[q]? := fun q hq => Below.heap_setCell wx ⟨f, 4, none⟩ (y 13) q hq
      have hnf : ∀ {x : Value} {e : TypeId} {sz m : Nat} {xs : List Value} {C : Nat}, wx.ownsRow C e sz x m xs → 124 ≠ e → ∀ b, x.ownBlock = some b → b ≠ f := fun h hne b hb hbf => own_neK h hDx hne (by rw [hb, hbf])
      refine ⟨rfl, slot_skipW (w' := wx.setCell ⟨f, 4, none⟩ (y 13)) ?_ ⟨undef, rfl, a13, c13, ?_, ?_, ?_, ?_⟩⟩
      · refine runWithW (fun z => match z with | .tmp 66 => y 15 | .tmp 64 => y 13 | _ => undef) (by kernel_rfl) ?_
        rw [y15, z13]
        go_simp
      · rw [upd_ne _ _ (by decide)]; exact z13
      · rw [← z13]; exact hDx.setP (y 13)
      · rw [← z13]
        refine PartsD.snoc3 (w := wq) (v := .slice ao L.length pc) (a := y 6) (b := y 10) (c := .slice (some ⟨g, off, none⟩) n cc) HVL.out HOL.out HVP.out ?_ ?_ ?_ ?_ ?_ ?_
        · exact HLN.out _ _ _ (own_keepK hown (fun b hb _ => hoth b (hnf hown (by decide) b hb)))
        · exact .inl (by rw [List.length_replicate]; exact own_keepK (own_base y6 HBX.out) fun b hb _ => hoth b (hnf y6 (by decide) b hb))
        · exact .inl (by rw [headW_length]; exact own_keepK (own_base y10 HBX.out) fun b hb _ => hoth b (hnf y10 (by decide) b hb))
        · refine .inr ⟨g, off, cc, by rw [hn], HG.out, fun j u hj => ?_⟩
          rw [World.cell?_of_block (w := wq) (a := ⟨g, off + j, none⟩) ((hoth g (by have := HG.out; omega)).trans (hK.low.block g HG.out))]
          exact HRX.out j u hj
        · exact fun q hq => (hoth q (by omega)).trans (hK.low.block q hq)
        · rintro q hq ⟨cs, fr, hc⟩
          have hqf : q ≠ f := fun e => by
            have h1 : wq.heap[f]? = _ := HDX.out
            rw [e, h1] at hc
            injection hc with hc
            injection hc with _ hc _
            exact absurd hc (by decide)
          exact (hoth q hqf).trans (hkeep q hq (own_neK HOX.out hc (by decide)))
      · exact hK.low.setCell (p := ⟨f, 4, none⟩) hf (y 13)
    · rintro y wx ⟨ao', pc', y13, hDx, hPx, hBx⟩
      have f1x : wx.frozen? ⟨f, 1, none⟩ = false := frozen_of_row wx f 1 _ _ hDx
      obtain ⟨c0, c1, c2, c3, c4⟩ := hDx.cells
      have HDE := Lib.hid (hDx.setE (A + 9 + n))
      have HPX := Lib.hid hPx
      have HBE := Lib.hid hBx
      have HDR := Lib.hid hDx
      clear hDx hPx hBx
      go_wp2_with fail
      go_ret
      refine ⟨rfl, ao', pc', ?_, ?_, ?_⟩
      · rw [← HAA.out]
        have h := HDE.out
        rw [show ((A + 9 + n : Nat) : Int) = (A : Int) + 9 + (n : Int) by omega] at h
        exact h
      · have hnf : ∀ {x : Value} {e : TypeId} {sz m : Nat} {xs : List Value} {C : Nat}, wx.ownsRow C e sz x m xs → 124 ≠ e → ∀ b, x.ownBlock = some b → b ≠ f := fun h hne b hb hbf => own_neK h HDR.out hne (by rw [hb, hbf])
        rw [← HAA.out]
        exact HPX.out.other (fun q hq => Below.heap_setCell wx ⟨f, 1, none⟩ _ q hq) hf HDR.out
      · exact BQX.out.trans (HBE.out.setCell (p := ⟨f, 1, none⟩) hf _)
end Go.Proofs.Ytdjpeebekpjiiaa.Dk
/- A batch waits. -/
namespace Go.Proofs.Ytdjpeebekpjiiaa.Dk
open Go Go.RowKit
set_option linter.unusedVariables false
set_option linter.unusedSimpArgs false
/-- Batches that wait. -/
def WaitD (w : World) (B : Nat) (v : Value) (L : List (List UInt8)) : Prop :=
  ∃ vs : List Value, vs.length = L.length ∧ w.ownsRow B 37 1 v L.length vs ∧ ∀ (j : Nat) l u, L[j]? = some l → vs[j]? = some u → w.ownsRow B 5 1 u l.length (bvs l) ∧ u ≠ .slice none 0 0
theorem WaitD.nil (w : World) (B : Nat) : WaitD w B (.slice none 0 0) [] := ⟨[], rfl, ⟨rfl, .inl ⟨rfl, rfl⟩⟩, fun j l u h => by simp at h⟩
theorem WaitD.keep {w w' : World} {B : Nat} {v : Value} {L : List (List UInt8)} (h : WaitD w B v L) (hk : ∀ q cs fr e, e = 37 ∨ e = 5 → B ≤ q → w.heap[q]? = some (.cells cs e fr) → w'.heap[q]? = w.heap[q]?) : WaitD w' B v L := by
  obtain ⟨vs, h1, h2, h3⟩ := h
  have own : ∀ {x : Value} {e : TypeId} {m : Nat} {xs : List Value}, e = 37 ∨ e = 5 → w.ownsRow B e 1 x m xs → w'.ownsRow B e 1 x m xs := fun {x e m xs} he hx => own_keepK hx fun b hb _ => by
    rcases hx.2 with ⟨rfl, _⟩ | ⟨g, cap, cur, rfl, hg, hh, _⟩
    · simp [Value.ownBlock] at hb
    · have hb' : g = b := by simpa [Value.ownBlock] using hb
      subst hb'
      exact hk g cur (0, 0) e he hg hh
  exact ⟨vs, h1, own (.inl rfl) h2, fun j l u hl hu => ⟨own (.inr rfl) (h3 j l u hl hu).1, (h3 j l u hl hu).2⟩⟩
theorem WaitD.below {w w' : World} {B : Nat} {v : Value} {L : List (List UInt8)} (h : WaitD w B v L) (hb : Below w.heap.size w w') : WaitD w' B v L := h.keep fun q cs fr e _ _ hq => hb.block q (lt_of_row hq)
theorem WaitD.slice {w : World} {B : Nat} {v : Value} {L : List (List UInt8)} (h : WaitD w B v L) : ∃ ao c, v = .slice ao L.length c := by
  obtain ⟨vs, h1, h2, h3⟩ := h
  exact own_slK h2
def suF (lg : Nat) (wv bv : Value) (l : List UInt8) (C : Nat) (j : Nat) (q : Value) (W : World) : Prop := match j with
  | 0 | 1 | 2 | 9 => q = .pointer (some ⟨lg, 0, none⟩)
  | 3 | 10 => q = .pointer (some ⟨lg, 3, none⟩)
  | 4 => q = wv
  | 5 => q = bv
  | 6 => W.ownsRow C 5 1 q l.length (bvs l) ∧ q ≠ .slice none 0 0
  | _ => True
structure suK (lg : Nat) (wv bv : Value) (l : List UInt8) (wo : World) (B n0 : Nat) (vs : List Value) (L : Nat → Bool) (y : Nat → Value) (w : World) : Prop where
  vals : ∀ j, L j = true → suF lg wv bv l wo.heap.size j (y j) w
  low : Below B wo w
  row : w.heap[lg]? = wo.heap[lg]?
  pre : L 8 = false → Below wo.heap.size wo w ∧ (L 7 = true → L 6 = true ∧ ∃ g, y 7 = .slice (some ⟨g, 0, none⟩) 1 1 ∧ w.heap[g]? = some (.cells #[y 6] 37 (0, 0)))
  post : L 8 = true → L 6 = true ∧ L 7 = true ∧ w.ownsRow B 37 1 (y 8) (n0 + 1) (vs ++ [y 6]) ∧ w.heap.size ≥ wo.heap.size ∧ ∀ k, k < wo.heap.size → some k ≠ wv.ownBlock → w.heap[k]? = wo.heap[k]?
theorem suF.move {lg : Nat} {wv bv : Value} {l : List UInt8} {C j : Nat} {q : Value} {W W' : World} (h : suF lg wv bv l C j q W) (hk : ∀ {x : Value} {m : Nat} {xs : List Value}, W.ownsRow C 5 1 x m xs → W'.ownsRow C 5 1 x m xs) : suF lg wv bv l C j q W' := by
  match j, h with
  | 0, h => exact h
  | 1, h => exact h
  | 2, h => exact h
  | 3, h => exact h
  | 4, h => exact h
  | 5, h => exact h
  | 6, h => exact ⟨hk h.1, h.2⟩
  | 7, _ => trivial
  | 8, _ => trivial
  | 9, h => exact h
  | 10, h => exact h
  | j + 11, _ => trivial
theorem suK.step {lg : Nat} {wv bv : Value} {l : List UInt8} {wo : World} {B n0 : Nat} {vs : List Value} {L : Nat → Bool} {y : Nat → Value} {w w' : World} (h : suK lg wv bv l wo B n0 vs L y w) {i : Nat} {q : Value} (hi : L i = false) (h7 : i ≠ 7) (h8 : i ≠ 8) (hb : Below w.heap.size w w') (hB : B ≤ wo.heap.size) (hf : lg < wo.heap.size)
    (hq : suF lg wv bv l wo.heap.size i q w') : suK lg wv bv l wo B n0 vs (Go.Proofs.Ytdjpeebekpjiiaa.upd L i true) (Go.Proofs.Ytdjpeebekpjiiaa.upd y i q) w' := by
  have hw := h.low.size
  refine ⟨fun j hj => ?_, h.low.trans (hb.mono (by omega)), (hb.block lg (by omega)).trans h.row, fun e13 => ?_, fun e13 => ?_⟩
  · by_cases hji : j = i
    · subst hji; rw [upd_self]; exact hq
    · rw [upd_ne _ _ hji] at hj ⊢
      exact (h.vals j hj).move fun hx => own_belowK hx hb
  · rw [upd_ne _ _ (Ne.symm h8)] at e13
    obtain ⟨p1, p2⟩ := h.pre e13
    refine ⟨p1.trans (hb.mono p1.size), fun e12 => ?_⟩
    rw [upd_ne _ _ (Ne.symm h7)] at e12
    obtain ⟨e6, g, e, hr⟩ := p2 e12
    have n6 : i ≠ 6 := fun e => by rw [e, e6] at hi; cases hi
    exact ⟨by rw [upd_ne _ _ (Ne.symm n6)]; exact e6, g, by rw [upd_ne _ _ (Ne.symm h7)]; exact e, by rw [upd_ne _ _ (Ne.symm n6)]; exact (hb.block g (lt_of_row hr)).trans hr⟩
  · rw [upd_ne _ _ (Ne.symm h8)] at e13
    obtain ⟨e6, e7, p2, p3, p4⟩ := h.post e13
    have n6 : i ≠ 6 := fun e => by rw [e, e6] at hi; cases hi
    rw [upd_ne _ _ (Ne.symm h8), upd_ne _ _ (Ne.symm n6), upd_ne _ _ (Ne.symm h7), upd_ne _ _ (Ne.symm n6)]
    exact ⟨e6, e7, own_belowK p2 hb, Nat.le_trans p3 hb.size, fun k hk hne => (hb.block k (by omega)).trans (p4 k hk hne)⟩
theorem suK.built {lg : Nat} {wv bv : Value} {l : List UInt8} {wo : World} {B n0 : Nat} {vs : List Value} {L : Nat → Bool} {y : Nat → Value} {w w' : World} {q : Value} (h : suK lg wv bv l wo B n0 vs L y w) (hi : L 7 = false) (h8 : L 8 = false) (e6 : L 6 = true) (hb : Below w.heap.size w w') (hB : B ≤ wo.heap.size) (hf : lg < wo.heap.size)
    {gb : Nat} (hq : q = .slice (some ⟨gb, 0, none⟩) 1 1) (hr : w'.heap[gb]? = some (.cells #[y 6] 37 (0, 0))) : suK lg wv bv l wo B n0 vs (Go.Proofs.Ytdjpeebekpjiiaa.upd L 7 true) (Go.Proofs.Ytdjpeebekpjiiaa.upd y 7 q) w' := by
  have hw := h.low.size
  refine ⟨fun j hj => ?_, h.low.trans (hb.mono (by omega)), (hb.block lg (by omega)).trans h.row, fun e13 => ?_, fun e13 => ?_⟩
  · by_cases hji : j = 7
    · subst hji; trivial
    · rw [upd_ne _ _ hji] at hj ⊢
      exact (h.vals j hj).move fun hx => own_belowK hx hb
  · obtain ⟨p1, p2⟩ := h.pre h8
    exact ⟨p1.trans (hb.mono p1.size), fun _ => ⟨by rw [upd_ne _ _ (by decide)]; exact e6, gb, by rw [upd_self]; exact hq, by rw [upd_ne _ _ (by decide)]; exact hr⟩⟩
  · rw [upd_ne _ _ (by decide), h8] at e13
    cases e13
theorem suK.grew {lg : Nat} {wv bv : Value} {l : List UInt8} {wo : World} {B n0 : Nat} {vs : List Value} {L : Nat → Bool} {y : Nat → Value} {w w' : World} {v' : Value} (h : suK lg wv bv l wo B n0 vs L y w) (hi : L 8 = false) (e6 : L 6 = true) (e7 : L 7 = true)
    (hg : Grew w w' B 37 1 wv v' (n0 + 1) (vs ++ [y 6])) (hown : w.ownsRow B 37 1 wv n0 vs) (hB : B ≤ wo.heap.size) (hf : lg < wo.heap.size) (hfn : some lg ≠ wv.ownBlock) : suK lg wv bv l wo B n0 vs (Go.Proofs.Ytdjpeebekpjiiaa.upd L 8 true) (Go.Proofs.Ytdjpeebekpjiiaa.upd y 8 v') w' := by
  obtain ⟨own', gr, hat⟩ := hg
  obtain ⟨p1, p2⟩ := h.pre hi
  have hw := p1.size
  have hkp : ∀ {x : Value} {m : Nat} {xs : List Value}, w.ownsRow wo.heap.size 5 1 x m xs → w'.ownsRow wo.heap.size 5 1 x m xs := fun hx => own_keepK hx fun b hb hlt => gr.block b hlt (fun e => by
    rcases hx.2 with ⟨rfl, _⟩ | ⟨g, cap, cur, rfl, _, hh, _⟩
    · simp [Value.ownBlock] at hb
    · have hb' : g = b := by simpa [Value.ownBlock] using hb
      subst hb'
      exact own_neK hown hh (by decide) e)
  refine ⟨fun j hj => ?_, h.low.grown gr (by omega) (fun b e => (hown.lt b e).1), (gr.block lg (by omega) hfn).trans h.row, fun e13 => ?_, fun _ => ⟨by rw [upd_ne _ _ (by decide)]; exact e6, by rw [upd_ne _ _ (by decide)]; exact e7, by rw [upd_self, upd_ne _ _ (by decide)]; exact own', Nat.le_trans hw gr.size, fun q hq hne => (gr.block q (by omega) hne).trans (p1.block q hq)⟩⟩
  · by_cases hji : j = 8
    · subst hji; trivial
    · rw [upd_ne _ _ hji] at hj ⊢
      exact (h.vals j hj).move hkp
  · rw [upd_self] at e13; cases e13
set_option maxRecDepth 100000 in
set_option maxHeartbeats 8000000 in
theorem wsubmit_any {w : World} {B lg d r begin : Nat} {ao : Option Addr} {pc : Nat} {W : List (List UInt8)} (hL : LgAt w lg d r begin (.slice ao W.length pc) false) (hW : WaitD w B (.slice ao W.length pc) W) (hB : B ≤ w.heap.size) {g off n c : Nat} {l : List UInt8} (hn : l.length = n) (hr : w.rangeAt g off (bvs l)) (hn2 : n ≤ 2039) (hw64 : W.length < 64) :
    Calls Try.prog 24 #[.pointer (some ⟨lg, 0, none⟩), .slice (some ⟨g, off, none⟩) n c] w fun e w' => e = .returned (.int .i64 0) ∧ ∃ ao' pc', LgAt w' lg d r begin (.slice ao' (W.length + 1) pc') false ∧ WaitD w' B (.slice ao' (W.length + 1) pc') (W ++ [l]) ∧ (B ≤ lg → Below B w w') ∧ Frm (fun q => q = lg ∨ some q = (Value.slice ao W.length pc).ownBlock) w w' := by
  obtain ⟨i1, hj0, hj1, hj2, hj3⟩ := info_parts Try.infoBytesW
  obtain ⟨c0, c1, c2, c3, c4⟩ := hL.cells
  have n1 : ¬ (2039 : Int) < (n : Int) := by omega
  have n2 : ¬ (64 : Int) ≤ (W.length : Int) := by omega
  have HL := Lib.hid hL
  have HR := Lib.hid hr
  have HW := Lib.hid hW
  clear hL hr hW
  go_enter Try.func24, Try.ntmps24
  go_wp2_with fail
  obtain ⟨i0, hi0, hz0, hz1, hz2⟩ := info_parts Try.infoU8
  have HJ0 := Lib.hid hj0
  have HJ1 := Lib.hid hj1
  have HJ2 := Lib.hid hj2
  have HJ3 := Lib.hid hj3
  have HBX := Lib.hid hB
  have HFX := Lib.hid HL.out.lt
  obtain ⟨vs, hv1, hv2, hv3⟩ := HW.out
  have HVL := Lib.hid hv1
  have HOX := Lib.hid hv2
  have HVP := Lib.hid hv3
  have HFN := Lib.hid (show some lg ≠ (Value.slice ao W.length pc).ownBlock from own_neK hv2 HL.out (by decide))
  clear hj0 hj1 hj2 hj3 hv1 hv2 hv3 hi0 hz0 hz1 hz2 c0 c1 c2 c3 c4
  refine wp_region_slotsM 11 (by kernel_rfl) (by kernel_rfl) (by kernel_rfl) (by kernel_rfl) (fun y => ⟨#[Value.pointer (some { block := lg, off := 0 }), Value.slice (some { block := g, off := off }) n c, undef, undef, Value.int IntKind.i64 0, Value.bool false, Value.pointer (some { block := lg, off := 0 }), Value.pointer (some { block := lg, off := 0 }), Value.pointer (some { block := lg, off := 4 }), Value.bool false, Value.bool false, Value.slice (some { block := g, off := off }) n c, Value.int IntKind.i64 ↑n, Value.bool false, Value.bool false, Value.pointer (some { block := lg, off := 0 }), Value.pointer (some { block := lg, off := 0 }), Value.pointer (some { block := lg, off := 3 }), Value.slice ao W.length pc, Value.int IntKind.i64 ↑W.length, Value.bool false, y 0, y 1, y 2, y 3, y 4, y 5, y 6, y 7, y 8, y 9, y 10], []⟩) (suK lg (.slice ao W.length pc) (.slice (some ⟨g, off, none⟩) n c) l w B W.length vs) (fun y w' => ∃ ao' pc', LgAt w' lg d r begin (.slice ao' (W.length + 1) pc') false ∧ WaitD w' B (.slice ao' (W.length + 1) pc') (W ++ [l]) ∧ (B ≤ lg → Below B w w') ∧ Frm (fun q => q = lg ∨ some q = (Value.slice ao W.length pc).ownBlock) w w') ?_ ?_ ?_ (fun _ => undef) rfl ⟨(fun j h => by cases h), below_drewN (Below.refl _ _) 1, rfl, fun _ => ⟨below_drewN (Below.refl _ _) 1, fun h => by cases h⟩, fun h => by cases h⟩
  · intro i' o hi11 ho M y wx hd hi' hK
    match i', ho with
    | 0, ho =>
      obtain rfl := Option.some.inj ho
      exact .inl ⟨rfl, slot_run (v := .pointer (some ⟨lg, 0, none⟩)) (w' := wx) rfl ⟨_, rfl, hK.step hi' (by decide) (by decide) (Below.refl _ _) HBX.out HFX.out rfl⟩⟩
    | 1, ho =>
      obtain rfl := Option.some.inj ho
      exact .inl ⟨rfl, slot_run (v := .pointer (some ⟨lg, 0, none⟩)) (w' := wx) rfl ⟨_, rfl, hK.step hi' (by decide) (by decide) (Below.refl _ _) HBX.out HFX.out rfl⟩⟩
    | 2, ho =>
      obtain rfl := Option.some.inj ho
      have ya : y 1 = .pointer (some ⟨lg, 0, none⟩) := hK.vals 1 (hd ⟨1, .data⟩ (by simp) rfl)
      refine .inl ⟨rfl, slot_run (v := .pointer (some ⟨lg, 0, none⟩)) (w' := wx) ?_ ⟨_, rfl, hK.step hi' (by decide) (by decide) (Below.refl _ _) HBX.out HFX.out rfl⟩⟩
      refine runWithW (fun z => match z with | .tmp 22 => y 1 | _ => undef) (by kernel_rfl) ?_
      rw [ya]
      go_simp
    | 3, ho =>
      obtain rfl := Option.some.inj ho
      have ya : y 2 = .pointer (some ⟨lg, 0, none⟩) := hK.vals 2 (hd ⟨2, .data⟩ (by simp) rfl)
      refine .inl ⟨rfl, slot_run (v := .pointer (some ⟨lg, 3, none⟩)) (w' := wx) ?_ ⟨_, rfl, hK.step hi' (by decide) (by decide) (Below.refl _ _) HBX.out HFX.out rfl⟩⟩
      refine runWithW (fun z => match z with | .tmp 23 => y 2 | _ => undef) (by kernel_rfl) ?_
      rw [ya]
      go_simp
    | 4, ho =>
      obtain rfl := Option.some.inj ho
      have ya : y 3 = .pointer (some ⟨lg, 3, none⟩) := hK.vals 3 (hd ⟨3, .data⟩ (by simp) rfl)
      have c4x : wx.cell? ⟨lg, 3, none⟩ = some (.slice ao W.length pc) := (LgAt.keep HL.out hK.row).cells.c3
      refine .inl ⟨rfl, slot_run (v := .slice ao W.length pc) (w' := wx) ?_ ⟨_, rfl, hK.step hi' (by decide) (by decide) (Below.refl _ _) HBX.out HFX.out rfl⟩⟩
      refine runWithW (fun z => match z with | .tmp 24 => y 3 | _ => undef) (by kernel_rfl) ?_
      rw [ya]
      go_simp
    | 5, ho =>
      obtain rfl := Option.some.inj ho
      exact .inl ⟨rfl, slot_run (v := .slice (some ⟨g, off, none⟩) n c) (w' := wx) rfl ⟨_, rfl, hK.step hi' (by decide) (by decide) (Below.refl _ _) HBX.out HFX.out rfl⟩⟩
    | 6, ho =>
      obtain rfl := Option.some.inj ho
      have y5 : y 5 = .slice (some ⟨g, off, none⟩) n c := hK.vals 5 (hd ⟨5, .data⟩ (by simp) rfl)
      have h8 : M 8 = false := by
        cases hb : M 8 with
        | false => rfl
        | true => rw [(hK.post hb).1] at hi'; cases hi'
      have rx : wx.rangeAt g off (bvs l) := range_below HR.out (hK.pre h8).1 (Nat.le_refl _)
      have HH := wclone_any (w := wx) (c := c) hn (by omega) rx
      refine .inl ⟨rfl, slot_call #[.slice (some ⟨g, off, none⟩) n c] rfl Try.func48 (by kernel_rfl) (by kernel_rfl) (by simp [Act.eval, y5]) ?_⟩
      refine HH.mono ?_
      rintro e w' ⟨v, rfl, ho2, hne, hb2⟩
      exact ⟨v, rfl, _, rfl, hK.step hi' (by decide) (by decide) hb2 HBX.out HFX.out ⟨by rw [hn]; exact own_base ho2 hK.low.size, hne⟩⟩
    | 7, ho =>
      obtain rfl := Option.some.inj ho
      have e6 := hd ⟨6, .data⟩ (by simp) rfl
      have y6 : wx.ownsRow w.heap.size 5 1 (y 6) l.length (bvs l) := (hK.vals 6 e6).1
      have h8 : M 8 = false := by
        cases hb : M 8 with
        | false => rfl
        | true => rw [(hK.post hb).2.1] at hi'; cases hi'
      obtain ⟨a6, c6, z6⟩ := own_slK y6
      refine .inl ⟨rfl, slot_run (v := .slice (some ⟨wx.heap.size, 0, none⟩) 1 1) (w' := wx.alloc (.cells #[y 6] 37)) ?_ ⟨_, rfl, ?_⟩⟩
      · refine runWithW (fun z => match z with | .tmp 27 => y 6 | _ => undef) (by kernel_rfl) ?_
        rw [z6]
        go_simp
      · have hb2 : Below wx.heap.size wx (wx.alloc (.cells #[y 6] 37)) := (Below.refl _ _).alloc (Nat.le_refl _) _
        exact hK.built hi' h8 e6 hb2 HBX.out HFX.out rfl (heap_alloc_new _ _)
    | 8, ho =>
      obtain rfl := Option.some.inj ho
      have e7 := hd ⟨7, .data⟩ (by simp) rfl
      have y4 : y 4 = .slice ao W.length pc := hK.vals 4 (hd ⟨4, .data⟩ (by simp) rfl)
      obtain ⟨p1, p2⟩ := hK.pre hi'
      obtain ⟨e6, gb, yb, rb⟩ := p2 e7
      have y6 : wx.ownsRow w.heap.size 5 1 (y 6) l.length (bvs l) := (hK.vals 6 e6).1
      obtain ⟨a6, c6, z6⟩ := own_slK y6
      have src4 : Src Try.prog 1 98 (.slice (some ⟨gb, 0, none⟩) 1 1) 1 [y 6] wx := Src.any (P := Try.prog) wx (e' := 37) (size := 1) Try.underlying98 (some ⟨gb, 0, none⟩) 1 1 _ rfl (fun h => by cases h) (fun a ha j u hu => by
          cases ha
          rw [Addr.add_mid, cell_of_row wx gb (0 + j) _ _ _ rb, Nat.zero_add]
          simpa using hu) (by
          intro u hu
          simp only [List.mem_cons, List.not_mem_nil, or_false] at hu
          rw [hu, z6]; rfl)
      have hown := own_belowK HOX.out p1
      obtain ⟨v', w', hr, hg2⟩ := run_append_own_src (P := Try.prog) wx B 98 98 98 37 i1 (.slice none 0 0) 1 24 Try.underlying98 HJ0.out HJ1.out HJ2.out HJ3.out rfl (.slice ao W.length pc) W.length vs hown _ 1 _ src4 (by unfold maxLen; omega) (by omega) (Nat.le_trans HBX.out hK.low.size)
      refine .inl ⟨rfl, slot_appendW (s := .tmp 25) (x := .tmp 28) (t := 98) (tx := 98) rfl (show _ = .slice ao W.length pc by exact y4) (show _ = Value.slice (some ⟨gb, 0, none⟩) 1 1 by exact yb) hr ⟨_, rfl, ?_⟩⟩
      exact hK.grew hi' e6 e7 hg2 hown HBX.out HFX.out HFN.out
    | 9, ho =>
      obtain rfl := Option.some.inj ho
      have ya : y 0 = .pointer (some ⟨lg, 0, none⟩) := hK.vals 0 (hd ⟨0, .data⟩ (by simp) rfl)
      refine .inl ⟨rfl, slot_run (v := .pointer (some ⟨lg, 0, none⟩)) (w' := wx) ?_ ⟨_, rfl, hK.step hi' (by decide) (by decide) (Below.refl _ _) HBX.out HFX.out rfl⟩⟩
      refine runWithW (fun z => match z with | .tmp 21 => y 0 | _ => undef) (by kernel_rfl) ?_
      rw [ya]
      go_simp
    | 10, ho =>
      obtain rfl := Option.some.inj ho
      have ya : y 9 = .pointer (some ⟨lg, 0, none⟩) := hK.vals 9 (hd ⟨9, .data⟩ (by simp) rfl)
      refine .inl ⟨rfl, slot_run (v := .pointer (some ⟨lg, 3, none⟩)) (w' := wx) ?_ ⟨_, rfl, hK.step hi' (by decide) (by decide) (Below.refl _ _) HBX.out HFX.out rfl⟩⟩
      refine runWithW (fun z => match z with | .tmp 30 => y 9 | _ => undef) (by kernel_rfl) ?_
      rw [ya]
      go_simp
    | j + 11, ho => omega
  · intro o ho M y wx hall hK
    obtain rfl := Option.some.inj ho
    have y10 : y 10 = .pointer (some ⟨lg, 3, none⟩) := hK.vals 10 (hall 10 (by decide))
    obtain ⟨_, _, hown, hge, hkeep⟩ := hK.post (hall 8 (by decide))
    obtain ⟨y6, y6n⟩ := (show wx.ownsRow w.heap.size 5 1 (y 6) l.length (bvs l) ∧ y 6 ≠ .slice none 0 0 from hK.vals 6 (hall 6 (by decide)))
    obtain ⟨a8, c8, z8⟩ := own_slK hown
    have hLx : LgAt wx lg d r begin (.slice ao W.length pc) false := LgAt.keep HL.out hK.row
    have c3x := hLx.cells.c3
    have f3x : wx.frozen? ⟨lg, 3, none⟩ = false := frozen_of_row wx lg 3 _ _ hLx
    have hoth : ∀ q, q ≠ lg → (wx.setCell ⟨lg, 3, none⟩ (y 8)).heap[q]? = wx.heap[q]? := fun q hq => Below.heap_setCell wx ⟨lg, 3, none⟩ (y 8) q hq
    have hnf : ∀ {x : Value} {e : TypeId} {sz m : Nat} {xs : List Value} {C : Nat}, wx.ownsRow C e sz x m xs → 100 ≠ e → ∀ b, x.ownBlock = some b → b ≠ lg := fun h hne b hb hbf => own_neK h hLx hne (by rw [hb, hbf])
    refine ⟨rfl, slot_skipW (w' := wx.setCell ⟨lg, 3, none⟩ (y 8)) ?_ ⟨undef, rfl, a8, c8, ?_, ?_, ?_, ?_⟩⟩
    · refine runWithW (fun z => match z with | .tmp 31 => y 10 | .tmp 29 => y 8 | _ => undef) (by kernel_rfl) ?_
      rw [y10, z8]
      go_simp
    · rw [← z8]; exact hLx.setWv (y 8)
    · rw [← z8]
      refine ⟨vs ++ [y 6], by simp [HVL.out], by rw [List.length_append, List.length_singleton]; exact own_keepK hown (fun b hb _ => hoth b (hnf hown (by decide) b hb)), fun j l' u hl hu => ?_⟩
      by_cases hj : j < W.length
      · rw [List.getElem?_append_left hj] at hl
        rw [List.getElem?_append_left (by have := HVL.out; omega)] at hu
        obtain ⟨q1, q2⟩ := HVP.out j l' u hl hu
        refine ⟨own_keepK q1 fun b hb hlt => ?_, q2⟩
        have hbl : b ≠ lg := fun e => own_neK q1 HL.out (by decide) (by rw [hb, e])
        refine (hoth b hbl).trans (hkeep b hlt fun e => ?_)
        rcases q1.2 with ⟨rfl, _⟩ | ⟨g', cap, cur, rfl, _, hh, _⟩
        · simp [Value.ownBlock] at hb
        · have hb' : g' = b := by simpa [Value.ownBlock] using hb
          subst hb'
          exact own_neK HOX.out hh (by decide) e
      · have hj2 : j = W.length := by
          have := (List.getElem?_eq_some_iff.1 hl).1
          simp at this
          omega
        subst hj2
        rw [List.getElem?_append_right (Nat.le_refl _)] at hl
        rw [List.getElem?_append_right (by have := HVL.out; omega)] at hu
        simp [HVL.out] at hl hu
        subst hl hu
        exact ⟨own_keepK (own_base y6 HBX.out) fun b hb _ => hoth b (hnf y6 (by decide) b hb), y6n⟩
    · exact fun hlg => hK.low.setCell (p := ⟨lg, 3, none⟩) hlg (y 8)
    · exact ⟨hK.low.os, hK.low.tape, hK.low.output, by simpa using hge, fun q hq hne => (hoth q (fun e => hne (.inl e))).trans (hkeep q hq fun e => hne (.inr e))⟩
  · rintro y wx ⟨ao', pc', hLx, hWx, hBx, hFx⟩
    have H1 := Lib.hid hLx
    have H2 := Lib.hid hWx
    have H3 := Lib.hid hBx
    have H4 := Lib.hid hFx
    clear hLx hWx hBx hFx
    go_wp2_with fail
    go_ret
    exact ⟨rfl, ao', pc', H1.out, H2.out, H3.out, H4.out⟩
end Go.Proofs.Ytdjpeebekpjiiaa.Dk
