/- A region that draws its order, whose operations also read what later ones of it write. Of no program. -/
import Derived.Test.YtkmhbbcppjckiaaK0G
import Derived.Test.YtkmhbbcppjckiaaK0N
namespace Go.Proofs.Ytkmhbbcppjckiaa
open Go
section
variable {P : Program} {ops : Array Oper} {Q : Exit → Act → World → Prop}
theorem wp_region_parX {α : Type} {id : Nat} {a : Act} {w : World} (hm : P.follows .mixedOrders = true) (hback : backOkG ops = true) (mk : (Nat → Value) → Act) (F : α → Nat → Value → Prop) (I : (Nat → Bool) → α → World → Prop) (src : Nat → Bool) (later : Nat → Nat → Bool) (x0 : Nat → Value)
    (hlater : ∀ i j o, src i = true → later i j = true → ops[j]? = some o → ∃ e ∈ o.after, Region.binds .any e = true ∧ (e.on = i ∨ later i e.on = true))
    (hq : ∀ i o, src i = false → ops[i]? = some o → ∀ (L : Nat → Bool) (p : α) (x : Nat → Value) (w : World), (∀ e ∈ o.after, Region.binds .any e = true → F p e.on (x e.on)) → L i = false → (∀ j, L j = false → x j = x0 j) → (∀ j o' e, ops[j]? = some o' → e ∈ o'.after → Region.binds .any e = true → L e.on = false → L j = false) → I L p w →
      (Region.wanted o (yielded ops (mk x).tmps) = true ∧ ∃ v, (execOp (mk x).eval o).run P w = .ok (.value v) w ∧ (mk x).put o.dst v = mk (upd x i v) ∧ F p i v ∧ I (upd L i true) p w) ∨
      (Region.wanted o (yielded ops (mk x).tmps) = false ∧ ∃ v, (mk x).put o.dst undef = mk (upd x i v) ∧ F p i v ∧ I (upd L i true) p w))
    (hs : ∀ i o, src i = true → ops[i]? = some o → ∀ (L : Nat → Bool) (p : α) (x : Nat → Value) (w : World), (∀ e ∈ o.after, Region.binds .any e = true → L e.on = true ∧ F p e.on (x e.on)) → L i = false → (∀ j, L j = false → x j = x0 j) → (∀ j, later i j = true → L j = false) → I L p w →
      Region.wanted o (yielded ops (mk x).tmps) = true ∧ o.wp P (mk x) w (fun a' w' => ∃ v p', a' = mk (upd x i v) ∧ F p' i v ∧ (∀ j q, j ≠ i → later i j = false → F p j q → F p' j q) ∧ I (upd L i true) p' w') Q)
    (hend : ∀ L p x w, (∀ j, j < ops.size → L j = true ∧ F p j (x j)) → I L p w → Q .normal (mk x) w)
    (p0 : α) (h0 : a = mk x0) (hI : I (fun _ => false) p0 w.drew) : (Code.region id ops true).wp P Q a w := by
  refine wp_region_slotsJ hm hback mk (fun L x w => (∀ i j, src i = true → later i j = true → j < ops.size → L j = true → L i = true) ∧ (∀ j, L j = true → j < ops.size) ∧ (∀ j, L j = false → x j = x0 j) ∧ (∀ j o' e, ops[j]? = some o' → e ∈ o'.after → Region.binds .any e = true → L e.on = false → L j = false) ∧ ∃ p, I L p w ∧ ∀ j, L j = true → F p j (x j)) ?_ ?_ x0 h0 ⟨(fun i j _ _ _ h => by cases h), (fun j h => by cases h), (fun j _ => rfl), (fun j o' e _ _ _ _ => rfl), p0, hI, fun j h => by cases h⟩
  · rintro i o ho L x w hd hi ⟨hc, hsz, hx0, hnl, p, hIp, hF⟩
    have hilt : i < ops.size := (Array.getElem?_eq_some_iff.1 ho).1
    have hcl : ∀ i' j, src i' = true → later i' j = true → j < ops.size → upd L i true j = true → upd L i true i' = true := by
      intro i' j hs' hl hj hL
      by_cases hii : i' = i
      · rw [hii, upd_self]
      · rw [upd_ne _ _ hii]
        by_cases hji : j = i
        · subst hji
          obtain ⟨e, he, hb, hor⟩ := hlater i' j o hs' hl ho
          have hLe := hd e he hb
          rcases hor with h | h
          · rw [← h]; exact hLe
          · exact hc i' e.on hs' h (Nat.lt_trans (backOkG_spec hback ho e he hb) hilt) hLe
        · rw [upd_ne _ _ hji] at hL
          exact hc i' j hs' hl hj hL
    have hsz' : ∀ j, upd L i true j = true → j < ops.size := by
      intro j hj
      by_cases hji : j = i
      · rw [hji]; exact hilt
      · rw [upd_ne _ _ hji] at hj
        exact hsz j hj
    have hx0' : ∀ v, ∀ j, upd L i true j = false → upd x i v j = x0 j := by
      intro v j hj
      by_cases hji : j = i
      · rw [hji, upd_self] at hj; cases hj
      · rw [upd_ne _ _ hji] at hj ⊢
        exact hx0 j hj
    have hnl' : ∀ j o' e, ops[j]? = some o' → e ∈ o'.after → Region.binds .any e = true → upd L i true e.on = false → upd L i true j = false := by
      intro j o' e h1 h2 h3 h4
      have h5 : e.on ≠ i := fun h => by rw [h, upd_self] at h4; cases h4
      rw [upd_ne _ _ h5] at h4
      by_cases hji : j = i
      · subst hji
        rw [ho] at h1
        cases h1
        have := hd e h2 h3
        rw [h4] at this
        cases this
      · rw [upd_ne _ _ hji]
        exact hnl j o' e h1 h2 h3 h4
    cases hsi : src i with
    | false =>
      rcases hq i o hsi ho L p x w (fun e he hb => hF e.on (hd e he hb)) hi hx0 hnl hIp with ⟨hw, v, hr, hp, hFv, hIv⟩ | ⟨hw, v, hp, hFv, hIv⟩
      · exact .inl ⟨hw, slot_run (v := v) (w' := w) hr ⟨v, hp, hcl, hsz', hx0' v, hnl', p, hIv, updJ hF hFv⟩⟩
      · exact .inr ⟨hw, v, hp, hcl, hsz', hx0' v, hnl', p, hIv, updJ hF hFv⟩
    | true =>
      obtain ⟨hw, hwp⟩ := hs i o hsi ho L p x w (fun e he hb => ⟨hd e he hb, hF e.on (hd e he hb)⟩) hi hx0 (fun j hl => by
        cases hj : L j with
        | false => rfl
        | true =>
          have := hc i j hsi hl (hsz j hj) hj
          rw [hi] at this
          cases this) hIp
      refine .inl ⟨hw, Oper.wp_mono (fun a' w' h' => ?_) hwp⟩
      obtain ⟨v, p', rfl, hFv, hkeep, hIv⟩ := h'
      refine ⟨v, rfl, hcl, hsz', hx0' v, hnl', p', hIv, fun j hj => ?_⟩
      by_cases hji : j = i
      · subst hji; rw [upd_self]; exact hFv
      · rw [upd_ne _ _ hji] at hj ⊢
        by_cases hlj : later i j = true
        · have := hc i j hsi hlj (hsz j hj) hj
          rw [hi] at this
          cases this
        · exact hkeep j _ hji (by simpa using hlj) (hF j hj)
  · rintro L x w hall ⟨hc, _, _, _, p, hIp, hF⟩
    exact hend L p x w (fun j hj => ⟨hall j hj, hF j (hall j hj)⟩) hIp
end
end Go.Proofs.Ytkmhbbcppjckiaa
/- A worker takes a task: the walk. -/
namespace Go.Proofs.Ytkmhbbcppjckiaa.Ma
open Go Go.RowKit Go.Proofs.Ytkmhbbcppjckiaa
open Go.Proofs.Ytkmhbbcppjckiaa.Hp (i64wf K3 wf3)
open Go.Proofs.Ytkmhbbcppjckiaa.Qu
open Go.Proofs.Ytkmhbbcppjckiaa.Dk (Frm below_drewN)
set_option linter.unusedVariables false
set_option linter.unusedSimpArgs false
set_option maxRecDepth 100000
variable {w w' wx : World} {T T' X : Nat → Prop} {b o : Nat} {R R0 : Array Value} {ty : TypeId} {M M' : MM}
theorem MPostX.glue (hF : Frm T w wx) (hT : ∀ q, T' q → (T q ∨ w.heap.size ≤ q) ∧ q < wx.heap.size ∧ ¬ X q) (hP : MPost wx T' b o R0 ty M' w') (hX : ∀ q, X q → q < wx.heap.size) : MPostX w T b o R0 ty M' X w' := by
  obtain ⟨hF2, T2, hM2, hT2⟩ := hP
  refine ⟨hF.transT hF2 fun q hq h1 => ?_, T2, hM2, fun q hq => ⟨?_, (hT2 q hq).2, fun hx => ?_⟩⟩
  · rcases (hT q h1).1 with h | h
    · exact h
    · omega
  · rcases (hT2 q hq).1 with h | h
    · exact (hT q h).1
    · exact .inr (Nat.le_trans hF.size h)
  · rcases (hT2 q hq).1 with h | h
    · exact (hT q h).2.2 hx
    · have := hX q hx; omega
theorem MPostX.alloc (h : MPostX w T b o R0 ty M X wx) (ob : Obj) : MPostX w T b o R0 ty M (fun q => X q ∨ q = wx.heap.size) (wx.alloc ob) := by
  obtain ⟨hF, T', hM, hT⟩ := h
  have b1 : Below wx.heap.size wx (wx.alloc ob) := (Below.refl _ _).alloc (Nat.le_refl _) _
  refine ⟨hF.alloc ob, T', hM.below b1, fun q hq => ⟨(hT q hq).1, Nat.lt_of_lt_of_le (hT q hq).2.1 b1.size, fun hx => ?_⟩⟩
  rcases hx with hx | hx
  · exact (hT q hq).2.2 hx
  · have := (hT q hq).2.1; omega
theorem MPostX.monoX {X' : Nat → Prop} (h : MPostX w T b o R0 ty M X wx) (hX : ∀ q, X' q → X q) : MPostX w T b o R0 ty M X' wx := by
  obtain ⟨hF, T', hM, hT⟩ := h
  exact ⟨hF, T', hM, fun q hq => ⟨(hT q hq).1, (hT q hq).2.1, fun hx => (hT q hq).2.2 (hX q hx)⟩⟩
theorem MPostX.give (h : MPostX w T b o R0 ty M X wx) (g' : Int) : MPostX w T b o R0 ty (M.g g') X (wx.setCell ⟨b, o, none⟩ (.int .u64 g')) := by
  obtain ⟨hF, T', hM, hT⟩ := h
  have hb : T' b := by
    obtain ⟨R, mq, Q, ao, c, h1, h2, h3, h4, h5⟩ := hM
    exact h4 0 (by decide) b h1.tb
  have hF2 : Frm T w (wx.setCell ⟨b, o, none⟩ (.int .u64 g')) := hF.setCell (p := ⟨b, o, none⟩) (hT b hb).1 _
  refine ⟨hF2, T', hM.give g', fun q hq => ⟨(hT q hq).1, ?_, (hT q hq).2.2⟩⟩
  exact Nat.lt_of_lt_of_le (hT q hq).2.1 ((Frm.refl (fun _ => True) wx).setCell (p := ⟨b, o, none⟩) (.inl trivial) _).size
theorem MPostX.nb (h : MPostX w T b o R0 ty M X wx) : ¬ X b := by
  obtain ⟨hF, T', ⟨R, mq, Q, ao, c, h1, h2, h3, h4, h5⟩, hT⟩ := h
  exact (hT b (h4 0 (by decide) b h1.tb)).2.2
theorem MPostX.cell (h : MPostX w T b o R0 ty M X wx) : wx.cell? ⟨b, o, none⟩ = some (.int .u64 M.giv) ∧ wx.frozen? ⟨b, o, none⟩ = false := by
  obtain ⟨hF, T', ⟨R, mq, Q, ao, c, h1, h2, h3, h4, h5⟩, hT⟩ := h
  exact ⟨by rw [cell_of_row wx b _ _ _ _ h1.row]; exact h1.given, frozen_of_row wx b _ _ _ h1.row⟩
/-- What stands while the lease is made. -/
structure PoI (w : World) (T : Nat → Prop) (b o : Nat) (R0 : Array Value) (ty : TypeId) (M : MM) (g g4 : Nat) (k : K3) (L : Ls) (s3 s9 s10 : Bool) (p : Nat) (wx : World) : Prop where
  res : wx.heap[g]? = some (.cells l0.cs.toArray 80 (0, 0))
  box : wx.heap[g4]? = some (.cells (kcs k).toArray 32 (0, 0))
  m : MPostX w T b o R0 ty (if s3 = true then M.g (M.giv + 1) else M) (fun q => q = g ∨ q = g4 ∨ (s9 = true ∧ q = p)) wx
  new : s9 = true → w.heap.size ≤ p ∧ p ≠ g ∧ p ≠ g4 ∧ wx.heap[p]? = some (.cells (if s10 = true then L else l0).cs.toArray 80 (0, 0))
section
variable {g g4 p : Nat} {k : K3} {L : Ls} {s3 s9 s10 : Bool}
theorem PoI.next (h : PoI w T b o R0 ty M g g4 k L false s9 s10 p wx) : PoI w T b o R0 ty M g g4 k L true s9 s10 p (wx.setCell ⟨b, o, none⟩ (.int .u64 (M.giv + 1))) := by
  have nb := h.m.nb
  refine ⟨(setCell_other _ _ _ (fun e => nb (.inl (Eq.symm e)))).trans h.res, (setCell_other _ _ _ (fun e => nb (.inr (.inl (Eq.symm e))))).trans h.box, h.m.give _, fun e => ?_⟩
  obtain ⟨h1, h2, h3, h4⟩ := h.new e
  exact ⟨h1, h2, h3, (setCell_other _ _ _ (fun e2 => nb (.inr (.inr ⟨e, (Eq.symm e2)⟩)))).trans h4⟩
theorem PoI.made (h : PoI w T b o R0 ty M g g4 k L s3 false false p wx) : PoI w T b o R0 ty M g g4 k L s3 true false wx.heap.size (wx.alloc (.cells l0.cs.toArray 80)) := by
  have b1 : Below wx.heap.size wx (wx.alloc (.cells l0.cs.toArray 80)) := (Below.refl _ _).alloc (Nat.le_refl _) _
  have hg := lt_of_rowW h.res
  have hg4 := lt_of_rowW h.box
  refine ⟨(b1.block g hg).trans h.res, (b1.block g4 hg4).trans h.box, (h.m.alloc _).monoX fun q hq => ?_, fun _ => ⟨h.m.1.size, by omega, by omega, heap_alloc_new _ _⟩⟩
  rcases hq with e | e | ⟨_, e⟩
  · exact .inl (.inl e)
  · exact .inl (.inr (.inl e))
  · exact .inr e
theorem PoI.stored (h : PoI w T b o R0 ty M g g4 k L s3 true false p wx) : PoI w T b o R0 ty M g g4 k L s3 true true p (wx.setRow p L.cs.toArray) := by
  obtain ⟨h1, h2, h3, h4⟩ := h.new rfl
  exact ⟨(setRow_other _ _ _ _ (Ne.symm h2)).trans h.res, (setRow_other _ _ _ _ (Ne.symm h3)).trans h.box, h.m.setRow (.inr (.inr ⟨rfl, rfl⟩)) h1 _, fun _ => ⟨h1, h2, h3, setRow_heap _ p _ _ _ _ h4⟩⟩
end
theorem src_block {P : Program} {tx e : TypeId} {size g : Nat} {w : World} {cs : List Value} (hk : P.underlying tx = some (.slice e)) (h : w.heap[g]? = some (.cells cs.toArray e (0, 0))) (hl : cs.length = size) (h1 : ∀ u ∈ cs, u.oneCell' = true) : Go.Src P size tx (.slice (some ⟨g, 0, none⟩) 1 1) 1 cs w :=
  Src.any _ (e' := e) hk _ 1 1 cs (by omega) (fun h => by cases h) (fun a ha jn u hu => by
    cases ha
    exact box_at h jn u hu) h1
/-- An append within a region that draws its order: what it leaves alone, and where the new row lies. -/
theorem slot_appR {P : Program} {Q : Exit → Act → World → Prop} {o : Oper} {a : Act} {w : World} {K : Act → World → Prop} (s x : Operand) (tS tx : TypeId) (ho : o.op = .call { callee := .builtin .append, args := #[s, x], argTypes := #[tS, tx] })
    (B : Nat) (e : TypeId) (size bytes : Nat) (zv : Value) (hu : P.underlying tS = some (.slice e)) (hinfo : (P.info? e).map (fun i => (i.zero, i.size, i.bytes)) = some (some zv, size, bytes)) (hb : bytes ≤ 128) (hzv : zv.cells.size = size)
    (v : Value) (n : Nat) (xs : List Value) (hsv : a.eval s = v) (own : w.ownsRow B e size v n xs) (xv : Value) (m : Nat) (news : List Value) (hx : a.eval x = xv) (hs : Go.Src P size tx xv m news w) (hlim : n + m ≤ 1000000) (hB : B ≤ w.heap.size)
    (h : ∀ v' w', w'.ownsRow B e size v' (n + m) (xs ++ news) → Frm (fun q => v.ownBlock = some q) w w' → (v'.ownBlock = v.ownBlock ∨ v'.ownBlock = some w.heap.size) → K (a.put o.dst v') w') : o.wp P a w K Q := by
  obtain ⟨i0, hi, hz0, hz1, hz2⟩ := info_partsK hinfo
  have hbb : (n + m) * bytes ≤ (n + m) * 128 := Nat.mul_le_mul_left _ hb
  obtain ⟨v', w', hr, h2⟩ := run_append_own_src (P := P) w B tS tx o.type e i0 zv size bytes hu hi hz0 hz1 hz2 hzv v n xs own xv m news hs (by unfold maxLen; omega) (by omega) hB
  unfold Oper.wp execOp
  simp only [ho, resolve, invoke, builtin, Sem.run_bind, Sem.run_pure, Result.andThen_ok, List.map_toArray, List.map_cons, List.map_nil, hsv, hx, hr]
  obtain ⟨o4, g4, b4⟩ := h2
  exact h _ w' o4 ((Frm.refl _ w).grown g4 (fun jn hj => .inl hj)) b4
/-- What an append onto the leases leaves. -/
structure PaG (w7 : World) (ao : Option Addr) (n c : Nat) (E : List Ls) (L : Ls) (v : Value) (wy : World) : Prop where
  own : wy.ownsRow 0 80 6 v (n + 1) (lss E ++ L.cs)
  frm : Frm (fun q => (Value.slice ao n c).ownBlock = some q) w7 wy
  at_ : ∀ q, v.ownBlock = some q → (Value.slice ao n c).ownBlock = some q ∨ w7.heap.size ≤ q
structure PaP where
  a6 : Nat
  v7 : Value
/-- What stands while the lease is hung on. -/
structure PaI (w7 : World) (b o : Nat) (ao : Option Addr) (n c : Nat) (E : List Ls) (L : Ls) (s6 s7 s10 : Bool) (p : PaP) (wx : World) : Prop where
  low : s7 = false → Below w7.heap.size w7 wx
  z6 : s6 = true → s7 = false → wx.heap[p.a6]? = some (.cells L.cs.toArray 80 (0, 0)) ∧ w7.heap.size ≤ p.a6
  z7 : s7 = true → s10 = false → PaG w7 ao n c E L p.v7 wx
  z10 : s10 = true → ∃ wy, PaG w7 ao n c E L p.v7 wy ∧ wx = wy.setCell ⟨b, o + 196, none⟩ p.v7
section
variable {w7 : World} {ao : Option Addr} {n c : Nat} {E : List Ls} {L : Ls} {p : PaP}
theorem PaI.made (h : PaI w7 b o ao n c E L false false false p wx) : PaI w7 b o ao n c E L true false false ⟨wx.heap.size, p.v7⟩ (wx.alloc (.cells L.cs.toArray 80)) := by
  have b1 : Below wx.heap.size wx (wx.alloc (.cells L.cs.toArray 80)) := (Below.refl _ _).alloc (Nat.le_refl _) _
  exact ⟨fun _ => (h.low rfl).trans (b1.mono (h.low rfl).size), fun _ _ => ⟨heap_alloc_new _ _, (h.low rfl).size⟩, (fun e => by cases e), (fun e => by cases e)⟩
theorem PaI.app {v : Value} (h : PaI w7 b o ao n c E L true false false p wx) (ho : w'.ownsRow 0 80 6 v (n + 1) (lss E ++ L.cs)) (hF : Frm (fun q => (Value.slice ao n c).ownBlock = some q) wx w') (hb : v.ownBlock = (Value.slice ao n c).ownBlock ∨ v.ownBlock = some wx.heap.size) : PaI w7 b o ao n c E L true true false ⟨p.a6, v⟩ w' := by
  have hl := h.low rfl
  refine ⟨(fun e => by cases e), (fun _ e => by cases e), fun _ _ => ⟨ho, (Frm.of_below hl (Nat.le_refl _)).trans hF, fun q hq => ?_⟩, (fun e => by cases e)⟩
  rcases hb with h1 | h1
  · exact .inl (h1 ▸ hq)
  · rw [h1] at hq
    injection hq with hq
    exact .inr (by rw [← hq]; exact hl.size)
theorem PaI.set (h : PaI w7 b o ao n c E L true true false p wx) : PaI w7 b o ao n c E L true true true p (wx.setCell ⟨b, o + 196, none⟩ p.v7) :=
  ⟨(fun e => by cases e), (fun _ e => by cases e), (fun _ e => by cases e), fun _ => ⟨wx, h.z7 rfl rfl, rfl⟩⟩
/-- The Match with one lease more. -/
theorem MPostX.grown {R : Array Value} {mq : Nat → Option Nat} {Q : Nat → List Lk} {wy : World} {v : Value} (hF : Frm T w w7) (hA : MtAt w7 b o R ty M.giv mq Q ao c M.E) (h2 : ∀ k, k < 65 → (Q k).map Lk.tk = M.W k) (h3 : ∀ i, i < o ∨ o + 197 ≤ i → R[i]? = R0[i]?) (h4 : ∀ k, k < 65 → ∀ q, own b (mq k) (Q k) q → T' q) (h5 : ∀ q, (Value.slice ao M.E.length c).ownBlock = some q → T' q)
    (hT : ∀ q, T' q → (T q ∨ w.heap.size ≤ q) ∧ q < w7.heap.size ∧ ¬ X q) (hX : ∀ q, X q → q < w7.heap.size) (g : PaG w7 ao M.E.length c M.E L v wy) : MPostX w T b o R0 ty (M.l (M.E ++ [L])) X (wy.setCell ⟨b, o + 196, none⟩ v) ∧ ∀ q, X q → (wy.setCell ⟨b, o + 196, none⟩ v).heap[q]? = w7.heap[q]? := by
  obtain ⟨a', c', rfl⟩ := own_slK g.own
  have e : (M.E ++ [L]).length = M.E.length + 1 := by simp
  have hrow : LRow wy 0 a' c' (M.E ++ [L]) := by
    have h := g.own
    unfold LRow
    rw [e, lss_app]
    simpa [lss] using h
  have hblk : ∀ k, k < w7.heap.size → some k ≠ (Value.slice ao M.E.length c).ownBlock → wy.heap[k]? = w7.heap[k]? := fun k hk hne => g.frm.block k hk fun e => hne e.symm
  have hat : ∀ q, (Value.slice a' (M.E ++ [L]).length c').ownBlock = some q → (Value.slice ao M.E.length c).ownBlock = some q ∨ w7.heap.size ≤ q := by rw [e]; exact g.at_
  have hG := hA.grow hrow hblk hat
  rw [e] at hG
  have hb : T' b := h4 0 (by decide) b hA.tb
  have hFy : Frm T w wy := hF.transT g.frm fun q hq hq2 => by
    rcases (hT q (h5 q hq2)).1 with h | h
    · exact h
    · omega
  have hsz : wy.heap.size ≤ (wy.setCell ⟨b, o + 196, none⟩ (.slice a' (M.E.length + 1) c')).heap.size := ((Frm.refl (fun _ => True) wy).setCell (p := ⟨b, o + 196, none⟩) (.inl trivial) _).size
  refine ⟨⟨hFy.setCell (p := ⟨b, o + 196, none⟩) (hT b hb).1 _, fun q => T' q ∨ (w7.heap.size ≤ q ∧ q < wy.heap.size), ⟨R.setIfInBounds (o + 196) (.slice a' (M.E.length + 1) c'), mq, Q, a', c', ?_, h2, fun i hi => (Array.getElem?_setIfInBounds_ne (show o + 196 ≠ i by omega)).trans (h3 i hi), fun k hk q hq => .inl (h4 k hk q hq), fun q hq => ?_⟩, fun q hq => ?_⟩, fun q hq => ?_⟩
  · exact hG
  · have hq' : (Value.slice a' (M.E ++ [L]).length c').ownBlock = some q := hq
    rcases hat q hq' with h | h
    · exact .inl (h5 q h)
    · exact .inr ⟨h, (hrow.lt q hq').2⟩
  · rcases hq with h | ⟨h, h'⟩
    · exact ⟨(hT q h).1, Nat.lt_of_lt_of_le (hT q h).2.1 (Nat.le_trans g.frm.size hsz), (hT q h).2.2⟩
    · exact ⟨.inr (Nat.le_trans hF.size h), Nat.lt_of_lt_of_le h' hsz, fun hx => by have := hX q hx; omega⟩
  · have hqb : q ≠ b := fun e => (hT b hb).2.2 (e ▸ hq)
    rw [setCell_other _ _ _ hqb]
    exact hblk q (hX q hq) fun e => (hT q (h5 q e.symm)).2.2 hq
end
set_option maxHeartbeats 2000000 in
theorem mt_poll_ok (h : MT w T b o R0 ty M) (wk kind now : Int) (hE : M.E.length < 256) (hiw : isW wk = true) (hg0 : 0 ≤ M.giv) (hg1 : M.giv < 9223372036854775807) (hn0 : -9223372036854775808 ≤ now) (hn1 : now + 20 < 9223372036854775808) : Calls Try.prog 27 #[.pointer (some ⟨b, o, none⟩), .int .i64 wk, .int .i64 kind, .int .i64 now] w fun e w' => e = .returned (.tuple #[.agg (M.plL wk kind now).cs.toArray, .int .i64 (M.plE wk kind)]) ∧ MPost w T b o R0 ty (M.pl wk kind now) w' := by
  obtain ⟨T1, hT1⟩ : ∃ T1 : Nat → Prop, T1 = fun q => T q ∧ q < w.heap.size := ⟨_, rfl⟩
  have h1 : MT w T1 b o R0 ty M := by rw [hT1]; exact h.lts
  suffices hs : Calls Try.prog 27 #[.pointer (some ⟨b, o, none⟩), .int .i64 wk, .int .i64 kind, .int .i64 now] w fun e w' => e = .returned (.tuple #[.agg (M.plL wk kind now).cs.toArray, .int .i64 (M.plE wk kind)]) ∧ MPost w T1 b o R0 ty (M.pl wk kind now) w' from
    hs.mono fun e w' hh => ⟨hh.1, hh.2.mono fun q hq => by rw [hT1] at hq; exact hq.1⟩
  have hTlt : ∀ q, T1 q → q < w.heap.size := fun q hq => by rw [hT1] at hq; exact hq.2
  clear h hT1
  obtain ⟨jn, rfl, hj1, hj⟩ : ∃ jn : Nat, wk = (jn : Int) ∧ 1 ≤ jn ∧ jn < 65 := by
    simp only [isW, Bool.and_eq_true, decide_eq_true_eq] at hiw
    exact ⟨wk.toNat, by omega, by omega, by omega⟩
  have epE : M.plE (jn : Int) kind = if (M.t2 jn kind).2 = false then 4 else 0 := by
    unfold MM.plE
    rw [if_neg (by rw [hiw]; decide), if_neg (by omega), Int.toNat_natCast]
  obtain ⟨w1, hw1⟩ : ∃ x, x = w.alloc (.cells l0.cs.toArray 80) := ⟨_, rfl⟩
  obtain ⟨g, hg⟩ : ∃ g, g = w.heap.size := ⟨_, rfl⟩
  have b1 : Below w.heap.size w w1 := by rw [hw1]; exact (Below.refl _ _).alloc (Nat.le_refl _) _
  have n1 : w1.heap[g]? = some (.cells l0.cs.toArray 80 (0, 0)) := by rw [hw1, hg]; exact heap_alloc_new _ _
  have HA := Lib.hid (show ∃ ao c, w1.cell? ⟨b, o + 196, none⟩ = some (.slice ao M.E.length c) from by
    obtain ⟨R, mq, Q, ao, c, hA, _⟩ := h1
    exact ⟨ao, c, by rw [cell_of_row w1 b _ _ _ _ (hA.below b1).row]; exact hA.ls⟩)
  obtain ⟨ao, c, LC⟩ := HA.out
  obtain ⟨n, hn⟩ : ∃ n, n = M.E.length := ⟨_, rfl⟩
  rw [← hn] at LC
  have hn256 : ¬ ((n : Int) = 256) := by omega
  have IW := Lib.hid (fun W => isWorker_any (jn : Int) W)
  rw [hiw] at IW
  have TK := Lib.hid (mt_take (h1.below b1) hj kind)
  obtain ⟨k1, ok1, hk1⟩ : ∃ k ok, fiK kind (keysT (M.W jn)) = (k, ok) := ⟨_, _, rfl⟩
  rw [hk1] at TK
  have SL := Lib.hid (fun l : Ls => lsSizeA l)
  have OL := Lib.hid (fun l : Ls => l.oneA)
  have SK := Lib.hid (show ∀ k : K3, (Try.prog.info? 32).map (·.size) = some (kcs k).toArray.size from fun k => by kernel_rfl)
  have OK := Lib.hid (fun k : K3 => kcs_one k)
  have H1 := Lib.hid h1
  have HW := Lib.hid hw1
  have HG := Lib.hid hg
  have B1 := Lib.hid b1
  have N1 := Lib.hid n1
  have HT := Lib.hid hTlt
  have HN := Lib.hid hn
  have HK1 := Lib.hid hk1
  have EP := Lib.hid epE
  have GB := Lib.hid (And.intro hg0 hg1)
  have GL := Lib.hid (show w.heap.size ≤ g from Nat.le_of_eq hg.symm)
  have hj0 : (0 : Int) ≤ (jn : Int) := by omega
  have hj2 : (jn : Int) < 65 := by omega
  obtain ⟨PE, hPE⟩ : ∃ z, z = M.plE (jn : Int) kind := ⟨_, rfl⟩
  obtain ⟨PL, hPL⟩ : ∃ z, z = M.plL (jn : Int) kind now := ⟨_, rfl⟩
  obtain ⟨PM, hPM⟩ : ∃ z, z = M.pl (jn : Int) kind now := ⟨_, rfl⟩
  rw [← hPE, ← hPL, ← hPM]
  have HPE := Lib.hid hPE
  have HPL := Lib.hid hPL
  have HPM := Lib.hid hPM
  clear h1 hw1 hg b1 n1 hTlt hk1 hn epE hg0 hg1 hPE hPL hPM hiw
  go_enter Try.func27, Try.ntmps27
  go_upto_region 1 with fail
  rw [show (#[.int .u64 0, .int .i64 0, .int .i64 0, .int .i64 0, .int .i64 0, .int .i64 0] : Array Value) = l0.cs.toArray from rfl, ← HW.out, ← HG.out]
  go_upto_region 6 with (first
    | (with_reducible refine (IW.out _).mono ?_; rintro e w4 ⟨rfl, rfl⟩)
    | (with_reducible refine TK.out.mono ?_; rintro e w3 ⟨rfl, hP3⟩)
    | (with_reducible show wpList _ _ _ _ _ _; refine wpList_store_newW rfl 32 (.tmp 10) (.tmp 29) rfl 32 _ (kcs k1).toArray (by with_unfolding_all rfl) (by with_unfolding_all rfl) (SK.out k1) rfl (OK.out k1) ?_))
  obtain ⟨w4, hw4⟩ : ∃ w4, w4 = w3.alloc (.cells (kcs k1).toArray 32) := ⟨_, rfl⟩
  obtain ⟨g4, hg4⟩ : ∃ g, g = w3.heap.size := ⟨_, rfl⟩
  have hX3 := MPostX.of (X := fun q => q = g) B1.out hP3 (fun q hq => by
    subst hq
    exact ⟨lt_of_rowW N1.out, fun e => by have h2 := HT.out _ e; have h3 := GL.out; omega⟩)
  have n3 : w3.heap[g]? = some (.cells l0.cs.toArray 80 (0, 0)) := (hP3.1.block g (lt_of_rowW N1.out) (fun e => by have h2 := HT.out _ e; have h3 := GL.out; omega)).trans N1.out
  have b4 : Below w3.heap.size w3 w4 := by rw [hw4]; exact (Below.refl _ _).alloc (Nat.le_refl _) _
  have N4 := Lib.hid (show w4.heap[g]? = some (.cells l0.cs.toArray 80 (0, 0)) from (b4.block g (lt_of_rowW n3)).trans n3)
  have X4 := Lib.hid (show w4.heap[g4]? = some (.cells (kcs k1).toArray 32 (0, 0)) by rw [hw4, hg4]; exact heap_alloc_new _ _)
  have M4 := Lib.hid (show MPostX w T1 b o R0 ty (M.tk jn kind) (fun q => q = g ∨ q = g4) w4 by rw [hw4, hg4]; exact hX3.alloc _)
  have G4N := Lib.hid (show g ≠ g4 from fun e => by have := lt_of_rowW n3; omega)
  have G4L := Lib.hid (show w.heap.size ≤ g4 from by rw [hg4]; exact Nat.le_trans B1.out.size hP3.1.size)
  rw [← hw4, ← hg4]
  clear hP3 hX3 n3 b4 hw4 hg4
  cases ok1 with
  | true =>
    have ht2 : M.t2 jn kind = (k1, true) := by unfold MM.t2; rw [HK1.out]; rfl
    have ht2M : M.t2M jn kind = M.tk jn kind := by unfold MM.t2M; rw [HK1.out]; rfl
    obtain ⟨k, hk⟩ : ∃ k, k = k1 := ⟨_, rfl⟩
    obtain ⟨M1, hM1⟩ : ∃ M1, M1 = M.tk jn kind := ⟨_, rfl⟩
    rw [← hM1] at M4 ht2M
    have e1 : M1.E = M.E ∧ M1.giv = M.giv := by rw [hM1]; exact MM.tk_E
    go_upto_region 10 with fail
    obtain ⟨wz, hwz⟩ : ∃ wz : World, wz = w4 := ⟨_, rfl⟩
    have NZ := Lib.hid (show wz.heap[g]? = some (.cells l0.cs.toArray 80 (0, 0)) by rw [hwz]; exact N4.out)
    have XZ := Lib.hid (show wz.heap[g4]? = some (.cells (kcs k).toArray 32 (0, 0)) by rw [hwz, hk]; exact X4.out)
    have MZ := Lib.hid (show MPostX w T1 b o R0 ty M1 (fun q => q = g ∨ q = g4) wz by rw [hwz]; exact M4.out)
    rw [← hwz, ← hk] 
    rw [← hk] at ht2
    clear hwz hk hM1 M4 N4 X4
    have GV := Lib.hid (show 0 ≤ M1.giv ∧ M1.giv < 9223372036854775807 by rw [e1.2]; exact GB.out)
    have I0 := Lib.hid (show PoI w T1 b o R0 ty M1 g g4 k (Ls.mk (M1.giv + 1) k (jn : Int) (now + 20)) false false false 0 wz.drew from ⟨NZ.out, XZ.out, (MZ.out.below (below_drewN (Below.refl _ _) 1)).monoX (fun q hq => by
      rcases hq with e | e | ⟨e, _⟩
      · exact .inl e
      · exact .inr e
      · cases e), (fun e => by cases e)⟩)
    refine wp_region_par (α := Nat) (by kernel_rfl) (by kernel_rfl) (by kernel_rfl) (fun y => ⟨#[.pointer (some ⟨b, o, none⟩), .int .i64 (jn : Int), .int .i64 kind, .int .i64 now, undef, undef, undef, undef, .pointer (some ⟨g, 0, none⟩), .int .i64 0, .pointer (some ⟨g4, 0, none⟩), .bool true, y 9, .int .i64 (jn : Int), .bool true, .bool false, undef, .pointer (some ⟨b, o, none⟩), .pointer (some ⟨b, o, none⟩), .pointer (some ⟨b, o + 196, none⟩), .slice ao n c, .int .i64 (n : Int), .bool false, undef, Value.tuple #[.agg (kcs k).toArray, .bool true], .pointer (some ⟨b, o, none⟩), .int .i64 (jn : Int), .int .i64 kind, Value.tuple #[.agg (kcs k).toArray, .bool true], .agg (kcs k).toArray, .bool true, .bool true, .bool false, undef, undef, undef, undef, undef, undef, .bool true, .bool false, undef, y 0, y 1, y 2, y 3, y 4, y 5, y 6, y 7, y 8, undef, undef, undef, undef, undef, undef, undef, undef, undef, undef, undef], []⟩) (fun p j q => match j with | 0 => q = .pointer (some ⟨b, o, none⟩) | 1 => q = .pointer (some ⟨b, o, none⟩) | 2 => q = .pointer (some ⟨b, o, none⟩) | 3 => q = .int .u64 (M1.giv + 1) | 4 => q = .agg (kcs k).toArray | 5 => q = .int .i64 (jn : Int) | 6 => q = .int .i64 now | 7 => q = .int .i64 (now + 20) | 8 => q = .agg (Ls.mk (M1.giv + 1) k (jn : Int) (now + 20)).cs.toArray | 9 => q = .pointer (some ⟨p, 0, none⟩) | _ => True) (fun M p wx => PoI w T1 b o R0 ty M1 g g4 k (Ls.mk (M1.giv + 1) k (jn : Int) (now + 20)) (M 3) (M 9) (M 10) p wx) (fun i => [3, 9, 10].contains i) (fun i j => (i == 3 && decide (j == 8 || j == 10)) || (i == 9 && j == 10)) (parOk_spec (by kernel_rfl)) ?_ ?_ ?_ (fun _ => undef) 0 rfl (by exact I0.out)
    · intro i' o hsrc ho M p y wx hd hi' hI
      match i', ho with
      | 0, ho =>
        obtain rfl := Option.some.inj ho
        refine ⟨.pointer (some ⟨b, o, none⟩), ?_, rfl, rfl, hI⟩
        refine runWithP (fun z => match z with  | .tmp 0 => .pointer (some ⟨b, o, none⟩) | .const c => c | _ => undef) (by kernel_rfl) ?_
        go_simp
      | 1, ho =>
        obtain rfl := Option.some.inj ho
        have y0 : y 0 = .pointer (some ⟨b, o, none⟩) := hd ⟨0, .data⟩ (by simp) rfl
        refine ⟨.pointer (some ⟨b, o, none⟩), ?_, rfl, rfl, hI⟩
        refine runWithP (fun z => match z with | .tmp 42 => y 0 | .const c => c | _ => undef) (by kernel_rfl) ?_
        rw [y0]
        go_simp
      | 2, ho =>
        obtain rfl := Option.some.inj ho
        have y0 : y 1 = .pointer (some ⟨b, o, none⟩) := hd ⟨1, .data⟩ (by simp) rfl
        refine ⟨.pointer (some ⟨b, o, none⟩), ?_, rfl, rfl, hI⟩
        refine runWithP (fun z => match z with | .tmp 43 => y 1 | .const c => c | _ => undef) (by kernel_rfl) ?_
        rw [y0]
        go_simp
      | 3, ho =>
        obtain rfl := Option.some.inj ho
        cases hsrc
      | 4, ho =>
        obtain rfl := Option.some.inj ho
        exact ⟨.agg (kcs k).toArray, run_loadP 32 (.tmp 10) rfl ⟨g4, 0, none⟩ (by rfl) (kcs k) _ (box_at hI.box) Try.underlying32 rfl (tkSize _), rfl, rfl, hI⟩
      | 5, ho =>
        obtain rfl := Option.some.inj ho
        refine ⟨.int .i64 (jn : Int), ?_, rfl, rfl, hI⟩
        refine runWithP (fun z => match z with  | .tmp 1 => .int .i64 (jn : Int) | .const c => c | _ => undef) (by kernel_rfl) ?_
        go_simp
      | 6, ho =>
        obtain rfl := Option.some.inj ho
        refine ⟨.int .i64 now, ?_, rfl, rfl, hI⟩
        refine runWithP (fun z => match z with  | .tmp 3 => .int .i64 now | .const c => c | _ => undef) (by kernel_rfl) ?_
        go_simp
      | 7, ho =>
        obtain rfl := Option.some.inj ho
        have y0 : y 6 = .int .i64 now := hd ⟨6, .data⟩ (by simp) rfl
        refine ⟨.int .i64 (now + 20), ?_, rfl, rfl, hI⟩
        refine runWithP (fun z => match z with | .tmp 48 => y 6 | .const c => c | _ => undef) (by kernel_rfl) ?_
        rw [y0]
        go_simp
        rw [IntKind.wrap_i64]; omega
      | 8, ho =>
        obtain rfl := Option.some.inj ho
        have y0 : y 3 = .int .u64 (M1.giv + 1) := hd ⟨3, .data⟩ (by simp) rfl
        have y1 : y 4 = .agg (kcs k).toArray := hd ⟨4, .data⟩ (by simp) rfl
        have y2 : y 5 = .int .i64 (jn : Int) := hd ⟨5, .data⟩ (by simp) rfl
        have y3 : y 7 = .int .i64 (now + 20) := hd ⟨7, .data⟩ (by simp) rfl
        refine ⟨.agg (Ls.mk (M1.giv + 1) k (jn : Int) (now + 20)).cs.toArray, ?_, rfl, rfl, hI⟩
        refine runWithP (fun z => match z with | .tmp 45 => y 3 | .tmp 46 => y 4 | .tmp 47 => y 5 | .tmp 49 => y 7 | .const c => c | _ => undef) (by kernel_rfl) ?_
        rw [y0, y1, y2, y3]
        kernel_rfl
      | 9, ho =>
        obtain rfl := Option.some.inj ho
        cases hsrc
      | 10, ho =>
        obtain rfl := Option.some.inj ho
        cases hsrc
      | j + 11, ho => cases ho
    · intro i' o hsrc ho M p y wx hd hi' hlat hI
      match i', hsrc, ho with
      | 0, hsrc, ho =>
        cases hsrc
      | 1, hsrc, ho =>
        cases hsrc
      | 2, hsrc, ho =>
        cases hsrc
      | 3, hsrc, ho =>
        obtain rfl := Option.some.inj ho
        have y2 : y 2 = .pointer (some ⟨b, o, none⟩) := (hd ⟨2, .data⟩ (by simp) rfl).2
        have h10 : M 10 = false := hlat 10 rfl
        rw [hi'] at hI
        have hc := hI.m.cell
        simp only [Bool.false_eq_true, if_false] at hc
        refine slot_call #[.pointer (some ⟨b, o, none⟩)] rfl Try.func53 (by kernel_rfl) (by kernel_rfl) (by simp [Act.eval, y2]) ?_
        refine (next_any hc.1 hc.2 GV.out.1 GV.out.2).mono ?_
        rintro e w' ⟨rfl, rfl⟩
        refine ⟨_, rfl, _, p, rfl, rfl, fun j q _ _ h => h, ?_⟩
        exact hI.next
      | 4, hsrc, ho =>
        cases hsrc
      | 5, hsrc, ho =>
        cases hsrc
      | 6, hsrc, ho =>
        cases hsrc
      | 7, hsrc, ho =>
        cases hsrc
      | 8, hsrc, ho =>
        cases hsrc
      | 9, hsrc, ho =>
        obtain rfl := Option.some.inj ho
        have h10 : M 10 = false := hlat 10 rfl
        rw [hi', h10] at hI
        refine slot_giveP (v := .pointer (some ⟨wx.heap.size, 0, none⟩)) (w' := wx.alloc (.cells l0.cs.toArray 80)) ?_ ⟨_, wx.heap.size, rfl, rfl, ?_, ?_⟩
        · kernel_rfl
        · intro j q hne hl hF
          match j, hne, hF with
          | 0, _, hF => exact hF
          | 1, _, hF => exact hF
          | 2, _, hF => exact hF
          | 3, _, hF => exact hF
          | 4, _, hF => exact hF
          | 5, _, hF => exact hF
          | 6, _, hF => exact hF
          | 7, _, hF => exact hF
          | 8, _, hF => exact hF
          | 9, hne, _ => exact absurd rfl hne
          | 10, _, _ => exact absurd hl (by decide)
          | j + 11, _, _ => trivial
        · show PoI w T1 b o R0 ty M1 g g4 k _ (M 3) true (M 10) wx.heap.size _
          rw [h10]
          exact hI.made
      | 10, hsrc, ho =>
        obtain rfl := Option.some.inj ho
        have h9 := hd ⟨9, .data⟩ (by simp) rfl
        have y9 : y 9 = .pointer (some ⟨p, 0, none⟩) := h9.2
        have y8 : y 8 = .agg (Ls.mk (M1.giv + 1) k (jn : Int) (now + 20)).cs.toArray := (hd ⟨8, .data⟩ (by simp) rfl).2
        rw [h9.1, hi'] at hI
        refine slot_storeP 80 (.tmp 12) (.tmp 50) rfl p 80 l0.cs.toArray (Ls.mk (M1.giv + 1) k (jn : Int) (now + 20)).cs.toArray y9 y8 (hI.new rfl).2.2.2 (SL.out _) rfl (OL.out _) ?_
        refine ⟨undef, p, rfl, trivial, fun j q _ _ h => h, ?_⟩
        show PoI w T1 b o R0 ty M1 g g4 k _ (M 3) (M 9) true p _
        rw [h9.1]
        exact hI.stored
      | j + 11, hsrc, ho => cases ho
    · rintro M p y wx hall hI
      have y9 : y 9 = .pointer (some ⟨p, 0, none⟩) := (hall 9 (by decide)).2
      try dsimp only
      rw [y9]
      rw [(hall 3 (by decide)).1, (hall 9 (by decide)).1, (hall 10 (by decide)).1] at hI
      have HI := Lib.hid hI
      clear hI hall y9
      have hz : ∃ z0 z1 z2 z3 z4 z5 z6 z7 z8 : Value, z0 = y 0 ∧ z1 = y 1 ∧ z2 = y 2 ∧ z3 = y 3 ∧ z4 = y 4 ∧ z5 = y 5 ∧ z6 = y 6 ∧ z7 = y 7 ∧ z8 = y 8 := ⟨_, _, _, _, _, _, _, _, _, rfl, rfl, rfl, rfl, rfl, rfl, rfl, rfl, rfl⟩
      obtain ⟨z0, z1, z2, z3, z4, z5, z6, z7, z8, hz0, hz1, hz2, hz3, hz4, hz5, hz6, hz7, hz8⟩ := hz
      rw [← hz0, ← hz1, ← hz2, ← hz3, ← hz4, ← hz5, ← hz6, ← hz7, ← hz8]
      clear hz0 hz1 hz2 hz3 hz4 hz5 hz6 hz7 hz8
      obtain ⟨p12, hp12⟩ : ∃ q, q = p := ⟨_, rfl⟩
      obtain ⟨w7, hw7⟩ : ∃ w7, w7 = wx := ⟨_, rfl⟩
      obtain ⟨LL, hLL⟩ : ∃ l, l = (Ls.mk (M1.giv + 1) k (jn : Int) (now + 20)) := ⟨_, rfl⟩
      rw [← hp12, ← hw7, ← hLL] at HI
      rw [← hp12, ← hw7]
      have HLL := Lib.hid hLL
      clear hp12 hw7 hLL
      have hm := HI.out.m
      rw [if_pos rfl] at hm
      obtain ⟨hF7, T7, ⟨R7, mq7, Q7, ao7, c7, hA7, h27, h37, h47, h57⟩, hT7⟩ := hm
      obtain ⟨E7, hE7⟩ : ∃ E, E = M1.E := ⟨_, rfl⟩
      obtain ⟨n7, hn7⟩ : ∃ n, n = E7.length := ⟨_, rfl⟩
      have hls := hA7.ls
      have hlr := hA7.lrow
      rw [show (M1.g (M1.giv + 1)).E = E7 from hE7.symm, ← hn7] at hls
      rw [show (M1.g (M1.giv + 1)).E = E7 from hE7.symm] at hlr
      have hlr2 : w7.ownsRow 0 80 6 (.slice ao7 n7 c7) n7 (lss E7) := by rw [hn7]; exact hlr
      have hbn := hA7.bne
      rw [show (M1.g (M1.giv + 1)).E = E7 from hE7.symm, ← hn7] at hbn
      have hpn : (Value.slice ao7 n7 c7).ownBlock ≠ some p12 := fun e => by
        rw [show (M1.g (M1.giv + 1)).E = E7 from hE7.symm, ← hn7] at h57
        exact (hT7 p12 (h57 p12 e)).2.2 (.inr (.inr ⟨rfl, rfl⟩))
      have ROW := Lib.hid hA7.row
      have BLT := Lib.hid (lt_of_rowK hA7.row)
      have LS := Lib.hid hls
      have OW7 := Lib.hid (fun (W : World) (hW : Below w7.heap.size w7 W) => own_belowK hlr2 hW)
      have LC7 := Lib.hid (fun (W : World) (hW : Below w7.heap.size w7 W) => show W.cell? ⟨b, o + 196, none⟩ = some (.slice ao7 n7 c7) from by
        rw [cell_of_row W b _ _ _ _ ((hW.block b BLT.out).trans ROW.out)]
        exact LS.out)
      have NP := Lib.hid (show w7.heap[p12]? = some (.cells LL.cs.toArray 80 (0, 0)) from (HI.out.new rfl).2.2.2)
      have KP := Lib.hid (fun (W : World) (hW : Below w7.heap.size w7 W) => (box_at ((hW.block p12 (lt_of_rowW NP.out)).trans NP.out) : ∀ j v, LL.cs[j]? = some v → W.cell? ((⟨p12, 0, none⟩ : Addr).add j) = some v))
      have SM := Lib.hid (show n7 + 1 ≤ 1000000 by have e2 := e1.1; rw [hn7, hE7, e2]; omega)
      have HA7 := Lib.hid hA7
      have HF7 := Lib.hid hF7
      have H7 := Lib.hid (And.intro h27 (And.intro h37 (And.intro h47 (And.intro h57 hT7))))
      have HE7 := Lib.hid hE7
      have HN7 := Lib.hid hn7
      have HBN := Lib.hid hbn
      have HPN := Lib.hid hpn
      have HX7 := Lib.hid (show ∀ q, (q = g ∨ q = g4 ∨ (true = true ∧ q = p12)) → q < w7.heap.size from fun q hq => by
        rcases hq with e | e | ⟨_, e⟩
        · rw [e]; exact lt_of_rowW HI.out.res
        · rw [e]; exact lt_of_rowW HI.out.box
        · rw [e]; exact lt_of_rowW NP.out)
      have RES := Lib.hid HI.out.res
      have ER := Lib.hid (show PE = 0 ∧ PL = LL ∧ PM = (M1.g (M1.giv + 1)).l (M1.E ++ [LL]) from by
        have a1 : PE = 0 := by rw [HPE.out, EP.out, ht2]; rfl
        have a2 : PL = LL := by
          rw [HPL.out]
          unfold MM.plL
          rw [← HPE.out, if_pos a1, HLL.out, Int.toNat_natCast, ht2, e1.2]
        refine ⟨a1, a2, ?_⟩
        rw [HPM.out]
        unfold MM.pl
        rw [← HPE.out, if_pos a1, ← HPL.out, a2, Int.toNat_natCast, ht2M, ← e1.1, ← e1.2]
        rfl)
      have I1 := Lib.hid (show PaI w7 b o ao7 n7 c7 E7 LL false false false ⟨0, undef⟩ w7.drew from ⟨fun _ => below_drewN (Below.refl _ _) 1, (fun e => by cases e), (fun e => by cases e), (fun e => by cases e)⟩)
      clear HI hF7 hA7 h27 h37 h47 h57 hT7 hls hlr hlr2 hbn hpn hE7 hn7 e1 ht2 ht2M
      go_upto_region 11 with fail
      refine wp_region_parX (α := PaP) (by kernel_rfl) (by kernel_rfl) (fun y => ⟨#[.pointer (some ⟨b, o, none⟩), .int .i64 (jn : Int), .int .i64 kind, .int .i64 now, undef, undef, undef, undef, .pointer (some ⟨g, 0, none⟩), .int .i64 0, .pointer (some ⟨g4, 0, none⟩), .bool true, .pointer (some ⟨p12, 0, none⟩), .int .i64 (jn : Int), .bool true, .bool false, undef, .pointer (some ⟨b, o, none⟩), .pointer (some ⟨b, o, none⟩), .pointer (some ⟨b, o + 196, none⟩), .slice ao n c, .int .i64 (n : Int), .bool false, undef, Value.tuple #[.agg (kcs k).toArray, .bool true], .pointer (some ⟨b, o, none⟩), .int .i64 (jn : Int), .int .i64 kind, Value.tuple #[.agg (kcs k).toArray, .bool true], .agg (kcs k).toArray, .bool true, .bool true, .bool false, undef, undef, undef, undef, undef, undef, .bool true, .bool false, undef, z0, z1, z2, z3, z4, z5, z6, z7, z8, y 0, y 1, y 2, y 3, y 4, y 5, y 6, y 7, y 8, y 9, undef], []⟩) (fun p j q => match j with | 0 => q = .pointer (some ⟨b, o, none⟩) | 1 => q = .pointer (some ⟨b, o, none⟩) | 2 => q = .pointer (some ⟨b, o, none⟩) | 3 => q = .pointer (some ⟨b, o + 196, none⟩) | 4 => q = .slice ao7 n7 c7 | 5 => q = .agg LL.cs.toArray | 6 => q = .slice (some ⟨p.a6, 0, none⟩) 1 1 | 7 => q = p.v7 | 8 => q = .pointer (some ⟨b, o, none⟩) | 9 => q = .pointer (some ⟨b, o + 196, none⟩) | _ => True) (fun M p wx => PaI w7 b o ao7 n7 c7 E7 LL (M 6) (M 7) (M 10) p wx) (fun i => [6, 7, 10].contains i) (fun i j => (i == 6 && decide (6 < j)) || (i == 7 && decide (7 < j))) (fun _ => undef) (parOk_spec (by kernel_rfl)) ?_ ?_ ?_ ⟨0, undef⟩ rfl (by exact I1.out)
      · intro i' o hsrc ho M p y wx hd hi' hx0 hnl hI
        match i', ho with
        | 0, ho =>
          obtain rfl := Option.some.inj ho
          refine .inl ⟨rfl, ?_⟩
          refine ⟨.pointer (some ⟨b, o, none⟩), ?_, rfl, rfl, hI⟩
          refine runWithP (fun z => match z with  | .tmp 0 => .pointer (some ⟨b, o, none⟩) | .const c => c | _ => undef) (by kernel_rfl) ?_
          go_simp
        | 1, ho =>
          obtain rfl := Option.some.inj ho
          refine .inl ⟨rfl, ?_⟩
          refine ⟨.pointer (some ⟨b, o, none⟩), ?_, rfl, rfl, hI⟩
          refine runWithP (fun z => match z with  | .tmp 0 => .pointer (some ⟨b, o, none⟩) | .const c => c | _ => undef) (by kernel_rfl) ?_
          go_simp
        | 2, ho =>
          obtain rfl := Option.some.inj ho
          have y0 : y 1 = .pointer (some ⟨b, o, none⟩) := hd ⟨1, .data⟩ (by simp) rfl
          refine .inl ⟨rfl, ?_⟩
          refine ⟨.pointer (some ⟨b, o, none⟩), ?_, rfl, rfl, hI⟩
          refine runWithP (fun z => match z with | .tmp 52 => y 1 | .const c => c | _ => undef) (by kernel_rfl) ?_
          rw [y0]
          go_simp
        | 3, ho =>
          obtain rfl := Option.some.inj ho
          have y0 : y 2 = .pointer (some ⟨b, o, none⟩) := hd ⟨2, .data⟩ (by simp) rfl
          refine .inl ⟨rfl, ?_⟩
          refine ⟨.pointer (some ⟨b, o + 196, none⟩), ?_, rfl, rfl, hI⟩
          refine runWithP (fun z => match z with | .tmp 53 => y 2 | .const c => c | _ => undef) (by kernel_rfl) ?_
          rw [y0]
          go_simp
        | 4, ho =>
          obtain rfl := Option.some.inj ho
          have y0 : y 3 = .pointer (some ⟨b, o + 196, none⟩) := hd ⟨3, .data⟩ (by simp) rfl
          have cx := LC7.out wx (hI.low (hnl 7 _ ⟨4, .data⟩ rfl (by simp) rfl hi'))
          refine .inl ⟨rfl, ?_⟩
          refine ⟨.slice ao7 n7 c7, ?_, rfl, rfl, hI⟩
          refine runWithP (fun z => match z with | .tmp 54 => y 3 | .const c => c | _ => undef) (by kernel_rfl) ?_
          rw [y0]
          go_simp
        | 5, ho =>
          obtain rfl := Option.some.inj ho
          refine .inl ⟨rfl, ?_⟩
          exact ⟨.agg LL.cs.toArray, run_loadP 80 (.tmp 12) rfl ⟨p12, 0, none⟩ (by rfl) LL.cs _ (KP.out wx (hI.low (hnl 7 _ ⟨6, .data⟩ rfl (by simp) rfl (hnl 6 _ ⟨5, .data⟩ rfl (by simp) rfl hi')))) Try.underlying80 rfl (lsSize _), rfl, rfl, hI⟩
        | 6, ho =>
          obtain rfl := Option.some.inj ho
          cases hsrc
        | 7, ho =>
          obtain rfl := Option.some.inj ho
          cases hsrc
        | 8, ho =>
          obtain rfl := Option.some.inj ho
          have y0 : y 0 = .pointer (some ⟨b, o, none⟩) := hd ⟨0, .data⟩ (by simp) rfl
          refine .inl ⟨rfl, ?_⟩
          refine ⟨.pointer (some ⟨b, o, none⟩), ?_, rfl, rfl, hI⟩
          refine runWithP (fun z => match z with | .tmp 51 => y 0 | .const c => c | _ => undef) (by kernel_rfl) ?_
          rw [y0]
          go_simp
        | 9, ho =>
          obtain rfl := Option.some.inj ho
          have y0 : y 8 = .pointer (some ⟨b, o, none⟩) := hd ⟨8, .data⟩ (by simp) rfl
          refine .inl ⟨rfl, ?_⟩
          refine ⟨.pointer (some ⟨b, o + 196, none⟩), ?_, rfl, rfl, hI⟩
          refine runWithP (fun z => match z with | .tmp 59 => y 8 | .const c => c | _ => undef) (by kernel_rfl) ?_
          rw [y0]
          go_simp
        | 10, ho =>
          obtain rfl := Option.some.inj ho
          cases hsrc
        | j + 11, ho => cases ho
      · intro i' o hsrc ho M p y wx hd hi' hx0 hlat hI
        match i', hsrc, ho with
        | 0, hsrc, ho =>
          cases hsrc
        | 1, hsrc, ho =>
          cases hsrc
        | 2, hsrc, ho =>
          cases hsrc
        | 3, hsrc, ho =>
          cases hsrc
        | 4, hsrc, ho =>
          cases hsrc
        | 5, hsrc, ho =>
          cases hsrc
        | 6, hsrc, ho =>
          obtain rfl := Option.some.inj ho
          refine ⟨rfl, ?_⟩
          have h7 : M 7 = false := hlat 7 rfl
          have h10 : M 10 = false := hlat 10 rfl
          have y5 : y 5 = .agg LL.cs.toArray := (hd ⟨5, .data⟩ (by simp) rfl).2
          rw [hi', h7, h10] at hI
          refine slot_giveP (v := .slice (some ⟨wx.heap.size, 0, none⟩) 1 1) (w' := wx.alloc (.cells LL.cs.toArray 80)) ?_ ⟨_, ⟨wx.heap.size, p.v7⟩, rfl, rfl, ?_, ?_⟩
          · refine runWithP (fun z => match z with | .tmp 56 => y 5 | .const c => c | _ => undef) (by kernel_rfl) ?_
            rw [y5]
            kernel_rfl
          · intro j q hne hl hF
            match j, hne, hF with
            | 0, _, hF => exact hF
            | 1, _, hF => exact hF
            | 2, _, hF => exact hF
            | 3, _, hF => exact hF
            | 4, _, hF => exact hF
            | 5, _, hF => exact hF
            | 6, hne, _ => exact absurd rfl hne
            | 7, _, _ => exact absurd hl (by decide)
            | 8, _, _ => exact absurd hl (by decide)
            | 9, _, _ => exact absurd hl (by decide)
            | 10, _, _ => exact absurd hl (by decide)
            | j + 11, _, _ => trivial
          · show PaI w7 b o ao7 n7 c7 E7 LL true (M 7) (M 10) _ _
            rw [h7, h10]
            exact hI.made
        | 7, hsrc, ho =>
          obtain rfl := Option.some.inj ho
          refine ⟨rfl, ?_⟩
          have h10 : M 10 = false := hlat 10 rfl
          have y4 : y 4 = .slice ao7 n7 c7 := (hd ⟨4, .data⟩ (by simp) rfl).2
          have h6 := hd ⟨6, .data⟩ (by simp) rfl
          have y6 : y 6 = .slice (some ⟨p.a6, 0, none⟩) 1 1 := h6.2
          rw [h6.1, hi', h10] at hI
          have hzz := hI.z6 rfl rfl
          refine slot_appR (.tmp 55) (.tmp 57) 68 68 rfl 0 80 6 48 _ Try.underlying68 infoLs (by decide) rfl _ n7 (lss E7) (by exact y4) (OW7.out wx (hI.low rfl)) _ 1 LL.cs (by exact y6) (src_block Try.underlying68 hzz.1 rfl LL.one) SM.out (Nat.zero_le _) ?_
          intro v' w' hown hG hb
          refine ⟨_, ⟨p.a6, v'⟩, rfl, rfl, ?_, ?_⟩
          · intro j q hne hl hF
            match j, hne, hF with
            | 0, _, hF => exact hF
            | 1, _, hF => exact hF
            | 2, _, hF => exact hF
            | 3, _, hF => exact hF
            | 4, _, hF => exact hF
            | 5, _, hF => exact hF
            | 6, _, hF => exact hF
            | 7, hne, _ => exact absurd rfl hne
            | 8, _, _ => exact absurd hl (by decide)
            | 9, _, _ => exact absurd hl (by decide)
            | 10, _, _ => exact absurd hl (by decide)
            | j + 11, _, _ => trivial
          · show PaI w7 b o ao7 n7 c7 E7 LL (M 6) true (M 10) _ _
            rw [h6.1, h10]
            exact hI.app hown hG hb
        | 8, hsrc, ho =>
          cases hsrc
        | 9, hsrc, ho =>
          cases hsrc
        | 10, hsrc, ho =>
          obtain rfl := Option.some.inj ho
          refine ⟨rfl, ?_⟩
          have h7 := hd ⟨7, .data⟩ (by simp) rfl
          have y7 : y 7 = p.v7 := h7.2
          have y9 : y 9 = .pointer (some ⟨b, o + 196, none⟩) := (hd ⟨9, .data⟩ (by simp) rfl).2
          have h6 := (hd ⟨6, .phase⟩ (by simp) rfl).1
          rw [h6, h7.1, hi'] at hI
          have hG := hI.z7 rfl rfl
          obtain ⟨a', c', hv⟩ := own_slK hG.own
          have rb : wx.heap[b]? = some (.cells R7 ty (0, 0)) := (hG.frm.block b BLT.out (fun e => HBN.out e)).trans ROW.out
          have cx : wx.cell? ⟨b, o + 196, none⟩ = some (.slice ao7 n7 c7) := by rw [cell_of_row wx b _ _ _ _ rb]; exact LS.out
          have fz : wx.frozen? ⟨b, o + 196, none⟩ = false := frozen_of_row wx b _ _ _ rb
          refine slot_turnP (w' := wx.setCell ⟨b, o + 196, none⟩ p.v7) ?_ ⟨undef, p, rfl, trivial, fun j q _ _ h => h, ?_⟩
          · refine runWithP (fun z => match z with | .tmp 60 => y 9 | .tmp 58 => y 7 | .const c => c | _ => undef) (by kernel_rfl) ?_
            rw [y9, y7, hv]
            go_simp
          · show PaI w7 b o ao7 n7 c7 E7 LL (M 6) (M 7) true _ _
            rw [h6, h7.1]
            exact hI.set
        | j + 11, hsrc, ho => cases ho
      · rintro M p y wx hall hI
        rw [(hall 6 (by decide)).1, (hall 7 (by decide)).1, (hall 10 (by decide)).1] at hI
        obtain ⟨wy, hG, hwx⟩ := hI.z10 rfl
        have e8 : E7.length = n7 := HN7.out.symm
        obtain ⟨h27, h37, h47, h57, hT7⟩ := H7.out
        have hgr := MPostX.grown (M := M1.g (M1.giv + 1)) (L := LL) (X := fun q => q = g ∨ q = g4 ∨ (true = true ∧ q = p12)) HF7.out HA7.out h27 h37 h47 h57 hT7 HX7.out (show PaG w7 ao7 (M1.g (M1.giv + 1)).E.length c7 (M1.g (M1.giv + 1)).E LL p.v7 wy from by
          rw [show (M1.g (M1.giv + 1)).E = E7 from HE7.out.symm, e8]
          exact hG)
        rw [← hwx] at hgr
        have P9 := Lib.hid hgr.1
        have G9 := Lib.hid ((hgr.2 g (.inl rfl)).trans RES.out)
        have L9 := Lib.hid (box_at ((hgr.2 p12 (.inr (.inr ⟨rfl, rfl⟩))).trans NP.out))
        have SX := Lib.hid (SL.out LL)
        have OX := Lib.hid (OL.out LL)
        have N9 := Lib.hid (show (wx.setRow g LL.cs.toArray).heap[g]? = some (.cells LL.cs.toArray 80 (0, 0)) from setRow_heap _ g _ _ _ _ G9.out)
        clear hI hall hG hwx hgr h27 h37 h47 h57 hT7 e8
        try dsimp only
        go_wp2_with (first
          | (with_reducible show wpList _ _ _ _ _ _; refine wpList_load_allW rfl 80 (.tmp 12) rfl ⟨p12, 0, none⟩ rfl LL.cs _ L9.out Try.underlying80 rfl (lsSize _) ?_)
          | (with_reducible show wpList _ _ _ _ _ _; refine wpList_store_whole rfl 80 (.tmp 8) (.tmp 61) rfl g 80 l0.cs.toArray LL.cs.toArray (by with_unfolding_all rfl) (by with_unfolding_all rfl) G9.out SX.out rfl OX.out ?_))
        refine bodyPost_ret (results_row_tmp rfl _ _ g 80 LL.cs (0, 0) _ _ rfl rfl N9.out Try.underlying80 rfl SX.out) rfl ?_
        rw [ER.out.1, ER.out.2.1, ER.out.2.2]
        exact ⟨rfl, (P9.out.setRow (.inl rfl) GL.out _).post⟩
  | false =>
    have hMM : M.tk jn kind = M := MM.tk_no (by rw [HK1.out])
    rw [hMM] at M4
    have hP4 := M4.out
    obtain ⟨hF4, T4, hM4, hT4⟩ := hP4
    have T2 := Lib.hid (show Calls Try.prog 52 #[.pointer (some ⟨b, o, none⟩), .int .i64 0, .int .i64 kind] w4 fun e w' => e = .returned (.tuple #[.agg (kcs (fiK kind (keysT (M.W 0))).1).toArray, .bool (fiK kind (keysT (M.W 0))).2]) ∧ MPost w4 T4 b o R0 ty (M.tk 0 kind) w' from mt_take hM4 (jw := 0) (by decide) kind)
    obtain ⟨k2, ok2, hk2⟩ : ∃ k ok, fiK kind (keysT (M.W 0)) = (k, ok) := ⟨_, _, rfl⟩
    rw [hk2] at T2
    have ht2 : M.t2 jn kind = (k2, ok2) := by unfold MM.t2; rw [HK1.out, hk2]; rfl
    have ht2M : M.t2M jn kind = M.tk 0 kind := by unfold MM.t2M; rw [HK1.out]; rfl
    have HF4 := Lib.hid hF4
    have HT4 := Lib.hid hT4
    have HK2 := Lib.hid hk2
    have GX := Lib.hid (show ∀ q, q = g ∨ q = g4 → q < w4.heap.size from fun q hq => by
      rcases hq with rfl | rfl
      · exact lt_of_rowW N4.out
      · exact lt_of_rowW X4.out)
    clear hF4 hT4 hk2 hM4
    go_upto_region 8 with (first
      | ((with_reducible refine T2.out.mono ?_); rintro e w5 ⟨rfl, hP5⟩; have X5 := ((hP5.1.block g4 (lt_of_rowW X4.out) (fun e => (HT4.out _ e).2.2 (.inr rfl))).trans X4.out))
      | (with_reducible show wpList _ _ _ _ _ _; refine wpList_store_whole rfl 32 (.tmp 10) (.tmp 37) rfl g4 32 (kcs k1).toArray (kcs k2).toArray (by with_unfolding_all rfl) (by with_unfolding_all rfl) X5 (SK.out k2) rfl (OK.out k2) ?_))
    have X5 := Lib.hid X5
    cases ok2 with
    | true =>
      obtain ⟨k, hk⟩ : ∃ k, k = k2 := ⟨_, rfl⟩
      obtain ⟨M1, hM1⟩ : ∃ M1, M1 = M.tk 0 kind := ⟨_, rfl⟩
      rw [← hM1] at ht2M hP5
      have e1 : M1.E = M.E ∧ M1.giv = M.giv := by rw [hM1]; exact MM.tk_E
      have G5 : w5.heap[g]? = some (.cells l0.cs.toArray 80 (0, 0)) := (hP5.1.block g (lt_of_rowW N4.out) (fun e => (HT4.out _ e).2.2 (.inl rfl))).trans N4.out
      have hX5 := MPostX.glue HF4.out HT4.out hP5 GX.out
      go_upto_region 10 with fail
      obtain ⟨wz, hwz⟩ : ∃ wz : World, wz = w5.setRow g4 (kcs k2).toArray := ⟨_, rfl⟩
      have NZ := Lib.hid (show wz.heap[g]? = some (.cells l0.cs.toArray 80 (0, 0)) by rw [hwz]; exact (setRow_other _ _ _ _ G4N.out).trans G5)
      have XZ := Lib.hid (show wz.heap[g4]? = some (.cells (kcs k).toArray 32 (0, 0)) by rw [hwz, hk]; exact setRow_heap _ g4 _ _ _ _ X5.out)
      have MZ := Lib.hid (show MPostX w T1 b o R0 ty M1 (fun q => q = g ∨ q = g4) wz by rw [hwz]; exact hX5.setRow (.inr rfl) G4L.out _)
      rw [← hwz, ← hk]
      rw [← hk] at ht2
      clear hwz hk hM1 M4 N4 X4 hX5 G5 hP5 X5
      have GV := Lib.hid (show 0 ≤ M1.giv ∧ M1.giv < 9223372036854775807 by rw [e1.2]; exact GB.out)
      have I0 := Lib.hid (show PoI w T1 b o R0 ty M1 g g4 k (Ls.mk (M1.giv + 1) k (jn : Int) (now + 20)) false false false 0 wz.drew from ⟨NZ.out, XZ.out, (MZ.out.below (below_drewN (Below.refl _ _) 1)).monoX (fun q hq => by
        rcases hq with e | e | ⟨e, _⟩
        · exact .inl e
        · exact .inr e
        · cases e), (fun e => by cases e)⟩)
      refine wp_region_par (α := Nat) (by kernel_rfl) (by kernel_rfl) (by kernel_rfl) (fun y => ⟨#[.pointer (some ⟨b, o, none⟩), .int .i64 (jn : Int), .int .i64 kind, .int .i64 now, undef, undef, undef, undef, .pointer (some ⟨g, 0, none⟩), .int .i64 0, .pointer (some ⟨g4, 0, none⟩), .bool true, y 9, .int .i64 (jn : Int), .bool true, .bool false, undef, .pointer (some ⟨b, o, none⟩), .pointer (some ⟨b, o, none⟩), .pointer (some ⟨b, o + 196, none⟩), .slice ao n c, .int .i64 (n : Int), .bool false, undef, Value.tuple #[.agg (kcs k1).toArray, .bool false], .pointer (some ⟨b, o, none⟩), .int .i64 (jn : Int), .int .i64 kind, Value.tuple #[.agg (kcs k1).toArray, .bool false], .agg (kcs k1).toArray, .bool false, .bool false, .bool true, Value.tuple #[.agg (kcs k).toArray, .bool true], .pointer (some ⟨b, o, none⟩), .int .i64 kind, Value.tuple #[.agg (kcs k).toArray, .bool true], .agg (kcs k).toArray, .bool true, .bool true, .bool false, undef, y 0, y 1, y 2, y 3, y 4, y 5, y 6, y 7, y 8, undef, undef, undef, undef, undef, undef, undef, undef, undef, undef, undef], []⟩) (fun p j q => match j with | 0 => q = .pointer (some ⟨b, o, none⟩) | 1 => q = .pointer (some ⟨b, o, none⟩) | 2 => q = .pointer (some ⟨b, o, none⟩) | 3 => q = .int .u64 (M1.giv + 1) | 4 => q = .agg (kcs k).toArray | 5 => q = .int .i64 (jn : Int) | 6 => q = .int .i64 now | 7 => q = .int .i64 (now + 20) | 8 => q = .agg (Ls.mk (M1.giv + 1) k (jn : Int) (now + 20)).cs.toArray | 9 => q = .pointer (some ⟨p, 0, none⟩) | _ => True) (fun M p wx => PoI w T1 b o R0 ty M1 g g4 k (Ls.mk (M1.giv + 1) k (jn : Int) (now + 20)) (M 3) (M 9) (M 10) p wx) (fun i => [3, 9, 10].contains i) (fun i j => (i == 3 && decide (j == 8 || j == 10)) || (i == 9 && j == 10)) (parOk_spec (by kernel_rfl)) ?_ ?_ ?_ (fun _ => undef) 0 rfl (by exact I0.out)
      · intro i' o hsrc ho M p y wx hd hi' hI
        match i', ho with
        | 0, ho =>
          obtain rfl := Option.some.inj ho
          refine ⟨.pointer (some ⟨b, o, none⟩), ?_, rfl, rfl, hI⟩
          refine runWithP (fun z => match z with  | .tmp 0 => .pointer (some ⟨b, o, none⟩) | .const c => c | _ => undef) (by kernel_rfl) ?_
          go_simp
        | 1, ho =>
          obtain rfl := Option.some.inj ho
          have y0 : y 0 = .pointer (some ⟨b, o, none⟩) := hd ⟨0, .data⟩ (by simp) rfl
          refine ⟨.pointer (some ⟨b, o, none⟩), ?_, rfl, rfl, hI⟩
          refine runWithP (fun z => match z with | .tmp 42 => y 0 | .const c => c | _ => undef) (by kernel_rfl) ?_
          rw [y0]
          go_simp
        | 2, ho =>
          obtain rfl := Option.some.inj ho
          have y0 : y 1 = .pointer (some ⟨b, o, none⟩) := hd ⟨1, .data⟩ (by simp) rfl
          refine ⟨.pointer (some ⟨b, o, none⟩), ?_, rfl, rfl, hI⟩
          refine runWithP (fun z => match z with | .tmp 43 => y 1 | .const c => c | _ => undef) (by kernel_rfl) ?_
          rw [y0]
          go_simp
        | 3, ho =>
          obtain rfl := Option.some.inj ho
          cases hsrc
        | 4, ho =>
          obtain rfl := Option.some.inj ho
          exact ⟨.agg (kcs k).toArray, run_loadP 32 (.tmp 10) rfl ⟨g4, 0, none⟩ (by rfl) (kcs k) _ (box_at hI.box) Try.underlying32 rfl (tkSize _), rfl, rfl, hI⟩
        | 5, ho =>
          obtain rfl := Option.some.inj ho
          refine ⟨.int .i64 (jn : Int), ?_, rfl, rfl, hI⟩
          refine runWithP (fun z => match z with  | .tmp 1 => .int .i64 (jn : Int) | .const c => c | _ => undef) (by kernel_rfl) ?_
          go_simp
        | 6, ho =>
          obtain rfl := Option.some.inj ho
          refine ⟨.int .i64 now, ?_, rfl, rfl, hI⟩
          refine runWithP (fun z => match z with  | .tmp 3 => .int .i64 now | .const c => c | _ => undef) (by kernel_rfl) ?_
          go_simp
        | 7, ho =>
          obtain rfl := Option.some.inj ho
          have y0 : y 6 = .int .i64 now := hd ⟨6, .data⟩ (by simp) rfl
          refine ⟨.int .i64 (now + 20), ?_, rfl, rfl, hI⟩
          refine runWithP (fun z => match z with | .tmp 48 => y 6 | .const c => c | _ => undef) (by kernel_rfl) ?_
          rw [y0]
          go_simp
          rw [IntKind.wrap_i64]; omega
        | 8, ho =>
          obtain rfl := Option.some.inj ho
          have y0 : y 3 = .int .u64 (M1.giv + 1) := hd ⟨3, .data⟩ (by simp) rfl
          have y1 : y 4 = .agg (kcs k).toArray := hd ⟨4, .data⟩ (by simp) rfl
          have y2 : y 5 = .int .i64 (jn : Int) := hd ⟨5, .data⟩ (by simp) rfl
          have y3 : y 7 = .int .i64 (now + 20) := hd ⟨7, .data⟩ (by simp) rfl
          refine ⟨.agg (Ls.mk (M1.giv + 1) k (jn : Int) (now + 20)).cs.toArray, ?_, rfl, rfl, hI⟩
          refine runWithP (fun z => match z with | .tmp 45 => y 3 | .tmp 46 => y 4 | .tmp 47 => y 5 | .tmp 49 => y 7 | .const c => c | _ => undef) (by kernel_rfl) ?_
          rw [y0, y1, y2, y3]
          kernel_rfl
        | 9, ho =>
          obtain rfl := Option.some.inj ho
          cases hsrc
        | 10, ho =>
          obtain rfl := Option.some.inj ho
          cases hsrc
        | j + 11, ho => cases ho
      · intro i' o hsrc ho M p y wx hd hi' hlat hI
        match i', hsrc, ho with
        | 0, hsrc, ho =>
          cases hsrc
        | 1, hsrc, ho =>
          cases hsrc
        | 2, hsrc, ho =>
          cases hsrc
        | 3, hsrc, ho =>
          obtain rfl := Option.some.inj ho
          have y2 : y 2 = .pointer (some ⟨b, o, none⟩) := (hd ⟨2, .data⟩ (by simp) rfl).2
          have h10 : M 10 = false := hlat 10 rfl
          rw [hi'] at hI
          have hc := hI.m.cell
          simp only [Bool.false_eq_true, if_false] at hc
          refine slot_call #[.pointer (some ⟨b, o, none⟩)] rfl Try.func53 (by kernel_rfl) (by kernel_rfl) (by simp [Act.eval, y2]) ?_
          refine (next_any hc.1 hc.2 GV.out.1 GV.out.2).mono ?_
          rintro e w' ⟨rfl, rfl⟩
          refine ⟨_, rfl, _, p, rfl, rfl, fun j q _ _ h => h, ?_⟩
          exact hI.next
        | 4, hsrc, ho =>
          cases hsrc
        | 5, hsrc, ho =>
          cases hsrc
        | 6, hsrc, ho =>
          cases hsrc
        | 7, hsrc, ho =>
          cases hsrc
        | 8, hsrc, ho =>
          cases hsrc
        | 9, hsrc, ho =>
          obtain rfl := Option.some.inj ho
          have h10 : M 10 = false := hlat 10 rfl
          rw [hi', h10] at hI
          refine slot_giveP (v := .pointer (some ⟨wx.heap.size, 0, none⟩)) (w' := wx.alloc (.cells l0.cs.toArray 80)) ?_ ⟨_, wx.heap.size, rfl, rfl, ?_, ?_⟩
          · kernel_rfl
          · intro j q hne hl hF
            match j, hne, hF with
            | 0, _, hF => exact hF
            | 1, _, hF => exact hF
            | 2, _, hF => exact hF
            | 3, _, hF => exact hF
            | 4, _, hF => exact hF
            | 5, _, hF => exact hF
            | 6, _, hF => exact hF
            | 7, _, hF => exact hF
            | 8, _, hF => exact hF
            | 9, hne, _ => exact absurd rfl hne
            | 10, _, _ => exact absurd hl (by decide)
            | j + 11, _, _ => trivial
          · show PoI w T1 b o R0 ty M1 g g4 k _ (M 3) true (M 10) wx.heap.size _
            rw [h10]
            exact hI.made
        | 10, hsrc, ho =>
          obtain rfl := Option.some.inj ho
          have h9 := hd ⟨9, .data⟩ (by simp) rfl
          have y9 : y 9 = .pointer (some ⟨p, 0, none⟩) := h9.2
          have y8 : y 8 = .agg (Ls.mk (M1.giv + 1) k (jn : Int) (now + 20)).cs.toArray := (hd ⟨8, .data⟩ (by simp) rfl).2
          rw [h9.1, hi'] at hI
          refine slot_storeP 80 (.tmp 12) (.tmp 50) rfl p 80 l0.cs.toArray (Ls.mk (M1.giv + 1) k (jn : Int) (now + 20)).cs.toArray y9 y8 (hI.new rfl).2.2.2 (SL.out _) rfl (OL.out _) ?_
          refine ⟨undef, p, rfl, trivial, fun j q _ _ h => h, ?_⟩
          show PoI w T1 b o R0 ty M1 g g4 k _ (M 3) (M 9) true p _
          rw [h9.1]
          exact hI.stored
        | j + 11, hsrc, ho => cases ho
      · rintro M p y wx hall hI
        have y9 : y 9 = .pointer (some ⟨p, 0, none⟩) := (hall 9 (by decide)).2
        try dsimp only
        rw [y9]
        rw [(hall 3 (by decide)).1, (hall 9 (by decide)).1, (hall 10 (by decide)).1] at hI
        have HI := Lib.hid hI
        clear hI hall y9
        have hz : ∃ z0 z1 z2 z3 z4 z5 z6 z7 z8 : Value, z0 = y 0 ∧ z1 = y 1 ∧ z2 = y 2 ∧ z3 = y 3 ∧ z4 = y 4 ∧ z5 = y 5 ∧ z6 = y 6 ∧ z7 = y 7 ∧ z8 = y 8 := ⟨_, _, _, _, _, _, _, _, _, rfl, rfl, rfl, rfl, rfl, rfl, rfl, rfl, rfl⟩
        obtain ⟨z0, z1, z2, z3, z4, z5, z6, z7, z8, hz0, hz1, hz2, hz3, hz4, hz5, hz6, hz7, hz8⟩ := hz
        rw [← hz0, ← hz1, ← hz2, ← hz3, ← hz4, ← hz5, ← hz6, ← hz7, ← hz8]
        clear hz0 hz1 hz2 hz3 hz4 hz5 hz6 hz7 hz8
        obtain ⟨p12, hp12⟩ : ∃ q, q = p := ⟨_, rfl⟩
        obtain ⟨w7, hw7⟩ : ∃ w7, w7 = wx := ⟨_, rfl⟩
        obtain ⟨LL, hLL⟩ : ∃ l, l = (Ls.mk (M1.giv + 1) k (jn : Int) (now + 20)) := ⟨_, rfl⟩
        rw [← hp12, ← hw7, ← hLL] at HI
        rw [← hp12, ← hw7]
        have HLL := Lib.hid hLL
        clear hp12 hw7 hLL
        have hm := HI.out.m
        rw [if_pos rfl] at hm
        obtain ⟨hF7, T7, ⟨R7, mq7, Q7, ao7, c7, hA7, h27, h37, h47, h57⟩, hT7⟩ := hm
        obtain ⟨E7, hE7⟩ : ∃ E, E = M1.E := ⟨_, rfl⟩
        obtain ⟨n7, hn7⟩ : ∃ n, n = E7.length := ⟨_, rfl⟩
        have hls := hA7.ls
        have hlr := hA7.lrow
        rw [show (M1.g (M1.giv + 1)).E = E7 from hE7.symm, ← hn7] at hls
        rw [show (M1.g (M1.giv + 1)).E = E7 from hE7.symm] at hlr
        have hlr2 : w7.ownsRow 0 80 6 (.slice ao7 n7 c7) n7 (lss E7) := by rw [hn7]; exact hlr
        have hbn := hA7.bne
        rw [show (M1.g (M1.giv + 1)).E = E7 from hE7.symm, ← hn7] at hbn
        have hpn : (Value.slice ao7 n7 c7).ownBlock ≠ some p12 := fun e => by
          rw [show (M1.g (M1.giv + 1)).E = E7 from hE7.symm, ← hn7] at h57
          exact (hT7 p12 (h57 p12 e)).2.2 (.inr (.inr ⟨rfl, rfl⟩))
        have ROW := Lib.hid hA7.row
        have BLT := Lib.hid (lt_of_rowK hA7.row)
        have LS := Lib.hid hls
        have OW7 := Lib.hid (fun (W : World) (hW : Below w7.heap.size w7 W) => own_belowK hlr2 hW)
        have LC7 := Lib.hid (fun (W : World) (hW : Below w7.heap.size w7 W) => show W.cell? ⟨b, o + 196, none⟩ = some (.slice ao7 n7 c7) from by
          rw [cell_of_row W b _ _ _ _ ((hW.block b BLT.out).trans ROW.out)]
          exact LS.out)
        have NP := Lib.hid (show w7.heap[p12]? = some (.cells LL.cs.toArray 80 (0, 0)) from (HI.out.new rfl).2.2.2)
        have KP := Lib.hid (fun (W : World) (hW : Below w7.heap.size w7 W) => (box_at ((hW.block p12 (lt_of_rowW NP.out)).trans NP.out) : ∀ j v, LL.cs[j]? = some v → W.cell? ((⟨p12, 0, none⟩ : Addr).add j) = some v))
        have SM := Lib.hid (show n7 + 1 ≤ 1000000 by have e2 := e1.1; rw [hn7, hE7, e2]; omega)
        have HA7 := Lib.hid hA7
        have HF7 := Lib.hid hF7
        have H7 := Lib.hid (And.intro h27 (And.intro h37 (And.intro h47 (And.intro h57 hT7))))
        have HE7 := Lib.hid hE7
        have HN7 := Lib.hid hn7
        have HBN := Lib.hid hbn
        have HPN := Lib.hid hpn
        have HX7 := Lib.hid (show ∀ q, (q = g ∨ q = g4 ∨ (true = true ∧ q = p12)) → q < w7.heap.size from fun q hq => by
          rcases hq with e | e | ⟨_, e⟩
          · rw [e]; exact lt_of_rowW HI.out.res
          · rw [e]; exact lt_of_rowW HI.out.box
          · rw [e]; exact lt_of_rowW NP.out)
        have RES := Lib.hid HI.out.res
        have ER := Lib.hid (show PE = 0 ∧ PL = LL ∧ PM = (M1.g (M1.giv + 1)).l (M1.E ++ [LL]) from by
          have a1 : PE = 0 := by rw [HPE.out, EP.out, ht2]; rfl
          have a2 : PL = LL := by
            rw [HPL.out]
            unfold MM.plL
            rw [← HPE.out, if_pos a1, HLL.out, Int.toNat_natCast, ht2, e1.2]
          refine ⟨a1, a2, ?_⟩
          rw [HPM.out]
          unfold MM.pl
          rw [← HPE.out, if_pos a1, ← HPL.out, a2, Int.toNat_natCast, ht2M, ← e1.1, ← e1.2]
          rfl)
        have I1 := Lib.hid (show PaI w7 b o ao7 n7 c7 E7 LL false false false ⟨0, undef⟩ w7.drew from ⟨fun _ => below_drewN (Below.refl _ _) 1, (fun e => by cases e), (fun e => by cases e), (fun e => by cases e)⟩)
        clear HI hF7 hA7 h27 h37 h47 h57 hT7 hls hlr hlr2 hbn hpn hE7 hn7 e1 ht2 ht2M
        go_upto_region 11 with fail
        refine wp_region_parX (α := PaP) (by kernel_rfl) (by kernel_rfl) (fun y => ⟨#[.pointer (some ⟨b, o, none⟩), .int .i64 (jn : Int), .int .i64 kind, .int .i64 now, undef, undef, undef, undef, .pointer (some ⟨g, 0, none⟩), .int .i64 0, .pointer (some ⟨g4, 0, none⟩), .bool true, .pointer (some ⟨p12, 0, none⟩), .int .i64 (jn : Int), .bool true, .bool false, undef, .pointer (some ⟨b, o, none⟩), .pointer (some ⟨b, o, none⟩), .pointer (some ⟨b, o + 196, none⟩), .slice ao n c, .int .i64 (n : Int), .bool false, undef, Value.tuple #[.agg (kcs k1).toArray, .bool false], .pointer (some ⟨b, o, none⟩), .int .i64 (jn : Int), .int .i64 kind, Value.tuple #[.agg (kcs k1).toArray, .bool false], .agg (kcs k1).toArray, .bool false, .bool false, .bool true, Value.tuple #[.agg (kcs k).toArray, .bool true], .pointer (some ⟨b, o, none⟩), .int .i64 kind, Value.tuple #[.agg (kcs k).toArray, .bool true], .agg (kcs k).toArray, .bool true, .bool true, .bool false, undef, z0, z1, z2, z3, z4, z5, z6, z7, z8, y 0, y 1, y 2, y 3, y 4, y 5, y 6, y 7, y 8, y 9, undef], []⟩) (fun p j q => match j with | 0 => q = .pointer (some ⟨b, o, none⟩) | 1 => q = .pointer (some ⟨b, o, none⟩) | 2 => q = .pointer (some ⟨b, o, none⟩) | 3 => q = .pointer (some ⟨b, o + 196, none⟩) | 4 => q = .slice ao7 n7 c7 | 5 => q = .agg LL.cs.toArray | 6 => q = .slice (some ⟨p.a6, 0, none⟩) 1 1 | 7 => q = p.v7 | 8 => q = .pointer (some ⟨b, o, none⟩) | 9 => q = .pointer (some ⟨b, o + 196, none⟩) | _ => True) (fun M p wx => PaI w7 b o ao7 n7 c7 E7 LL (M 6) (M 7) (M 10) p wx) (fun i => [6, 7, 10].contains i) (fun i j => (i == 6 && decide (6 < j)) || (i == 7 && decide (7 < j))) (fun _ => undef) (parOk_spec (by kernel_rfl)) ?_ ?_ ?_ ⟨0, undef⟩ rfl (by exact I1.out)
        · intro i' o hsrc ho M p y wx hd hi' hx0 hnl hI
          match i', ho with
          | 0, ho =>
            obtain rfl := Option.some.inj ho
            refine .inl ⟨rfl, ?_⟩
            refine ⟨.pointer (some ⟨b, o, none⟩), ?_, rfl, rfl, hI⟩
            refine runWithP (fun z => match z with  | .tmp 0 => .pointer (some ⟨b, o, none⟩) | .const c => c | _ => undef) (by kernel_rfl) ?_
            go_simp
          | 1, ho =>
            obtain rfl := Option.some.inj ho
            refine .inl ⟨rfl, ?_⟩
            refine ⟨.pointer (some ⟨b, o, none⟩), ?_, rfl, rfl, hI⟩
            refine runWithP (fun z => match z with  | .tmp 0 => .pointer (some ⟨b, o, none⟩) | .const c => c | _ => undef) (by kernel_rfl) ?_
            go_simp
          | 2, ho =>
            obtain rfl := Option.some.inj ho
            have y0 : y 1 = .pointer (some ⟨b, o, none⟩) := hd ⟨1, .data⟩ (by simp) rfl
            refine .inl ⟨rfl, ?_⟩
            refine ⟨.pointer (some ⟨b, o, none⟩), ?_, rfl, rfl, hI⟩
            refine runWithP (fun z => match z with | .tmp 52 => y 1 | .const c => c | _ => undef) (by kernel_rfl) ?_
            rw [y0]
            go_simp
          | 3, ho =>
            obtain rfl := Option.some.inj ho
            have y0 : y 2 = .pointer (some ⟨b, o, none⟩) := hd ⟨2, .data⟩ (by simp) rfl
            refine .inl ⟨rfl, ?_⟩
            refine ⟨.pointer (some ⟨b, o + 196, none⟩), ?_, rfl, rfl, hI⟩
            refine runWithP (fun z => match z with | .tmp 53 => y 2 | .const c => c | _ => undef) (by kernel_rfl) ?_
            rw [y0]
            go_simp
          | 4, ho =>
            obtain rfl := Option.some.inj ho
            have y0 : y 3 = .pointer (some ⟨b, o + 196, none⟩) := hd ⟨3, .data⟩ (by simp) rfl
            have cx := LC7.out wx (hI.low (hnl 7 _ ⟨4, .data⟩ rfl (by simp) rfl hi'))
            refine .inl ⟨rfl, ?_⟩
            refine ⟨.slice ao7 n7 c7, ?_, rfl, rfl, hI⟩
            refine runWithP (fun z => match z with | .tmp 54 => y 3 | .const c => c | _ => undef) (by kernel_rfl) ?_
            rw [y0]
            go_simp
          | 5, ho =>
            obtain rfl := Option.some.inj ho
            refine .inl ⟨rfl, ?_⟩
            exact ⟨.agg LL.cs.toArray, run_loadP 80 (.tmp 12) rfl ⟨p12, 0, none⟩ (by rfl) LL.cs _ (KP.out wx (hI.low (hnl 7 _ ⟨6, .data⟩ rfl (by simp) rfl (hnl 6 _ ⟨5, .data⟩ rfl (by simp) rfl hi')))) Try.underlying80 rfl (lsSize _), rfl, rfl, hI⟩
          | 6, ho =>
            obtain rfl := Option.some.inj ho
            cases hsrc
          | 7, ho =>
            obtain rfl := Option.some.inj ho
            cases hsrc
          | 8, ho =>
            obtain rfl := Option.some.inj ho
            have y0 : y 0 = .pointer (some ⟨b, o, none⟩) := hd ⟨0, .data⟩ (by simp) rfl
            refine .inl ⟨rfl, ?_⟩
            refine ⟨.pointer (some ⟨b, o, none⟩), ?_, rfl, rfl, hI⟩
            refine runWithP (fun z => match z with | .tmp 51 => y 0 | .const c => c | _ => undef) (by kernel_rfl) ?_
            rw [y0]
            go_simp
          | 9, ho =>
            obtain rfl := Option.some.inj ho
            have y0 : y 8 = .pointer (some ⟨b, o, none⟩) := hd ⟨8, .data⟩ (by simp) rfl
            refine .inl ⟨rfl, ?_⟩
            refine ⟨.pointer (some ⟨b, o + 196, none⟩), ?_, rfl, rfl, hI⟩
            refine runWithP (fun z => match z with | .tmp 59 => y 8 | .const c => c | _ => undef) (by kernel_rfl) ?_
            rw [y0]
            go_simp
          | 10, ho =>
            obtain rfl := Option.some.inj ho
            cases hsrc
          | j + 11, ho => cases ho
        · intro i' o hsrc ho M p y wx hd hi' hx0 hlat hI
          match i', hsrc, ho with
          | 0, hsrc, ho =>
            cases hsrc
          | 1, hsrc, ho =>
            cases hsrc
          | 2, hsrc, ho =>
            cases hsrc
          | 3, hsrc, ho =>
            cases hsrc
          | 4, hsrc, ho =>
            cases hsrc
          | 5, hsrc, ho =>
            cases hsrc
          | 6, hsrc, ho =>
            obtain rfl := Option.some.inj ho
            refine ⟨rfl, ?_⟩
            have h7 : M 7 = false := hlat 7 rfl
            have h10 : M 10 = false := hlat 10 rfl
            have y5 : y 5 = .agg LL.cs.toArray := (hd ⟨5, .data⟩ (by simp) rfl).2
            rw [hi', h7, h10] at hI
            refine slot_giveP (v := .slice (some ⟨wx.heap.size, 0, none⟩) 1 1) (w' := wx.alloc (.cells LL.cs.toArray 80)) ?_ ⟨_, ⟨wx.heap.size, p.v7⟩, rfl, rfl, ?_, ?_⟩
            · refine runWithP (fun z => match z with | .tmp 56 => y 5 | .const c => c | _ => undef) (by kernel_rfl) ?_
              rw [y5]
              kernel_rfl
            · intro j q hne hl hF
              match j, hne, hF with
              | 0, _, hF => exact hF
              | 1, _, hF => exact hF
              | 2, _, hF => exact hF
              | 3, _, hF => exact hF
              | 4, _, hF => exact hF
              | 5, _, hF => exact hF
              | 6, hne, _ => exact absurd rfl hne
              | 7, _, _ => exact absurd hl (by decide)
              | 8, _, _ => exact absurd hl (by decide)
              | 9, _, _ => exact absurd hl (by decide)
              | 10, _, _ => exact absurd hl (by decide)
              | j + 11, _, _ => trivial
            · show PaI w7 b o ao7 n7 c7 E7 LL true (M 7) (M 10) _ _
              rw [h7, h10]
              exact hI.made
          | 7, hsrc, ho =>
            obtain rfl := Option.some.inj ho
            refine ⟨rfl, ?_⟩
            have h10 : M 10 = false := hlat 10 rfl
            have y4 : y 4 = .slice ao7 n7 c7 := (hd ⟨4, .data⟩ (by simp) rfl).2
            have h6 := hd ⟨6, .data⟩ (by simp) rfl
            have y6 : y 6 = .slice (some ⟨p.a6, 0, none⟩) 1 1 := h6.2
            rw [h6.1, hi', h10] at hI
            have hzz := hI.z6 rfl rfl
            refine slot_appR (.tmp 55) (.tmp 57) 68 68 rfl 0 80 6 48 _ Try.underlying68 infoLs (by decide) rfl _ n7 (lss E7) (by exact y4) (OW7.out wx (hI.low rfl)) _ 1 LL.cs (by exact y6) (src_block Try.underlying68 hzz.1 rfl LL.one) SM.out (Nat.zero_le _) ?_
            intro v' w' hown hG hb
            refine ⟨_, ⟨p.a6, v'⟩, rfl, rfl, ?_, ?_⟩
            · intro j q hne hl hF
              match j, hne, hF with
              | 0, _, hF => exact hF
              | 1, _, hF => exact hF
              | 2, _, hF => exact hF
              | 3, _, hF => exact hF
              | 4, _, hF => exact hF
              | 5, _, hF => exact hF
              | 6, _, hF => exact hF
              | 7, hne, _ => exact absurd rfl hne
              | 8, _, _ => exact absurd hl (by decide)
              | 9, _, _ => exact absurd hl (by decide)
              | 10, _, _ => exact absurd hl (by decide)
              | j + 11, _, _ => trivial
            · show PaI w7 b o ao7 n7 c7 E7 LL (M 6) true (M 10) _ _
              rw [h6.1, h10]
              exact hI.app hown hG hb
          | 8, hsrc, ho =>
            cases hsrc
          | 9, hsrc, ho =>
            cases hsrc
          | 10, hsrc, ho =>
            obtain rfl := Option.some.inj ho
            refine ⟨rfl, ?_⟩
            have h7 := hd ⟨7, .data⟩ (by simp) rfl
            have y7 : y 7 = p.v7 := h7.2
            have y9 : y 9 = .pointer (some ⟨b, o + 196, none⟩) := (hd ⟨9, .data⟩ (by simp) rfl).2
            have h6 := (hd ⟨6, .phase⟩ (by simp) rfl).1
            rw [h6, h7.1, hi'] at hI
            have hG := hI.z7 rfl rfl
            obtain ⟨a', c', hv⟩ := own_slK hG.own
            have rb : wx.heap[b]? = some (.cells R7 ty (0, 0)) := (hG.frm.block b BLT.out (fun e => HBN.out e)).trans ROW.out
            have cx : wx.cell? ⟨b, o + 196, none⟩ = some (.slice ao7 n7 c7) := by rw [cell_of_row wx b _ _ _ _ rb]; exact LS.out
            have fz : wx.frozen? ⟨b, o + 196, none⟩ = false := frozen_of_row wx b _ _ _ rb
            refine slot_turnP (w' := wx.setCell ⟨b, o + 196, none⟩ p.v7) ?_ ⟨undef, p, rfl, trivial, fun j q _ _ h => h, ?_⟩
            · refine runWithP (fun z => match z with | .tmp 60 => y 9 | .tmp 58 => y 7 | .const c => c | _ => undef) (by kernel_rfl) ?_
              rw [y9, y7, hv]
              go_simp
            · show PaI w7 b o ao7 n7 c7 E7 LL (M 6) (M 7) true _ _
              rw [h6, h7.1]
              exact hI.set
          | j + 11, hsrc, ho => cases ho
        · rintro M p y wx hall hI
          rw [(hall 6 (by decide)).1, (hall 7 (by decide)).1, (hall 10 (by decide)).1] at hI
          obtain ⟨wy, hG, hwx⟩ := hI.z10 rfl
          have e8 : E7.length = n7 := HN7.out.symm
          obtain ⟨h27, h37, h47, h57, hT7⟩ := H7.out
          have hgr := MPostX.grown (M := M1.g (M1.giv + 1)) (L := LL) (X := fun q => q = g ∨ q = g4 ∨ (true = true ∧ q = p12)) HF7.out HA7.out h27 h37 h47 h57 hT7 HX7.out (show PaG w7 ao7 (M1.g (M1.giv + 1)).E.length c7 (M1.g (M1.giv + 1)).E LL p.v7 wy from by
            rw [show (M1.g (M1.giv + 1)).E = E7 from HE7.out.symm, e8]
            exact hG)
          rw [← hwx] at hgr
          have P9 := Lib.hid hgr.1
          have G9 := Lib.hid ((hgr.2 g (.inl rfl)).trans RES.out)
          have L9 := Lib.hid (box_at ((hgr.2 p12 (.inr (.inr ⟨rfl, rfl⟩))).trans NP.out))
          have SX := Lib.hid (SL.out LL)
          have OX := Lib.hid (OL.out LL)
          have N9 := Lib.hid (show (wx.setRow g LL.cs.toArray).heap[g]? = some (.cells LL.cs.toArray 80 (0, 0)) from setRow_heap _ g _ _ _ _ G9.out)
          clear hI hall hG hwx hgr h27 h37 h47 h57 hT7 e8
          try dsimp only
          go_wp2_with (first
            | (with_reducible show wpList _ _ _ _ _ _; refine wpList_load_allW rfl 80 (.tmp 12) rfl ⟨p12, 0, none⟩ rfl LL.cs _ L9.out Try.underlying80 rfl (lsSize _) ?_)
            | (with_reducible show wpList _ _ _ _ _ _; refine wpList_store_whole rfl 80 (.tmp 8) (.tmp 61) rfl g 80 l0.cs.toArray LL.cs.toArray (by with_unfolding_all rfl) (by with_unfolding_all rfl) G9.out SX.out rfl OX.out ?_))
          refine bodyPost_ret (results_row_tmp rfl _ _ g 80 LL.cs (0, 0) _ _ rfl rfl N9.out Try.underlying80 rfl SX.out) rfl ?_
          rw [ER.out.1, ER.out.2.1, ER.out.2.2]
          exact ⟨rfl, (P9.out.setRow (.inl rfl) GL.out _).post⟩
    | false =>
      have hMM2 : M.tk 0 kind = M := MM.tk_no (by rw [HK2.out])
      rw [hMM2] at hP5
      have G5 : w5.heap[g]? = some (.cells l0.cs.toArray 80 (0, 0)) := (hP5.1.block g (lt_of_rowW N4.out) (fun e => (HT4.out _ e).2.2 (.inl rfl))).trans N4.out
      have hX5 := (MPostX.glue HF4.out HT4.out hP5 GX.out).setRow (g := g4) (.inr rfl) G4L.out (kcs k2).toArray
      have e4 : PE = 4 := by rw [HPE.out, EP.out, ht2]; rfl
      have e5 : PL = l0 := by rw [HPL.out]; unfold MM.plL; rw [← HPE.out, e4]; rfl
      have e6 : PM = M := by rw [HPM.out]; unfold MM.pl; rw [← HPE.out, e4]; rfl
      obtain ⟨w6, hw6⟩ : ∃ w6 : World, w6 = w5.setRow g4 (kcs k2).toArray := ⟨_, rfl⟩
      have G6 : w6.heap[g]? = some (.cells l0.cs.toArray 80 (0, 0)) := by rw [hw6]; exact (setRow_other _ _ _ _ G4N.out).trans G5
      rw [← hw6] at hX5 ⊢
      have HX6 := Lib.hid hX5
      have SX := Lib.hid (SL.out l0)
      have OX := Lib.hid (OL.out l0)
      have N7 := Lib.hid (show (w6.setRow g l0.cs.toArray).heap[g]? = some (.cells l0.cs.toArray 80 (0, 0)) from setRow_heap _ g _ _ _ _ G6)
      have HE := Lib.hid (And.intro e4 (And.intro e5 e6))
      clear hX5 G5 hP5 X5 hw6 e4 e5 e6 ht2M
      go_wp2_with (first
        | (with_reducible show wpList _ _ _ _ _ _; refine wpList_store_whole rfl 80 (.tmp 8) (.tmp 41) rfl g 80 l0.cs.toArray l0.cs.toArray (by with_unfolding_all rfl) (by with_unfolding_all rfl) G6 SX.out rfl OX.out ?_))
      refine bodyPost_ret (results_row_tmp rfl _ _ g 80 l0.cs (0, 0) _ _ rfl rfl N7.out Try.underlying80 rfl SX.out) rfl ?_
      rw [HE.out.1, HE.out.2.1, HE.out.2.2]
      exact ⟨rfl, (HX6.out.setRow (.inl rfl) GL.out _).post⟩
end Go.Proofs.Ytkmhbbcppjckiaa.Ma
/- Polling, in one law; expiry. -/
namespace Go.Proofs.Ytkmhbbcppjckiaa.Ma
open Go Go.RowKit Go.Proofs.Ytkmhbbcppjckiaa
open Go.Proofs.Ytkmhbbcppjckiaa.Hp (i64wf K3 wf3)
open Go.Proofs.Ytkmhbbcppjckiaa.Qu
open Go.Proofs.Ytkmhbbcppjckiaa.Dk (Frm below_drewN)
set_option linter.unusedVariables false
set_option linter.unusedSimpArgs false
set_option maxRecDepth 100000
variable {w w' wx : World} {T T' X : Nat → Prop} {b o : Nat} {R R0 : Array Value} {ty : TypeId} {M M' : MM}
theorem mt_poll (h : MT w T b o R0 ty M) (wk kind now : Int) (hE : M.E.length ≤ 256) (hg0 : 0 ≤ M.giv) (hg1 : M.giv < 9223372036854775807) (hn0 : -9223372036854775808 ≤ now) (hn1 : now + 20 < 9223372036854775808) : Calls Try.prog 27 #[.pointer (some ⟨b, o, none⟩), .int .i64 wk, .int .i64 kind, .int .i64 now] w fun e w' => e = .returned (.tuple #[.agg (M.plL wk kind now).cs.toArray, .int .i64 (M.plE wk kind)]) ∧ MPost w T b o R0 ty (M.pl wk kind now) w' := by
  by_cases hbad : M.plE wk kind ≠ 0 ∧ M.plE wk kind ≠ 4
  · have e1 : M.plL wk kind now = l0 := by unfold MM.plL; rw [if_neg hbad.1]
    have e2 : M.pl wk kind now = M := by unfold MM.pl; rw [if_neg hbad.1]
    rw [e1, e2]
    refine (mt_poll_bad h wk kind now hE hbad).mono ?_
    rintro e w' ⟨he, hb⟩
    exact ⟨he, .same h hb⟩
  · have hi : isW wk = true ∧ M.E.length ≠ 256 := by
      unfold MM.plE at hbad
      cases hq : isW wk with
      | false => rw [hq, if_pos rfl] at hbad; exact absurd ⟨by decide, by decide⟩ hbad
      | true =>
        rw [hq, if_neg (by decide)] at hbad
        refine ⟨rfl, fun e => ?_⟩
        rw [if_pos e] at hbad
        exact hbad ⟨by decide, by decide⟩
    exact mt_poll_ok h wk kind now (by omega) hi.1 hg0 hg1 hn0 hn1
/-- Leases of which something holds are had no more. -/
theorem mt_end (h : MT w T b o R0 ty M) (hE : M.E.length ≤ 1000) {g : Nat} {lb : Array Value} {p : Ls → Bool} (hp : Asks g lb p w) (eg : ∀ args w, (callFunc g args).run Try.prog w = .ok (.enter g args) w) :
    Calls Try.prog 57 #[.pointer (some ⟨b, o, none⟩), .func (.func g) #[] lb] w fun e w' => ∃ a1 c1, e = .returned (.slice a1 (M.E.filter p).length c1) ∧ LRow w' w.heap.size a1 c1 (M.E.filter p) ∧ MPostX w T b o R0 ty (M.l (M.E.filter fun l => !p l)) (fun q => (Value.slice a1 (M.E.filter p).length c1).ownBlock = some q) w' := by
  obtain ⟨R, mq, Q, ao, c, h1, h2, h3, h4, h5⟩ := h
  refine (end_any h1.row h1.ls h1.lrow hE hp eg).mono ?_
  rintro e w' ⟨a1, c1, a2, c2, e1, e2, e3, e4⟩
  have hM := h1.leases e2.two e3 e4
  refine ⟨a1, c1, e1, e2.one, e4.mono fun q _ e => by rw [e]; exact h4 0 (by decide) b h1.tb, fun q => (T q ∧ q < w.heap.size) ∨ (Value.slice a2 (M.E.filter fun l => !p l).length c2).ownBlock = some q, ⟨_, mq, Q, a2, c2, hM, h2, fun i hi => (Array.getElem?_setIfInBounds_ne (show o + 196 ≠ i by omega)).trans (h3 i hi), fun k hk q hq => .inl ⟨h4 k hk q hq, (h1.qs k hk).lt hq⟩, fun q hq => .inr hq⟩, fun q hq => ?_⟩
  have hsz := e4.size
  rcases hq with ⟨h, hlt⟩ | h
  · refine ⟨.inl h, Nat.lt_of_lt_of_le hlt hsz, fun hx => ?_⟩
    have := (e2.one.lt q hx).1
    omega
  · exact ⟨.inr (e2.two.lt q h).1, (e2.two.lt q h).2, fun hx => e2.ne q hx h⟩
end Go.Proofs.Ytkmhbbcppjckiaa.Ma
/- At a tick: what waited too long waits for anybody. -/
namespace Go.Proofs.Ytkmhbbcppjckiaa.Ma
open Go Go.RowKit Go.Proofs.Ytkmhbbcppjckiaa
open Go.Proofs.Ytkmhbbcppjckiaa.Hp (i64wf K3 wf3)
open Go.Proofs.Ytkmhbbcppjckiaa.Qu
open Go.Proofs.Ytkmhbbcppjckiaa.Dk (Frm below_drewN)
set_option linter.unusedVariables false
set_option linter.unusedSimpArgs false
set_option maxRecDepth 100000
variable {w w' wx : World} {T T' X : Nat → Prop} {b o : Nat} {R R0 : Array Value} {ty : TypeId} {M M' : MM}
/-- Tasks that wait for a worker are turned to anybody, one by one. -/
def frs (now : Int) (j : Nat) : List K3 → MM → MM
  | [], M => M
  | k :: l, M => frs now j l (M.fr k j now)
def exG (now : Int) : Nat → Nat → MM → MM
  | 0, _, M => M
  | n + 1, i, M => exG now n (i + 1) (frs now i (keysT (lateW now (M.W i))) M)
theorem MM.fr_E (k : K3) (j : Nat) (now : Int) : (M.fr k j now).E = M.E ∧ (M.fr k j now).giv = M.giv := by
  unfold MM.fr
  split <;> exact ⟨rfl, rfl⟩
theorem frs_E (now : Int) (j : Nat) : ∀ (l : List K3) (M : MM), (frs now j l M).E = M.E ∧ (frs now j l M).giv = M.giv
  | [], M => ⟨rfl, rfl⟩
  | k :: l, M => by
    have h := frs_E now j l (M.fr k j now)
    have h2 := MM.fr_E (M := M) k j now
    exact ⟨h.1.trans h2.1, h.2.trans h2.2⟩
theorem exG_E (now : Int) : ∀ (n i : Nat) (M : MM), (exG now n i M).E = M.E ∧ (exG now n i M).giv = M.giv
  | 0, _, M => ⟨rfl, rfl⟩
  | n + 1, i, M => by
    have h := exG_E now n (i + 1) (frs now i (keysT (lateW now (M.W i))) M)
    have h2 := frs_E now i (keysT (lateW now (M.W i))) M
    exact ⟨h.1.trans h2.1, h.2.trans h2.2⟩
/-- Behind a tick. -/
def MM.ex (M : MM) (now : Int) : MM := (exG now 64 1 M).l (M.E.filter fun l => !decide (l.til ≤ now))
def exRel (w1 : World) (T : Nat → Prop) (b o : Nat) (R0 : Array Value) (ty : TypeId) (now : Int) (MF : MM) (jv : Value) (wr : World) : Prop :=
  ∃ (j : Nat) (M' : MM), 1 ≤ j ∧ j ≤ 65 ∧ jv = .int .i64 (j : Int) ∧ exG now (65 - j) j M' = MF ∧ MPost w1 T b o R0 ty M' wr
def frRel (w5 : World) (T : Nat → Prop) (b o : Nat) (R0 : Array Value) (ty : TypeId) (now : Int) (j : Nat) (l : List K3) (MF : MM) (iv : Value) (wr : World) : Prop :=
  ∃ (i : Nat) (M' : MM), i ≤ l.length ∧ iv = .int .i64 (i : Int) ∧ frs now j (l.drop i) M' = MF ∧ MPost w5 T b o R0 ty M' wr
theorem MPost.keepRow (h : MPost w T b o R0 ty M w') {g : Nat} {x : Obj} (hg : w.heap[g]? = some x) (hn : ¬ T g) : w'.heap[g]? = some x := (h.1.block g (lt_of_rowK hg) hn).trans hg
theorem MPost.glue {w7 : World} (hF : Frm T w wx) (hT : ∀ q, T' q → (T q ∨ w.heap.size ≤ q) ∧ q < wx.heap.size) (hb : Below wx.heap.size wx w7) (hP : MPost w7 T' b o R0 ty M' w') : MPost w T b o R0 ty M' w' := by
  obtain ⟨hF2, T2, hM2, hT2⟩ := MPost.first' hb hP
  refine ⟨hF.transT hF2 fun q hq h1 => ?_, T2, hM2, fun q hq => ⟨?_, (hT2 q hq).2⟩⟩
  · rcases (hT q h1).1 with h | h
    · exact h
    · omega
  · rcases (hT2 q hq).1 with h | h
    · exact (hT q h).1
    · exact .inr (Nat.le_trans hF.size h)
theorem MPostX.chain {T1 T5 : Nat → Prop} {w1 wo : World} (hb : Below w.heap.size w w1) (hF : Frm T1 w1 wo) (hT : ∀ q, T5 q → (T1 q ∨ w1.heap.size ≤ q) ∧ q < wo.heap.size) (hTT : ∀ q, T1 q → T q) (h : MPostX wo T5 b o R0 ty M X wx) : MPostX w T b o R0 ty M X wx := by
  obtain ⟨hF2, T2, hM2, hT2⟩ := h
  have hF0 : Frm T w wo := ((Frm.of_below hb (Nat.le_refl _)).trans (hF.mono fun q _ hq => hTT q hq))
  have hs := hb.size
  have hs2 := hF.size
  refine ⟨hF0.transT hF2 fun q hq h1 => ?_, T2, hM2, fun q hq => ⟨?_, (hT2 q hq).2⟩⟩
  · rcases (hT q h1).1 with h | h
    · exact hTT q h
    · omega
  · rcases (hT2 q hq).1 with h | h
    · rcases (hT q h).1 with h | h
      · exact .inl (hTT q h)
      · exact .inr (by omega)
    · exact .inr (by omega)
set_option maxHeartbeats 2000000 in
theorem mt_expire (h : MT w T b o R0 ty M) (now : Int) (hnow : i64wf now) (hE : M.E.length ≤ 1000) : Calls Try.prog 31 #[.pointer (some ⟨b, o, none⟩), .int .i64 now] w fun e w' => ∃ a1 c1, e = .returned (.slice a1 (M.E.filter fun l => decide (l.til ≤ now)).length c1) ∧ LRow w' w.heap.size a1 c1 (M.E.filter fun l => decide (l.til ≤ now)) ∧ MPostX w T b o R0 ty (M.ex now) (fun q => (Value.slice a1 (M.E.filter fun l => decide (l.til ≤ now)).length c1).ownBlock = some q) w' := by
  obtain ⟨T1, hT1⟩ : ∃ T1 : Nat → Prop, T1 = fun q => T q ∧ q < w.heap.size := ⟨_, rfl⟩
  have h1 : MT w T1 b o R0 ty M := by rw [hT1]; exact h.lts
  have hTT : ∀ q, T1 q → T q := fun q hq => by rw [hT1] at hq; exact hq.1
  have hTlt : ∀ q, T1 q → q < w.heap.size := fun q hq => by rw [hT1] at hq; exact hq.2
  clear h hT1
  obtain ⟨w1, hw1⟩ : ∃ x, x = w.alloc (.cells #[.int .i64 now] 2) := ⟨_, rfl⟩
  obtain ⟨g, hg⟩ : ∃ g, g = w.heap.size := ⟨_, rfl⟩
  have b1 : Below w.heap.size w w1 := by rw [hw1]; exact (Below.refl _ _).alloc (Nat.le_refl _) _
  have n1 : w1.heap[g]? = some (.cells #[.int .i64 now] 2 (0, 0)) := by rw [hw1, hg]; exact heap_alloc_new _ _
  have hgT : ¬ T1 g := fun e => by have := hTlt _ e; omega
  obtain ⟨F, hF⟩ : ∃ F, F = M.E.filter fun l => decide (l.til ≤ now) := ⟨_, rfl⟩
  obtain ⟨MF, hMF⟩ : ∃ MF, MF = exG now 64 1 M := ⟨_, rfl⟩
  have e1 : M.ex now = MF.l (M.E.filter fun l => !decide (l.til ≤ now)) := by rw [hMF]; rfl
  have e2 : MF.E = M.E := by rw [hMF]; exact (exG_E now 64 1 M).1
  rw [← hF, e1]
  rw [← e2] at hF hE ⊢
  have HF := Lib.hid hF
  have HE := Lib.hid hE
  have HMF := Lib.hid hMF
  have H1 := Lib.hid (h1.below b1)
  have HW := Lib.hid hw1
  have HG := Lib.hid hg
  have B1 := Lib.hid b1
  have N1 := Lib.hid n1
  have HGT := Lib.hid hgT
  have HT := Lib.hid (And.intro hTT hTlt)
  clear h1 hw1 hg b1 n1 hgT hTT hTlt hF hMF e1 e2 hE
  go_enter Try.func31, Try.ntmps31
  go_upto_region 1 with fail
  rw [← HW.out, ← HG.out]
  go_wp2_with fail
  go_loopw [5] (fun jv wr => exRel w1 T1 b o R0 ty now MF jv wr) (fun jv _ => 65 - (intOf jv).toNat)
  case atStart => exact ⟨1, M, by decide, by decide, rfl, HMF.out.symm, .same H1.out (Below.refl _ _)⟩
  case round =>
    obtain ⟨wo, rfl⟩ : ∃ wo : World, wo = wr := ⟨_, rfl⟩
    obtain ⟨j, M1, hj1, hj, rfl, hex, hP⟩ := hrel
    have IW := Lib.hid (fun W => isWorker_any (j : Int) W)
    have no := hP.keepRow N1.out HGT.out
    have co : wo.cell? ⟨g, 0, none⟩ = some (.int .i64 now) := cell_of_one no
    have HPO := Lib.hid hP
    have NO := Lib.hid no
    by_cases hin : j < 65
    · have hisw : isW (j : Int) = true := by simp only [isW, Bool.and_eq_true, decide_eq_true_eq]; omega
      rw [hisw] at IW
      obtain ⟨hF5, T5, hM5, hT5⟩ := hP
      have ST := Lib.hid (mt_stuck hM5 hin now hnow)
      rw [show 65 - j = (65 - (j + 1)) + 1 by omega, exG] at hex
      obtain ⟨l, hl⟩ : ∃ l, l = keysT (lateW now (M1.W j)) := ⟨_, rfl⟩
      have hll : (lateW now (M1.W j)).length = l.length := by rw [hl]; simp [keysT]
      rw [← hl] at hex
      rw [hll, ← hl] at ST
      have WFL := Lib.hid (show ∀ k ∈ l, wf3 k from fun k hk => by
        rw [hl] at hk
        obtain ⟨x, hx, rfl⟩ := List.mem_map.1 hk
        exact (hM5.wf hin x (List.mem_filter.1 hx).1).1)
      obtain ⟨n, hn⟩ : ∃ n, n = l.length := ⟨_, rfl⟩
      rw [← hn] at ST
      obtain ⟨ML, hML⟩ : ∃ ML, ML = frs now j l M1 := ⟨_, rfl⟩
      rw [← hML] at hex
      have HEX := Lib.hid hex
      have HML := Lib.hid hML
      have HN := Lib.hid hn
      have HM5 := Lib.hid hM5
      have HT5 := Lib.hid hT5
      have hn128 : n ≤ 128 := by
        rw [hn, ← hll]
        exact Nat.le_trans (List.length_filter_le _ _) (hM5.few hin)
      have HF5 := Lib.hid hF5
      clear hF5 hM5 hT5 hex hl hll hn hML no hisw
      go_wp2_with (first
        | (with_reducible refine (IW.out _).mono ?_; rintro e w4 ⟨rfl, h4⟩; obtain rfl := h4.symm)
        | (with_reducible refine ST.out.mono ?_; rintro e w5 ⟨at1, ct, rfl, hown1, hb1⟩))
      have HO1 := Lib.hid hown1
      have HB5 := Lib.hid hb1
      have H5 := Lib.hid ((HM5.out).below hb1)
      have n5 := (hb1.block g (lt_of_rowW NO.out)).trans NO.out
      have gT5 : ¬ T5 g := fun e => by
        rcases (HT5.out g e).1 with h | h
        · exact HGT.out h
        · have := lt_of_rowW N1.out; omega
      have N5 := Lib.hid n5
      have GT5 := Lib.hid gT5
      have T5L := Lib.hid (show ∀ q, T5 q → q < wo.heap.size from fun q hq => (HT5.out q hq).2)
      clear hown1 hb1 n5 gT5
      go_loopw [17] (fun iv wr => frRel w5 T5 b o R0 ty now j l ML iv wr) (fun iv _ => n - (intOf iv).toNat)
      case atStart => exact ⟨0, M1, Nat.zero_le _, rfl, HML.out.symm, .same H5.out (Below.refl _ _)⟩
      case round =>
        obtain ⟨wq, rfl⟩ : ∃ wq : World, wq = wr := ⟨_, rfl⟩
        obtain ⟨i, M2, hi, rfl, hfr, hP2⟩ := hrel
        by_cases hin2 : i < n
        · have hil : i < l.length := by rw [← HN.out]; exact hin2
          obtain ⟨k, hk⟩ : ∃ k, l[i]? = some k := ⟨_, List.getElem?_eq_getElem hil⟩
          have hwf := WFL.out k (List.mem_of_getElem? hk)
          rw [dropK hk, frs] at hfr
          obtain ⟨gp, hgp, hge, hglt, _⟩ := own_cellK HO1.out (kss_at _ i k hk 0 _ rfl)
          subst hgp
          have gpT : ¬ T5 gp := fun e => by have := T5L.out gp e; omega
          have KX : ∀ j v, (kcs k)[j]? = some v → wq.cell? ((⟨gp, i * 3, none⟩ : Addr).add j) = some v := by
            intro j v hj
            obtain ⟨g2, e2, hge2, hlt, hc⟩ := own_cellK HO1.out (kss_at _ i k hk j v hj)
            injection e2 with e2
            injection e2 with e2
            subst e2
            rw [Addr.add_mid, World.cell?_of_block (w := w5) (a := ⟨gp, i * 3 + j, none⟩) (hP2.1.block gp hlt gpT)]
            exact hc
          obtain ⟨w7, hw7⟩ : ∃ w7, w7 = wq.alloc (.cells (kcs k).toArray 32) := ⟨_, rfl⟩
          obtain ⟨g7, hg7⟩ : ∃ g, g = wq.heap.size := ⟨_, rfl⟩
          have b7 : Below wq.heap.size wq w7 := by rw [hw7]; exact (Below.refl _ _).alloc (Nat.le_refl _) _
          have n7 : w7.heap[g7]? = some (.cells (kcs k).toArray 32 (0, 0)) := by rw [hw7, hg7]; exact heap_alloc_new _ _
          have KT := box_at n7
          have nw := hP2.keepRow N5.out GT5.out
          have cn : w7.cell? ⟨g, 0, none⟩ = some (.int .i64 now) := cell_of_one ((b7.block g (lt_of_rowK nw)).trans nw)
          have SX := Lib.hid (show (Try.prog.info? 32).map (·.size) = some (kcs k).toArray.size by kernel_rfl)
          have OX := Lib.hid (kcs_one k)
          obtain ⟨hF2, T2, hM2, hT2⟩ := hP2
          have FR := Lib.hid (mt_free (hM2.below b7) hin k hwf now hnow)
          have HF2 := Lib.hid hF2
          have HT2 := Lib.hid hT2
          have HFR := Lib.hid hfr
          have HW7 := Lib.hid hw7
          have HG7 := Lib.hid hg7
          have B7 := Lib.hid b7
          have HK := Lib.hid hk
          have hi2 : (i : Int) < (n : Int) := by omega
          have h0 : (0 : Int) ≤ (i : Int) := by omega
          clear hF2 hT2 hM2 hfr hw7 hg7 b7 n7 nw hk hwf hge hglt gpT
          go_upto_region 7 with (first
            | (with_reducible show wpList _ _ _ _ _ _; refine wpList_load_allW rfl 32 (.tmp 19) rfl ⟨gp, i * 3, none⟩ rfl (kcs k) _ KX Try.underlying32 rfl (tkSize _) ?_)
            | (with_reducible show wpList _ _ _ _ _ _; refine wpList_store_newW rfl 32 (.tmp 7) (.tmp 20) rfl 32 _ (kcs k).toArray (by with_unfolding_all rfl) (by with_unfolding_all rfl) SX.out rfl OX.out ?_))
          rw [← HW7.out, ← HG7.out]
          simp only [Act.put, List.setIfInBounds_toArray, List.set_cons_zero, List.set_cons_succ, List.getElem_toArray, List.getElem_cons_zero, List.getElem_cons_succ]
          go_wp2_with (first
            | (with_reducible show wpList _ _ _ _ _ _; refine wpList_load_allW rfl 32 (.tmp 7) rfl ⟨g7, 0, none⟩ rfl (kcs k) _ KT Try.underlying32 rfl (tkSize _) ?_)
            | (with_reducible refine FR.out.mono ?_; rintro e w8 ⟨rfl, hP8⟩))
          refine ⟨⟨i + 1, M2.fr k j now, by rw [← HN.out]; omega, rfl, HFR.out, ?_⟩, by simp [intOf]; omega⟩
          exact MPost.glue HF2.out HT2.out B7.out hP8
        · have hie : i = l.length := by have := HN.out; omega
          have hin3 : ¬ (i : Int) < (n : Int) := by omega
          have hMM : M2 = ML := by
            rw [hie, List.drop_length] at hfr
            exact hfr
          subst hMM
          have HP2 := Lib.hid hP2
          clear hfr hP2 hie
          have RL := Lib.hid (show exRel w1 T1 b o R0 ty now MF (.int .i64 ((j + 1 : Nat) : Int)) wq from ⟨j + 1, M2, by omega, by omega, rfl, by rw [show 65 - (j + 1) = 65 - (j + 1) from rfl]; exact HEX.out, MPost.glue HF5.out HT5.out HB5.out HP2.out⟩)
          go_wp2_with fail
          exact ⟨RL.out, by simp [intOf]; omega⟩
    · have hj65 : j = 65 := by omega
      subst hj65
      have IW := Lib.hid (fun W => isWorker_any 65 W)
      rw [show isW 65 = false from rfl] at IW
      rw [show ((65 : Nat) : Int) = 65 from rfl]
      have hMM : M1 = MF := hex
      subst hMM
      obtain ⟨hF5, T5, hM5, hT5⟩ := hP
      have EN := Lib.hid (mt_end hM5 HE.out (asks_til NO.out) (enters_of Try.func60 (by kernel_rfl) rfl))
      rw [← HF.out] at EN
      have HF5 := Lib.hid hF5
      have HT5 := Lib.hid hT5
      clear hF5 hM5 hT5 hex no hin hj hj1
      go_wp2_with (first
        | (with_reducible refine (IW.out _).mono ?_; rintro e w4 ⟨rfl, h4⟩; obtain rfl := h4.symm)
        | (with_reducible refine EN.out.mono ?_; rintro e w5 ⟨a1, c1, rfl, hL, hX⟩))
      go_ret
      exact ⟨a1, c1, rfl, own_baseQ hL (Nat.le_trans B1.out.size HF5.out.size), MPostX.chain B1.out HF5.out HT5.out HT.out.1 hX⟩
end Go.Proofs.Ytkmhbbcppjckiaa.Ma
