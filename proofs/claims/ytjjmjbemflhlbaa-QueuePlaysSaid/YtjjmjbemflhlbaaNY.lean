/- One task more in a row of its own: what stands while that region is under way. -/
import Derived.Test.YtjjmjbemflhlbaaNV
namespace Go.Proofs.Ytjjmjbemflhlbaa.Qu
open Go Go.RowKit Go.Proofs.Ytjjmjbemflhlbaa
open Go.Proofs.Ytjjmjbemflhlbaa.Hp (K3 kv KLit wf3 i64wf kv_inj)
open Go.Proofs.Ytjjmjbemflhlbaa.Dk (Frm below_drewN Frm.of_below Frm.setCell Frm.refl Frm.drewN Frm.drew Frm.transT Frm.turned Frm.trans Frm.mono Frm.setRow Frm.thenBelow Frm.below)
set_option linter.unusedVariables false
set_option linter.unusedSimpArgs false
set_option maxRecDepth 100000
/-- An append within a region that draws its order, with what it leaves alone. -/
theorem slot_appQ {P : Program} {Q : Exit → Act → World → Prop} {o : Oper} {a : Act} {w : World} {K : Act → World → Prop} (s x : Operand) (tS tx : TypeId) (ho : o.op = .call { callee := .builtin .append, args := #[s, x], argTypes := #[tS, tx] })
    (B : Nat) (e : TypeId) (size bytes : Nat) (zv : Value) (hu : P.underlying tS = some (.slice e)) (hinfo : (P.info? e).map (fun i => (i.zero, i.size, i.bytes)) = some (some zv, size, bytes)) (hb : bytes ≤ 128) (hzv : zv.cells.size = size)
    (v : Value) (n : Nat) (xs : List Value) (hsv : a.eval s = v) (own : w.ownsRow B e size v n xs) (xv : Value) (m : Nat) (news : List Value) (hx : a.eval x = xv) (hs : Go.Src P size tx xv m news w) (hlim : n + m ≤ 1000000) (hB : B ≤ w.heap.size)
    (h : ∀ v' w', w'.ownsRow B e size v' (n + m) (xs ++ news) → Below B w w' → (∀ k, k < w.heap.size → some k ≠ v.ownBlock → w'.heap[k]? = w.heap[k]?) → K (a.put o.dst v') w') : o.wp P a w K Q := by
  obtain ⟨i0, hi, hz0, hz1, hz2⟩ := info_partsK hinfo
  have hbb : (n + m) * bytes ≤ (n + m) * 128 := Nat.mul_le_mul_left _ hb
  obtain ⟨v', w', hr, h2⟩ := run_append_own_src (P := P) w B tS tx o.type e i0 zv size bytes hu hi hz0 hz1 hz2 hzv v n xs own xv m news hs (by unfold maxLen; omega) (by omega) hB
  unfold Oper.wp execOp
  simp only [ho, resolve, invoke, builtin, Sem.run_bind, Sem.run_pure, Result.andThen_ok, List.map_toArray, List.map_cons, List.map_nil, hsv, hx, hr]
  obtain ⟨ao, c, rfl, o4, b4, k4⟩ := grew_zeroK own hB (Nat.le_refl _) h2
  exact h _ w' o4 b4 k4
structure AdP where
  a0 : Nat
  a8 : Nat
  v2 : Value
  v9 : Value
/-- What stands. -/
structure AdI (w : World) (k : K3) (now : Int) (D : List Tk) (s0 s2 s8 s9 : Bool) (p : AdP) (wx : World) : Prop where
  low : Below w.heap.size w wx
  z0 : s0 = true → s2 = false → wx.ownsRow w.heap.size 39 4 (.slice (some ⟨p.a0, 0, none⟩) 0 0) 0 []
  z2 : s2 = true → s9 = false → wx.ownsRow w.heap.size 39 4 p.v2 D.length (tcs D)
  z8 : s8 = true → s9 = false → wx.heap[p.a8]? = some (.cells (wcs k now).toArray 39 (0, 0)) ∧ w.heap.size ≤ p.a8 ∧ (s0 = true → s2 = false → p.a8 ≠ p.a0)
  z9 : s9 = true → wx.ownsRow w.heap.size 39 4 p.v9 (D.length + 1) (tcs (D ++ [(k, now)]))
  z20 : s2 = true → s0 = true
section
variable {w wx w' : World} {k : K3} {now : Int} {D : List Tk} {p : AdP}
theorem AdI.make0 {s8 : Bool} (h : AdI w k now D false false s8 false p wx) : AdI w k now D true false s8 false ⟨wx.heap.size, p.a8, p.v2, p.v9⟩ (wx.alloc (.cells #[] 39)) := by
  refine ⟨h.low.alloc h.low.size _, fun _ _ => own_empty wx _ h.low.size _ _, (fun e => by cases e), fun e1 e2 => ?_, (fun e => by cases e), (fun e => by cases e)⟩
  obtain ⟨h1, h2, _⟩ := h.z8 e1 e2
  exact ⟨(Below.heap_alloc wx _ _ (lt_of_rowW h1)).trans h1, h2, fun _ _ e => by have h4 := lt_of_rowW h1; rw [e] at h4; exact absurd h4 (Nat.lt_irrefl _)⟩
theorem AdI.make8 {s0 s2 : Bool} (h : AdI w k now D s0 s2 false false p wx) : AdI w k now D s0 s2 true false ⟨p.a0, wx.heap.size, p.v2, p.v9⟩ (wx.alloc (.cells (wcs k now).toArray 39)) :=
  ⟨h.low.alloc h.low.size _, fun e1 e2 => (h.z0 e1 e2).alloc _, fun e1 e2 => (h.z2 e1 e2).alloc _, fun _ _ => ⟨heap_alloc_new wx _, h.low.size, fun e1 e2 e => by
    have h1 := ((h.z0 e1 e2).lt p.a0 rfl).2
    have e : wx.heap.size = p.a0 := e
    omega⟩, (fun e => by cases e), h.z20⟩
theorem AdI.app2 {s8 : Bool} {v' : Value} (h : AdI w k now D true false s8 false p wx) (ho : w'.ownsRow w.heap.size 39 4 v' D.length (tcs D)) (hb : Below w.heap.size wx w') (hk : ∀ q, q < wx.heap.size → some q ≠ (Value.slice (some ⟨p.a0, 0, none⟩) 0 0).ownBlock → w'.heap[q]? = wx.heap[q]?) : AdI w k now D true true s8 false ⟨p.a0, p.a8, v', p.v9⟩ w' := by
  refine ⟨h.low.trans hb, (fun _ e => by cases e), fun _ _ => ho, fun e1 e2 => ?_, (fun e => by cases e), fun _ => rfl⟩
  obtain ⟨h1, h2, h3⟩ := h.z8 e1 e2
  refine ⟨(hk p.a8 (lt_of_rowW h1) fun e => ?_).trans h1, h2, (fun _ e => by cases e)⟩
  have : p.a8 = p.a0 := by simpa [Value.ownBlock] using e
  exact h3 rfl rfl this
theorem AdI.app9 {v' : Value} (h : AdI w k now D true true true false p wx) (ho : w'.ownsRow w.heap.size 39 4 v' (D.length + 1) (tcs (D ++ [(k, now)]))) (hb : Below w.heap.size wx w') : AdI w k now D true true true true ⟨p.a0, p.a8, p.v2, v'⟩ w' :=
  ⟨h.low.trans hb, (fun _ e => by cases e), (fun _ e => by cases e), (fun _ e => by cases e), fun _ => ho, fun _ => rfl⟩
theorem src_block {P : Program} {tx e : TypeId} {size g : Nat} {w : World} {cs : List Value} (hk : P.underlying tx = some (.slice e)) (h : w.heap[g]? = some (.cells cs.toArray e (0, 0))) (hl : cs.length = size) (h1 : ∀ u ∈ cs, u.oneCell' = true) : Go.Src P size tx (.slice (some ⟨g, 0, none⟩) 1 1) 1 cs w :=
  Src.any _ (e' := e) hk _ 1 1 cs (by omega) (fun h => by cases h) (fun a ha j u hu => by
    cases ha
    exact box_at h j u hu) h1
end
end Go.Proofs.Ytjjmjbemflhlbaa.Qu
