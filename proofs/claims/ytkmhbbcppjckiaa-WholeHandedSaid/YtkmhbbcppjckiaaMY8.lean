/- A hall: a Match, a tick, and a map of those that are done. -/
import Derived.Test.YtkmhbbcppjckiaaMY7
import Derived.Test.YtkmhbbcppjckiaaMY2
import Derived.Test.YtkmhbbcppjckiaaMY5
namespace Go.Proofs.Ytkmhbbcppjckiaa.Ma
open Go Go.RowKit Go.ChangeMaps Go.MapKept Go.Proofs.Ytkmhbbcppjckiaa
open Go.Maps (Keyed)
open Go.Proofs.Ytkmhbbcppjckiaa.Hp (i64wf K3 wf3)
open Go.Proofs.Ytkmhbbcppjckiaa.Qu
open Go.Proofs.Ytkmhbbcppjckiaa.Dk (Frm below_drewN)
set_option linter.unusedVariables false
set_option linter.unusedSimpArgs false
set_option maxRecDepth 100000
/-- Block m is a map of just c numbers, those of S. -/
def IMap (w : World) (m c : Nat) (S : Int → Bool) : Prop := ∃ D : DataW Unit, w.ownsMap Try.prog 3 bElem m c D ∧ Maps.size D = c ∧ ∀ x, i64wf x → Maps.has D (.int .i64 x) = S x ∧ (S x = true → D.atKey (.int .i64 x) (.lit (.bool false)) = .lit (.bool true))
section
variable {w w' : World} {m c : Nat} {S : Int → Bool}
theorem IMap.made (w : World) : IMap (w.alloc (.map #[] 0)) w.heap.size 0 (fun _ => false) := ⟨.map [], World.ownsMap_made w Try.prog 3 bElem, rfl, fun x _ => ⟨rfl, fun h => by cases h⟩⟩
theorem IMap.keep (h : IMap w m c S) (hb : w'.heap[m]? = w.heap[m]?) : IMap w' m c S := by
  obtain ⟨D, ⟨es, cl, h1, h2⟩, h3⟩ := h
  exact ⟨D, ⟨es, cl, hb.trans h1, h2⟩, h3⟩
theorem IMap.lt (h : IMap w m c S) : m < w.heap.size := by
  obtain ⟨D, ⟨es, cl, h1, h2⟩, h3⟩ := h
  exact (Array.getElem?_eq_some_iff.1 h1).1
theorem IMap.ne (h : IMap w m c S) {g : Nat} {cs : Array Value} {ty : TypeId} {fr : Nat × Nat} (hg : w.heap[g]? = some (.cells cs ty fr)) : m ≠ g := by
  obtain ⟨D, ⟨es, cl, h1, h2⟩, h3⟩ := h
  rintro rfl
  rw [hg] at h1
  cases h1
theorem IMap.look (h : IMap w m c S) {x : Int} (hw : i64wf x) : (Instr.lookup 103 (.map (some m)) (.int .i64 x) false).run Try.prog w = .ok (.bool (S x)) w := by
  obtain ⟨D, h1, _, h2⟩ := h
  obtain ⟨v, ps, hrun, hv⟩ := h1.lookup (Maps.int_keyed Try.underlying3) Try.underlying103 (show (zeroValue 4).run Try.prog w = .ok (.bool false) w by kernel_rfl) (zd := .lit (.bool false)) (zp := []) rfl (Maps.keyOf_int_mk Try.underlying3 hw)
  obtain ⟨b, rfl, hb⟩ := bElem_inv hv
  have hq := congrArg Prod.fst hb
  obtain ⟨hh, hs⟩ := h2 x hw
  have : b = S x := by
    cases hS : S x with
    | false =>
      rw [hS] at hh
      have ha := Maps.atKey_of_not_has hh (.lit (.bool false))
      rw [ha] at hq
      simp only at hq
      injection hq with h3
      injection h3 with h4
      exact h4.symm
    | true =>
      rw [hs hS] at hq
      simp only at hq
      injection hq with h3
      injection h3 with h4
      exact h4.symm
  rw [hrun, this]
theorem IMap.len (h : IMap w m c S) (ty : TypeId) : (Builtin.len_ #[103] ty #[.map (some m)]).run Try.prog w = .ok (.int .i64 (c : Int)) w := by
  obtain ⟨D, h1, h2, h3⟩ := h
  rw [h1.len Try.underlying103 ty, h2]
theorem imap_exact {n : Nat} {D : DataW Unit} (h : w.ownsMap Try.prog 3 bElem m n D) (hs : Maps.size D = c) : w.ownsMap Try.prog 3 bElem m c D := by
  obtain ⟨es, cl, g1, g2, g3, g4⟩ := h
  refine ⟨es, cl, g1, g2, ?_, g4⟩
  have : Maps.size D = es.size := by
    rw [g4]
    show ((es.toList.map (WideElems.rg Try.prog 3 bElem)).foldr DataW.insert []).length = es.size
    rw [length_sorted]
    simp
  omega
theorem IMap.put_run (h : IMap w m c S) (hc : c < maxLen) {x : Int} (hw : i64wf x) (hn : S x = false) :
    ∃ w', (Instr.mapUpdate 103 (.map (some m)) (.int .i64 x) (.bool true)).run Try.prog w = .ok () w' ∧ IMap w' m (c + 1) (fun y => if y = x then true else S y) ∧ w.mapTurned w' m := by
  obtain ⟨D, h1, h2, h3⟩ := h
  have hk := Maps.keyOf_int_mk (P := Try.prog) Try.underlying3 hw
  have hkd : Keyed Try.prog 3 := Maps.int_keyed Try.underlying3
  obtain ⟨w', hrun, r1, r2⟩ := h1.store hkd Try.underlying103 hc hk (show bElem (.bool true) = some (.lit (.bool true), []) from rfl)
  have hsz := Maps.size_put (k := .int .i64 x) (h1.tidy hkd) (.lit (.bool true))
  have hh := (h3 x hw).1
  have hsz2 : Maps.size (D.put (.int .i64 x) (.lit (.bool true))) = c + 1 := by rw [hsz, hh, h2, hn]; rfl
  refine ⟨w', hrun, ⟨_, imap_exact r1 hsz2, hsz2, fun y hy => ?_⟩, r2⟩
  dsimp only
  by_cases hyx : y = x
  · subst hyx
    rw [if_pos rfl, Maps.has_put_same h1.isMap (hkd.key hk)]
    exact ⟨rfl, fun _ => Maps.atKey_put_same h1.isMap (hkd.key hk) _ _⟩
  · have hne : Lit.int .i64 y ≠ Lit.int .i64 x := by intro e; cases e; exact hyx rfl
    rw [if_neg hyx, Maps.has_put_other hne, Maps.atKey_put_other hne]
    exact h3 y hy
end
section
variable {w w' wx : World} {T T' X : Nat → Prop} {b o : Nat} {R R0 : Array Value} {ty : TypeId} {M M' : MM}
/-- The row's other cells. -/
theorem MT.cell (h : MT w T b o R0 ty M) {i : Nat} (hi : i < o ∨ o + 197 ≤ i) : w.cell? ⟨b, i, none⟩ = R0[i]? ∧ w.frozen? ⟨b, i, none⟩ = false := by
  obtain ⟨R, mq, Q, ao, c, h1, h2, h3, h4, h5⟩ := h
  exact ⟨by rw [cell_of_row w b _ _ _ _ h1.row]; exact h3 i hi, frozen_of_row w b _ _ _ h1.row⟩
/-- Another cell of the row is turned. -/
theorem MT.other (h : MT w T b o R0 ty M) {i : Nat} (hi : o + 197 ≤ i) (v : Value) (hs : i < R0.size) : MT (w.setCell ⟨b, i, none⟩ v) T b o (R0.setIfInBounds i v) ty M := by
  obtain ⟨R, mq, Q, ao, c, h1, h2, h3, h4, h5⟩ := h
  have hR : i < R.size := by
    have := h3 i (.inr hi)
    rw [Array.getElem?_eq_getElem hs] at this
    exact (Array.getElem?_eq_some_iff.1 this).1
  have hh : (w.setCell ⟨b, i, none⟩ v).heap[b]? = some (.cells (R.setIfInBounds i v) ty (0, 0)) := Go.Joins.block_setCell (i := i) h1.row _
  have hk : ∀ q, q ≠ b → (w.setCell ⟨b, i, none⟩ v).heap[q]? = w.heap[q]? := fun q hq => setCell_other _ _ _ hq
  refine ⟨R.setIfInBounds i v, mq, Q, ao, c, ⟨hh, by rw [Array.getElem?_setIfInBounds_ne (by omega)]; exact h1.given, fun j hj => ?_, h1.apart, by rw [Array.getElem?_setIfInBounds_ne (by omega)]; exact h1.ls, own_keepK h1.lrow fun q hq _ => hk q (fun e => h1.bne (by rw [← e]; exact hq)), h1.lapart⟩, h2, fun q hq => ?_, h4, h5⟩
  · refine QAt.aside (h1.qs j hj) hh (fun i' h1' h2' v' hv => ?_) fun q hqb hqo => hk q hqb
    rw [Array.getElem?_setIfInBounds_ne (by unfold qo at h1' h2'; omega)]
    have e1 := (h1.qs j hj).c.row.row
    rw [h1.row] at e1
    injection e1 with e1
    injection e1 with e1
    rw [e1]
    exact hv
  · by_cases e : i = q
    · subst e
      rw [Array.getElem?_setIfInBounds_self_of_lt hR, Array.getElem?_setIfInBounds_self_of_lt hs]
    · rw [Array.getElem?_setIfInBounds_ne e, Array.getElem?_setIfInBounds_ne e]
      exact h3 q hq
end
/-- The row of a hall behind its Match. -/
def hrow (now : Int) (gm : Nat) : Array Value := ((Array.replicate 199 undef).setIfInBounds 197 (.int .i64 now)).setIfInBounds 198 (.map (some gm))
theorem hrow_now (now : Int) (gm : Nat) : (hrow now gm)[197]? = some (.int .i64 now) := by
  unfold hrow
  rw [Array.getElem?_setIfInBounds_ne (by decide), Array.getElem?_setIfInBounds_self_of_lt (by simp)]
theorem hrow_map (now : Int) (gm : Nat) : (hrow now gm)[198]? = some (.map (some gm)) := by
  unfold hrow
  rw [Array.getElem?_setIfInBounds_self_of_lt (by simp)]
theorem hrow_size (now : Int) (gm : Nat) : (hrow now gm).size = 199 := by simp [hrow]
theorem hrow_set (now now' : Int) (gm : Nat) : (hrow now gm).setIfInBounds 197 (.int .i64 now') = hrow now' gm := by
  unfold hrow
  rw [Array.setIfInBounds_comm _ _ (show 198 ≠ 197 by decide), Array.setIfInBounds_setIfInBounds]
/-- A hall at b: its Match, its tick, its map at gm; somebody's boxes. -/
structure HX (w : World) (b gm : Nat) (X : Nat → Prop) (M : MM) (now : Int) (c : Nat) (S : Int → Bool) (wx : World) : Prop where
  ex : ∃ T', MT wx T' b 0 (hrow now gm) 105 M ∧ (∀ q, T' q → (q = b ∨ w.heap.size ≤ q) ∧ q < wx.heap.size ∧ ¬ X q ∧ q ≠ gm)
  frm : Frm (fun q => q = b ∨ q = gm) w wx
  lt : ∀ q, X q → q < wx.heap.size ∧ q ≠ gm
  map : IMap wx gm c S
section
variable {w w' wx : World} {X : Nat → Prop} {b gm c : Nat} {M : MM} {now : Int} {S : Int → Bool}
theorem HX.step (h : HX w b gm X M now c S wx) : ∃ T', MT wx T' b 0 (hrow now gm) 105 M ∧ ∀ M' w', MPost wx T' b 0 (hrow now gm) 105 M' w' → HX w b gm X M' now c S w' ∧ KX X wx w' := by
  obtain ⟨⟨T', hM, hT⟩, hF, hX, hm⟩ := h
  refine ⟨T', hM, fun M' w' hP => ?_⟩
  obtain ⟨hF2, T2, hM2, hT2⟩ := hP
  refine ⟨⟨⟨T2, hM2, fun q hq => ?_⟩, hF.transT hF2 fun q hq h1 => ?_, fun q hq => ⟨Nat.lt_of_lt_of_le (hX q hq).1 hF2.size, (hX q hq).2⟩, hm.keep (hF2.block gm hm.lt fun e => (hT gm e).2.2.2 rfl)⟩, ⟨fun q hq => hF2.block q (hX q hq).1 fun e => (hT q e).2.2.1 hq, hF2.size⟩⟩
  · refine ⟨?_, (hT2 q hq).2, fun hx => ?_, fun e => ?_⟩
    · rcases (hT2 q hq).1 with h | h
      · exact (hT q h).1
      · exact .inr (Nat.le_trans hF.size h)
    · rcases (hT2 q hq).1 with h | h
      · exact (hT q h).2.2.1 hx
      · have := (hX q hx).1; omega
    · rcases (hT2 q hq).1 with h | h
      · exact (hT q h).2.2.2 e
      · have := hm.lt; omega
  · rcases (hT q h1).1 with h | h
    · exact .inl h
    · omega
theorem HX.below (h : HX w b gm X M now c S wx) (hb : Below wx.heap.size wx w') : HX w b gm X M now c S w' ∧ KX X wx w' := by
  obtain ⟨⟨T', hM, hT⟩, hF, hX, hm⟩ := h
  exact ⟨⟨⟨T', hM.below hb, fun q hq => ⟨(hT q hq).1, Nat.lt_of_lt_of_le (hT q hq).2.1 hb.size, (hT q hq).2.2⟩⟩, hF.thenBelow hb (Nat.le_refl _), fun q hq => ⟨Nat.lt_of_lt_of_le (hX q hq).1 hb.size, (hX q hq).2⟩, hm.keep (hb.block gm hm.lt)⟩, ⟨fun q hq => hb.block q (hX q hq).1, hb.size⟩⟩
theorem HX.box (h : HX w b gm X M now c S wx) (ob : Obj) : HX w b gm (fun q => X q ∨ q = wx.heap.size) M now c S (wx.alloc ob) := by
  have b1 : Below wx.heap.size wx (wx.alloc ob) := (Below.refl _ _).alloc (Nat.le_refl _) _
  obtain ⟨⟨T', hM, hT⟩, hF, hX, hm⟩ := h
  refine ⟨⟨T', hM.below b1, fun q hq => ⟨(hT q hq).1, Nat.lt_of_lt_of_le (hT q hq).2.1 b1.size, fun hx => ?_, (hT q hq).2.2.2⟩⟩, hF.thenBelow b1 (Nat.le_refl _), fun q hq => ?_, hm.keep (b1.block gm hm.lt)⟩
  · rcases hx with hx | hx
    · exact (hT q hq).2.2.1 hx
    · have := (hT q hq).2.1; omega
  · rcases hq with hq | hq
    · exact ⟨Nat.lt_of_lt_of_le (hX q hq).1 b1.size, (hX q hq).2⟩
    · have := hm.lt
      exact ⟨by rw [hq]; exact lt_of_rowK (heap_alloc_new wx ob), by omega⟩
theorem HX.less {X' : Nat → Prop} (h : HX w b gm X M now c S wx) (hX : ∀ q, X' q → X q) : HX w b gm X' M now c S wx := by
  obtain ⟨⟨T', hM, hT⟩, hF, hX0, hm⟩ := h
  exact ⟨⟨T', hM, fun q hq => ⟨(hT q hq).1, (hT q hq).2.1, fun hx => (hT q hq).2.2.1 (hX q hx), (hT q hq).2.2.2⟩⟩, hF, fun q hq => hX0 q (hX q hq), hm⟩
theorem HX.cells (h : HX w b gm X M now c S wx) : wx.cell? ⟨b, 197, none⟩ = some (.int .i64 now) ∧ wx.frozen? ⟨b, 197, none⟩ = false ∧ wx.cell? ⟨b, 198, none⟩ = some (.map (some gm)) := by
  obtain ⟨T', hM, _⟩ := h.ex
  have h1 := hM.cell (i := 197) (.inr (by decide))
  have h2 := hM.cell (i := 198) (.inr (by decide))
  exact ⟨by rw [h1.1, hrow_now], h1.2, by rw [h2.1, hrow_map]⟩
theorem HX.tick (h : HX w b gm X M now c S wx) (now' : Int) : HX w b gm X M now' c S (wx.setCell ⟨b, 197, none⟩ (.int .i64 now')) ∧ KX X wx (wx.setCell ⟨b, 197, none⟩ (.int .i64 now')) := by
  obtain ⟨⟨T', hM, hT⟩, hF, hX, hm⟩ := h
  have hb : T' b := by
    obtain ⟨R, mq, Q, ao, c, h1, h2, h3, h4, h5⟩ := hM
    exact h4 0 (by decide) b h1.tb
  have hM2 := hM.other (i := 197) (by decide) (.int .i64 now') (by rw [hrow_size]; decide)
  rw [hrow_set] at hM2
  have hFx : Frm (fun q => q = b) wx (wx.setCell ⟨b, 197, none⟩ (.int .i64 now')) := Frm.setCell (T := fun q => q = b) (Frm.refl _ wx) (p := ⟨b, 197, none⟩) (.inl rfl) _
  refine ⟨⟨⟨T', hM2, fun q hq => ⟨(hT q hq).1, Nat.lt_of_lt_of_le (hT q hq).2.1 hFx.size, (hT q hq).2.2⟩⟩, hF.transT hFx fun q _ hq => .inl hq, fun q hq => ⟨Nat.lt_of_lt_of_le (hX q hq).1 hFx.size, (hX q hq).2⟩, hm.keep (hFx.block gm hm.lt fun e => (hT b hb).2.2.2 e.symm)⟩, ⟨fun q hq => hFx.block q (hX q hq).1 fun e => (hT b hb).2.2.1 (e ▸ hq), hFx.size⟩⟩
theorem HX.put (h : HX w b gm X M now c S wx) {S' : Int → Bool} {c' : Nat} (ht : wx.mapTurned w' gm) (hm : IMap w' gm c' S') : HX w b gm X M now c' S' w' ∧ KX X wx w' := by
  have hFx : Frm (fun q => q = gm) wx w' := (Frm.refl _ wx).turned ht (.inl rfl)
  obtain ⟨⟨T', hM, hT⟩, hF, hX, _⟩ := h
  exact ⟨⟨⟨T', hM.keep fun q hq hlt => hFx.block q hlt fun e => (hT q hq).2.2.2 e, fun q hq => ⟨(hT q hq).1, Nat.lt_of_lt_of_le (hT q hq).2.1 hFx.size, (hT q hq).2.2⟩⟩, hF.transT hFx fun q _ hq => .inr hq, fun q hq => ⟨Nat.lt_of_lt_of_le (hX q hq).1 hFx.size, (hX q hq).2⟩, hm⟩, ⟨fun q hq => hFx.block q (hX q hq).1 (hX q hq).2, hFx.size⟩⟩
theorem hx_add (h : HX w b gm X M now c S wx) (k : K3) (hk : wf3 k) (wk t : Int) (hn : i64wf t) (hE : M.E.length ≤ 1000) : Calls Try.prog 25 #[.pointer (some ⟨b, 0, none⟩), .agg (kcs k).toArray, .int .i64 wk, .int .i64 t] wx fun e w' => e = .returned (.int .i64 (M.adE k wk)) ∧ HX w b gm X (M.ad k wk t) now c S w' ∧ KX X wx w' := by
  obtain ⟨T', hM, hS⟩ := h.step
  exact (mt_add hM k hk wk t hn hE).mono fun e w' hh => ⟨hh.1, hS _ _ hh.2⟩
theorem hx_poll (h : HX w b gm X M now c S wx) (wk kind t : Int) (hE : M.E.length ≤ 256) (hg0 : 0 ≤ M.giv) (hg1 : M.giv < 9223372036854775807) (hn0 : -9223372036854775808 ≤ t) (hn1 : t + 20 < 9223372036854775808) : Calls Try.prog 27 #[.pointer (some ⟨b, 0, none⟩), .int .i64 wk, .int .i64 kind, .int .i64 t] wx fun e w' => e = .returned (.tuple #[.agg (M.plL wk kind t).cs.toArray, .int .i64 (M.plE wk kind)]) ∧ HX w b gm X (M.pl wk kind t) now c S w' ∧ KX X wx w' := by
  obtain ⟨T', hM, hS⟩ := h.step
  exact (mt_poll hM wk kind t hE hg0 hg1 hn0 hn1).mono fun e w' hh => ⟨hh.1, hS _ _ hh.2⟩
theorem hx_get (h : HX w b gm X M now c S wx) (tok t : Int) (hE : M.E.length ≤ 1000) : Calls Try.prog 29 #[.pointer (some ⟨b, 0, none⟩), .int .u64 tok, .int .i64 t] wx fun e w' => e = .returned (.tuple #[.agg (M.gt tok t).1.cs.toArray, .int .i64 (M.gt tok t).2]) ∧ Below wx.heap.size wx w' := by
  obtain ⟨T', hM, hS⟩ := h.step
  exact mt_get hM tok t hE
theorem hx_done (h : HX w b gm X M now c S wx) (tok : Int) (hE : M.E.length ≤ 1000) : Calls Try.prog 30 #[.pointer (some ⟨b, 0, none⟩), .int .u64 tok] wx fun e w' => e = .returned (.bool (M.E.any fun l => decide (l.tok = tok))) ∧ HX w b gm X (M.dn tok) now c S w' ∧ KX X wx w' := by
  obtain ⟨T', hM, hS⟩ := h.step
  exact (mt_done hM hE tok).mono fun e w' hh => ⟨hh.1, hS _ _ hh.2⟩
theorem hx_waiting (h : HX w b gm X M now c S wx) : Calls Try.prog 42 #[.pointer (some ⟨b, 0, none⟩)] wx fun e w' => ∃ ao c, e = .returned (.slice ao M.wt.length c) ∧ Below wx.heap.size wx w' := by
  obtain ⟨T', hM, hS⟩ := h.step
  exact (mt_waiting hM).mono fun e w' ⟨ao, c, h1, h2, h3⟩ => ⟨ao, c, h1, h3⟩
theorem hx_leases (h : HX w b gm X M now c S wx) (hE : M.E.length ≤ 1000) : Calls Try.prog 43 #[.pointer (some ⟨b, 0, none⟩)] wx fun e w' => ∃ ao c, e = .returned (.slice ao M.E.length c) ∧ Below wx.heap.size wx w' := by
  obtain ⟨T', hM, hS⟩ := h.step
  exact (mt_leases hM hE).mono fun e w' ⟨ao, c, h1, h2, h3⟩ => ⟨ao, c, h1, h3⟩
/-- What is out lies in a row that is nobody's. -/
theorem HX.outRow {wx w' : World} {T' : Nat → Prop} {M' : MM} {Y : Nat → Prop} (h : HX w b gm X M now c S wx) (hT' : ∀ q, T' q → (q = b ∨ w.heap.size ≤ q) ∧ q < wx.heap.size ∧ ¬ X q ∧ q ≠ gm) (hP : MPostX wx T' b 0 (hrow now gm) 105 M' Y w') (hY : ∀ q, Y q → wx.heap.size ≤ q ∧ q < w'.heap.size) : HX w b gm (fun q => X q ∨ Y q) M' now c S w' ∧ KX X wx w' := by
  obtain ⟨_, hF, hX, hm⟩ := h
  obtain ⟨hF2, T2, hM2, hT2⟩ := hP
  refine ⟨⟨⟨T2, hM2, fun q hq => ?_⟩, hF.transT hF2 fun q hq h1 => ?_, fun q hq => ?_, hm.keep (hF2.block gm hm.lt fun e => (hT' gm e).2.2.2 rfl)⟩, ⟨fun q hq => hF2.block q (hX q hq).1 fun e => (hT' q e).2.2.1 hq, hF2.size⟩⟩
  · refine ⟨?_, (hT2 q hq).2.1, fun hx => ?_, fun e => ?_⟩
    · rcases (hT2 q hq).1 with h | h
      · exact (hT' q h).1
      · exact .inr (Nat.le_trans hF.size h)
    · rcases hx with hx | hx
      · rcases (hT2 q hq).1 with h | h
        · exact (hT' q h).2.2.1 hx
        · have := (hX q hx).1; omega
      · exact (hT2 q hq).2.2 hx
    · rcases (hT2 q hq).1 with h | h
      · exact (hT' q h).2.2.2 e
      · have := hm.lt; omega
  · rcases (hT' q h1).1 with h | h
    · exact .inl h
    · omega
  · rcases hq with hq | hq
    · exact ⟨Nat.lt_of_lt_of_le (hX q hq).1 hF2.size, (hX q hq).2⟩
    · have := hY q hq
      have := hm.lt
      exact ⟨(hY q hq).2, by omega⟩
theorem hx_expire (h : HX w b gm X M now c S wx) (t : Int) (hnow : i64wf t) (hE : M.E.length ≤ 1000) : Calls Try.prog 31 #[.pointer (some ⟨b, 0, none⟩), .int .i64 t] wx fun e w' => ∃ a1 c1, e = .returned (.slice a1 (M.E.filter fun l => decide (l.til ≤ t)).length c1) ∧ LRow w' wx.heap.size a1 c1 (M.E.filter fun l => decide (l.til ≤ t)) ∧ HX w b gm (fun q => X q ∨ (Value.slice a1 (M.E.filter fun l => decide (l.til ≤ t)).length c1).ownBlock = some q) (M.ex t) now c S w' ∧ KX X wx w' := by
  obtain ⟨T', hM, hT⟩ := h.ex
  refine (mt_expire hM t hnow hE).mono ?_
  rintro e w' ⟨a1, c1, h1, h2, h3⟩
  have := h.outRow hT h3 (fun q hq => h2.lt q hq)
  exact ⟨a1, c1, h1, h2, this.1, this.2⟩
theorem hx_lose (h : HX w b gm X M now c S wx) (wk t : Int) (hnow : i64wf t) (hE : M.E.length ≤ 1000) : Calls Try.prog 35 #[.pointer (some ⟨b, 0, none⟩), .int .i64 wk, .int .i64 t] wx fun e w' => ∃ a1 c1, e = .returned (.slice a1 (M.loL wk).length c1) ∧ LRow w' wx.heap.size a1 c1 (M.loL wk) ∧ HX w b gm (fun q => X q ∨ (Value.slice a1 (M.loL wk).length c1).ownBlock = some q) (M.lo wk t) now c S w' ∧ KX X wx w' := by
  obtain ⟨T', hM, hT⟩ := h.ex
  refine (mt_lose hM wk t hnow hE).mono ?_
  rintro e w' ⟨a1, c1, h1, h2, h3⟩
  have := h.outRow hT h3 (fun q hq => h2.lt q hq)
  exact ⟨a1, c1, h1, h2, this.1, this.2⟩
theorem HX.low {B : Nat} (h : HX w b gm X M now c S wx) (hb : B ≤ b) (hg : B ≤ gm) (hB : B ≤ w.heap.size) : Below B w wx := h.frm.below (fun q _ hq => by rcases hq with e | e <;> omega) hB
end
end Go.Proofs.Ytkmhbbcppjckiaa.Ma
