/- The reference's mark of a text (foliotref06.Read). -/
import Derived.Test.YtgbmkolpdnenlaaLw
import Derived.Test.YtgbmkolpdnenlaaQg
import Derived.Test.YtgbmkolpdnenlaaTx
import Derived.Test.YtgbmkolpdnenlaaUl
import Derived.Test.YtgbmkolpdnenlaaMe
import Derived.Deep.DeepCutAuto
namespace Go.Proofs.Ytgbmkolpdnenlaa.Dk
open Go Go.RowKit
set_option linter.unusedVariables false
set_option linter.unusedSimpArgs false
theorem str_extract' (t : List UInt8) (a n : Nat) : (str t).extract a (a + n) = str ((t.drop a).take n) := by
  apply ByteArray.ext
  simp [str, ByteArray.data_extract]
theorem mapGet {f : Nat → Nat} {i : Nat} (hi : i < 6) : ((List.range 6).map f).getD i 0 = f i := by
  rw [List.getD_eq_getElem?_getD, List.getElem?_map, List.getElem?_range hi, Option.map_some, Option.getD_some]
theorem readM_word (l : List UInt8) {i : Nat} (hi : i < 6) : (readM l).W.getD i 0 = wordN l (8 * (1 + i)) 8 := mapGet (f := fun i => wordN l (8 * (1 + i)) 8) hi
theorem hword {l : List UInt8} {i : Nat} (hi : i < 6) (hl : 16 + 8 * i ≤ l.length) : wordN ((l.drop (8 + 8 * i)).take 8) 0 8 = (readM l).W.getD i 0 := by
  have e : 8 * (1 + i) = 8 + 8 * i := by omega
  rw [readM_word l hi, e, word_part l (8 + 8 * i) 8 (by omega)]
theorem low8_q (L : List UInt8) (hL : L.length = 8) (w : World) (m : Nat) : Calls Try.prog 69 #[.string (str L)] (w.drewN m) fun e w' => e = .returned (.int .u64 ((wordN L 0 8 : Nat) : Int)) ∧ ∃ n, w' = w.drewN n :=
  (low8_any L hL _).mono fun _ _ h => ⟨h.1, m, h.2.symm⟩
theorem own_keep' {w w' : World} {base : Nat} {e : TypeId} {size : Nat} {v : Value} {n : Nat} {xs : List Value} (h : w.ownsRow base e size v n xs) (hk : ∀ g, v.ownBlock = some g → w'.heap[g]? = w.heap[g]?) : w'.ownsRow base e size v n xs := by
  refine ⟨h.1, ?_⟩
  rcases h.2 with ⟨e1, e2⟩ | ⟨g, cap, cur, rfl, hb, hg, h1, h2, h3, h4⟩
  · exact .inl ⟨e1, e2⟩
  · exact .inr ⟨g, cap, cur, rfl, hb, (hk g (by simp [Value.ownBlock])).trans hg, h1, h2, h3, h4⟩
/-- What the operations of the fifth region leave in their slots. -/
def reF (l : List UInt8) (k3 i n : Nat) (v0 : Value) (j : Nat) (v : Value) : Prop := match j with
  | 0 | 13 => v = .pointer (some ⟨k3, 1, none⟩)
  | 1 => v = v0
  | 2 => v = .string (str l)
  | 3 | 6 => v = .int .i64 (i : Int)
  | 4 | 7 => v = .int .i64 (8 * (i : Int))
  | 5 => v = .int .i64 (8 + 8 * (i : Int))
  | 8 => v = .int .i64 (16 + 8 * (i : Int))
  | 9 => v = .string (str ((l.drop (8 + 8 * i)).take 8))
  | 10 => v = .int .u64 (n : Int)
  | _ => True
structure ReW (W0 k3 i n B : Nat) (w3 wo : World) (xs : List Value) (v0 : Value) (b11 b12 b14 : Bool) (y11 y12 : Value) (wx : World) : Prop where
  bel : Below B w3 wx
  size : wo.heap.size ≤ wx.heap.size
  row0 : b14 = false → wx.heap[k3]? = some (.cells #[.int .u64 (W0 : Int), v0] 31 (0, 0))
  row1 : b14 = true → wx.heap[k3]? = some (.cells #[.int .u64 (W0 : Int), y12] 31 (0, 0))
  own0 : b12 = false → wx.ownsRow (k3 + 1) 28 1 v0 i xs
  own1 : b12 = true → wx.ownsRow (k3 + 1) 28 1 y12 (i + 1) (xs ++ [uv n])
  src : b11 = true → b12 = false → ∃ kb, y11 = .slice (some ⟨kb, 0, none⟩) 1 1 ∧ wx.heap[kb]? = some (.cells #[uv n] 28 (0, 0))
  imp1 : b12 = true → b11 = true
  imp2 : b14 = true → b12 = true
theorem ReW.built {W0 k3 i n B : Nat} {w3 wo wx : World} {xs : List Value} {v0 y11 y12 : Value} {b12 b14 : Bool} (hB : B ≤ w3.heap.size) (h : ReW W0 k3 i n B w3 wo xs v0 false b12 b14 y11 y12 wx) :
    ReW W0 k3 i n B w3 wo xs v0 true b12 b14 (.slice (some ⟨wx.heap.size, 0, none⟩) 1 1) y12 (wx.alloc (.cells #[uv n] 28)) := by
  have h12 : b12 = false := by
    cases b12 with
    | false => rfl
    | true => have := h.imp1 rfl; cases this
  have h14 : b14 = false := by
    cases b14 with
    | false => rfl
    | true => have := h.imp2 rfl; rw [h12] at this; cases this
  subst h12 h14
  have hr := h.row0 rfl
  have hb := h.bel.size
  refine ⟨h.bel.alloc (by omega) _, by have := h.size; simp; omega, fun _ => (Below.heap_alloc wx _ k3 (lt_of_row hr)).trans hr, (fun e => by cases e), fun _ => (h.own0 rfl).alloc _, (fun e => by cases e), fun _ _ => ⟨_, rfl, heap_alloc_new wx _⟩, (fun e => by cases e), fun e => by cases e⟩
theorem ReW.grown {W0 k3 i n B : Nat} {w3 wo wx w' : World} {xs : List Value} {v0 v' y11 y12 : Value} {b14 : Bool} (hB : B ≤ k3 + 1) (h : ReW W0 k3 i n B w3 wo xs v0 true false b14 y11 y12 wx) (hg : Grew wx w' (k3 + 1) 28 1 v0 v' (i + 1) (xs ++ [uv n])) :
    ReW W0 k3 i n B w3 wo xs v0 true true b14 y11 v' w' := by
  have h14 : b14 = false := by
    cases b14 with
    | false => rfl
    | true => have := h.imp2 rfl; cases this
  subst h14
  have hr := h.row0 rfl
  have hlt := (h.own0 rfl).lt
  refine ⟨h.bel.trans (((Frm.refl (fun k => v0.ownBlock = some k) wx).grown hg.2.1 (fun j e => .inl e)).below (B := B) (fun k _ e => by have := (hlt k e).1; omega) (by have := lt_of_row hr; omega)), ?_, fun _ => ?_, (fun e => by cases e), (fun e => by cases e), fun _ => hg.1, (fun _ e => by cases e), (fun _ => rfl), fun e => by cases e⟩
  · exact Nat.le_trans h.size hg.2.1.size
  · exact (hg.2.1.block k3 (lt_of_row hr) (fun e => by have := (hlt k3 e.symm).1; omega)).trans hr
theorem ReW.stored {W0 k3 i n B : Nat} {w3 wo wx : World} {xs : List Value} {v0 y11 y12 : Value} (hB : B ≤ k3) (h : ReW W0 k3 i n B w3 wo xs v0 true true false y11 y12 wx) :
    ReW W0 k3 i n B w3 wo xs v0 true true true y11 y12 (wx.setCell ⟨k3, 1, none⟩ y12) := by
  have hr := h.row0 rfl
  have ho := h.own1 rfl
  refine ⟨h.bel.setCell hB _, by have := h.size; simpa [World.setCell] using this, (fun e => by cases e), fun _ => Go.Joins.block_setCell (i := 1) hr y12, (fun e => by cases e), fun _ => own_keep' ho (fun g hg => Below.heap_setCell _ _ _ g (by have := (ho.lt g hg).1; show g ≠ k3; omega)), (fun _ e => by cases e), (fun _ => rfl), fun _ => rfl⟩
def reJ (l : List UInt8) (W0 k3 i n B : Nat) (w3 wo : World) (xs : List Value) (v0 : Value) (L : Nat → Bool) (x : Nat → Value) (wx : World) : Prop :=
  (∀ j, L j = true → reF l k3 i n v0 j (x j)) ∧ ReW W0 k3 i n B w3 wo xs v0 (L 11) (L 12) (L 14) (x 11) (x 12) wx ∧ (L 12 = true → L 1 = true)
theorem reJ.step {l : List UInt8} {W0 k3 i n B : Nat} {w3 wo : World} {xs : List Value} {v0 : Value} {L : Nat → Bool} {x : Nat → Value} {wx : World} (h : reJ l W0 k3 i n B w3 wo xs v0 L x wx) {k : Nat} {v : Value} (hk : k ≠ 11 ∧ k ≠ 12 ∧ k ≠ 14) (hf : reF l k3 i n v0 k v) :
    reJ l W0 k3 i n B w3 wo xs v0 (Go.Proofs.Ytgbmkolpdnenlaa.upd L k true) (Go.Proofs.Ytgbmkolpdnenlaa.upd x k v) wx := by
  refine ⟨updJ h.1 hf, ?_, fun h12 => ?_⟩
  rotate_left 1
  · rw [upd_ne _ _ (Ne.symm hk.2.1)] at h12
    have h1 := h.2.2 h12
    by_cases e : k = 1
    · subst e; exact upd_self _ _ _
    · rw [upd_ne _ _ (Ne.symm e)]; exact h1
  rw [upd_ne _ _ (Ne.symm hk.1), upd_ne _ _ (Ne.symm hk.2.1), upd_ne _ _ (Ne.symm hk.2.2), upd_ne _ _ (Ne.symm hk.1), upd_ne _ _ (Ne.symm hk.2.1)]
  exact h.2.1
theorem slot_append {P : Program} {Q : Exit → Act → World → Prop} {o : Oper} {a : Act} {w w' : World} {K : Act → World → Prop} {s x : Operand} {t tx : TypeId} {v xv v' : Value}
    (ho : o.op = .call { callee := .builtin .append, args := #[s, x], argTypes := #[t, tx] }) (hs : a.eval s = v) (hx : a.eval x = xv) (hr : (Builtin.append_ #[t, tx] o.type #[v, xv]).run P w = .ok v' w') (h : K (a.put o.dst v') w') : o.wp P a w K Q := by
  unfold Oper.wp execOp
  simp only [ho, resolve, invoke, builtin, Sem.run_bind, Sem.run_pure, Result.andThen_ok, List.map_toArray, List.map_cons, List.map_nil, hs, hx, hr]
  exact h
theorem own_u64s {w : World} {B : Nat} {v : Value} {ws : List Nat} (h : w.ownsRow B 28 1 v ws.length (ws.map uv)) : ∃ ao c, v = .slice ao ws.length c ∧ U64s w (.slice ao ws.length c) ws ∧ ∀ ad, ao = some ad → B ≤ ad.block := by
  rcases h.2 with ⟨rfl, h0⟩ | ⟨g, cap, cur, rfl, hbb, hh, h1, h2, h3, h4⟩
  · exact ⟨none, 0, by rw [h0], ⟨none, 0, by rw [h0], (fun _ => h0), fun ad e => by cases e⟩, fun ad e => by cases e⟩
  · refine ⟨_, cap, rfl, ⟨_, _, rfl, (fun e => by cases e), fun ad' e j u hu => ?_⟩, fun ad' e => by cases e; exact hbb⟩
    cases e
    have hj : j < ws.length := by have := (List.getElem?_eq_some_iff.1 hu).1; simpa using this
    rw [Addr.add_mid, cell_of_row w g (0 + j) _ _ _ hh, Nat.zero_add, ← Array.getElem?_toList]
    have h5 : (cur.toList.take (ws.length * 1))[j]? = (ws.map uv)[j]? := by rw [h4]
    rw [List.getElem?_take, if_pos (by omega)] at h5
    rw [h5]
    exact hu
theorem slot_skip {P : Program} {Q : Exit → Act → World → Prop} {o : Oper} {a : Act} {w w' : World} {K : Act → World → Prop} (hr : (execOp a.eval o).run P w = .ok .skip w') (h : K (a.put o.dst undef) w') : o.wp P a w K Q := by
  unfold Oper.wp
  rw [hr]
  exact h
theorem str_inj {a b : List UInt8} (h : str a = str b) : a = b := by
  have h1 := congrArg (fun s => s.data.toList) h
  simpa [str] using h1
theorem readM_eta (l : List UInt8) : readM l = ⟨wordN l 0 8, (readM l).W⟩ := by
  generalize h : readM l = m
  obtain ⟨a, b⟩ := m
  have h1 : (readM l).seq = wordN l 0 8 := by unfold readM; rfl
  rw [h] at h1
  rw [← h1]
theorem str_tl' (l : List UInt8) : (str l).toList = l := by
  rw [ByteArray.toList_eq]
  simp [str]
/-- What Read answers. -/
def ReAns (l : List UInt8) (B : Nat) (w : World) (v : Value) : Prop :=
  (layM (readM l) = l ∧ ∃ ao c, v = .agg #[.int .u64 ((wordN l 0 8 : Nat) : Int), .slice ao 6 c] ∧ U64s w (.slice ao 6 c) (readM l).W ∧ ∀ ad, ao = some ad → B ≤ ad.block) ∨ (layM (readM l) ≠ l ∧ v = .agg #[.int .u64 0, .slice none 0 0])
def ReRel (l : List UInt8) (B k3 : Nat) (w : World) (u : Value) (wr : World) : Prop :=
  ∃ (i : Nat) (v : Value), u = .int .i64 (i : Int) ∧ i ≤ 6 ∧ wr.heap[k3]? = some (.cells #[.int .u64 ((wordN l 0 8 : Nat) : Int), v] 31 (0, 0)) ∧ wr.ownsRow (k3 + 1) 28 1 v i (((readM l).W.take i).map uv) ∧ Below B w wr
set_option maxRecDepth 100000 in
set_option maxHeartbeats 3200000 in
theorem read6_any {l : List UInt8} (hl : l.length = 128) (w : World) :
    Calls Try.prog 46 #[.string (str l)] w fun e w' => ∃ v, e = .returned v ∧ ReAns l w.heap.size w' v ∧ Below w.heap.size w w' := by
  have hsz := wstr_size l
  rw [hl] at hsz
  have e8 := str_extract' l 0 8
  rw [List.drop_zero, Nat.zero_add] at e8
  have LO := Lib.hid (fun W => low8_any (l.take 8) (by rw [List.length_take]; omega) W)
  have HS := Lib.hid hl
  go_enter Try.func46, Try.ntmps46
  go_wp2_with fail
  refine (LO.out _).mono ?_
  rintro e w' ⟨rfl, rfl⟩
  go_wp2_with fail
  obtain ⟨k3, hk3⟩ : ∃ k, k = w.heap.size + 1 := ⟨_, rfl⟩
  obtain ⟨w3, hw3⟩ : ∃ w3, w3 = ((w.alloc (.cells #[.int .u64 0, .slice none 0 0] 31)).alloc (.cells #[.int .u64 ((wordN (l.take 8) 0 8 : Nat) : Int), .slice none 0 0] 31)) := ⟨_, rfl⟩
  have hs1 : (w.alloc (.cells #[.int .u64 0, .slice none 0 0] 31)).heap.size = w.heap.size + 1 := Array.size_push _
  have r3 : w3.heap[k3]? = some (.cells #[.int .u64 ((wordN (l.take 8) 0 8 : Nat) : Int), .slice none 0 0] 31 (0, 0)) := by rw [hw3, hk3, ← hs1]; exact heap_alloc_new _ _
  have r2 : w3.heap[w.heap.size]? = some (.cells #[.int .u64 0, .slice none 0 0] 31 (0, 0)) := by rw [hw3]; exact (Below.heap_alloc _ _ w.heap.size (by rw [hs1]; omega)).trans (heap_alloc_new _ _)
  have b3 : Below w.heap.size w w3 := by rw [hw3]; exact ((Below.refl _ _).alloc (Nat.le_refl _) _).alloc (by rw [hs1]; omega) _
  have ew : wordN (l.take 8) 0 8 = wordN l 0 8 := by have := word_part l 0 8 (by omega); rwa [List.drop_zero] at this
  rw [← hk3, ← hw3]
  rw [ew] at r3 ⊢
  have HB3 := Lib.hid b3
  have HR3 := Lib.hid r3
  have HR2 := Lib.hid r2
  have HK3 := Lib.hid hk3
  have HX0 := Lib.hid (show ReRel l (w.heap.size + 1) k3 w3 (.int .i64 0) w3 from ⟨0, .slice none 0 0, rfl, Nat.zero_le _, r3, World.ownsRow_nil _ _ _ _, Below.refl _ _⟩)
  clear b3 r3 r2 hw3 hk3 hs1 ew e8
  go_loopw [4] (fun u wr => ReRel l (w.heap.size + 1) k3 w3 u wr) (fun u _ => 6 - (intOf u).toNat)
  case atStart => exact HX0.out
  case round =>
    obtain ⟨wo, rfl⟩ : ∃ wo : World, wo = wr := ⟨_, rfl⟩
    obtain ⟨i, v, rfl, hi, hrow, hown, hBr⟩ := hrel
    clear HX0
    by_cases hil : i < 6
    · have ii6 : (i : Int) < 6 := by omega
      have c1 : wo.cell? ⟨k3, 1, none⟩ = some v := by rw [cell_of_row wo k3 1 _ _ _ hrow]; rfl
      have hex := str_extract' l (8 * (1 + i)) 8
      rw [show 8 * (1 + i) + 8 = 16 + 8 * i by omega, show 8 * (1 + i) = 8 + 8 * i by omega] at hex
      have HLN := Lib.hid (show ((l.drop (8 + 8 * i)).take 8).length = 8 by rw [List.length_take, List.length_drop]; have := HS.out; omega)
      have HEX := Lib.hid hex
      have HROW := Lib.hid hrow
      have HOWN := Lib.hid hown
      have HBR := Lib.hid hBr
      clear hrow hown hBr
      go_wp2_with fail
      have hwp : wordN ((l.drop (8 + 8 * i)).take 8) 0 8 = (readM l).W.getD i 0 := by
        exact hword hil (by have := HS.out; omega)
      obtain ⟨n, hn⟩ : ∃ n, n = (readM l).W.getD i 0 := ⟨_, rfl⟩
      rw [← hn] at hwp
      have HWP := Lib.hid hwp
      have HNN := Lib.hid hn
      obtain ⟨i0, hi0, hz0, hz1, hz2⟩ := info_parts Try.infoW64
      have HI0 := Lib.hid hi0
      have HZ0 := Lib.hid hz0
      have HZ1 := Lib.hid hz1
      have HZ2 := Lib.hid hz2
      have HZ3 := Lib.hid (show w.heap.size + 1 ≤ w3.heap.size from by have := lt_of_row HR3.out; have := HK3.out; omega)
      obtain ⟨xs, hxs⟩ : ∃ xs, xs = ((readM l).W.take i).map uv := ⟨_, rfl⟩
      have HXS := Lib.hid hxs
      have hown2 := HOWN.out
      rw [← hxs] at hown2
      have HOW2 := Lib.hid hown2
      obtain ⟨W0, hW0⟩ : ∃ W0, W0 = wordN l 0 8 := ⟨_, rfl⟩
      have HW0 := Lib.hid hW0
      have hrow2 := HROW.out
      rw [← hW0] at hrow2
      have HRO2 := Lib.hid hrow2
      clear hwp hn hi0 hz0 hz1 hz2 hxs hown2 hrow2 hex c1
      rw [← hW0]
      clear hW0
      refine wp_region_slotsJ (by kernel_rfl) (by kernel_rfl)
        (fun y => ⟨#[Value.string (str l), undef, Value.pointer (some { block := w.heap.size, off := 0 }),
          Value.pointer (some { block := k3, off := 0 }), Value.int IntKind.i64 ↑i, Value.string (str l),
          Value.string (str (List.take 8 l)), Value.int IntKind.u64 ↑W0,
          Value.agg #[Value.int IntKind.u64 ↑W0, Value.slice none 0 0], Value.int IntKind.i64 ↑i,
          Value.bool true, u11, u12, y 0, y 1, y 2, y 3, y 4, y 5, y 6, y 7, y 8, y 9, y 10, y 11, y 12, y 13, undef, undef,
          undef, undef, undef, undef], []⟩)
        (reJ l W0 k3 i n (w.heap.size + 1) w3 wo xs v) ?_ ?_ (fun j => #[u13, u14, u15, u16, u17, u18, u19, u20, u21, u22, u23, u24, u25, u26].getD j undef) rfl ⟨(fun j h => by cases h), ⟨HBR.out.drew, Nat.le_refl _, fun _ => HRO2.out, (fun e => by cases e), fun _ => HOW2.out.drew, (fun e => by cases e), (fun e => by cases e), (fun e => by cases e), fun e => by cases e⟩, fun e => by cases e⟩
      · intro i' o ho L y wx hd hi' hJ
        match i', ho with
        | 0, ho =>
          obtain rfl := Option.some.inj ho
          exact .inl ⟨rfl, slot_run (v := .pointer (some ⟨k3, 1, none⟩)) (w' := wx) rfl ⟨_, rfl, hJ.step (by decide) rfl⟩⟩
        | 1, ho =>
          obtain rfl := Option.some.inj ho
          have ya : y 0 = .pointer (some ⟨k3, 1, none⟩) := hJ.1 0 (hd ⟨0, .data⟩ (by simp) rfl)
          have h14 : L 14 = false := by
            cases hb : L 14 with
            | false => rfl
            | true =>
              have h2 := hJ.2.2 (hJ.2.1.imp2 hb)
              rw [hi'] at h2
              cases h2
          have c1 : wx.cell? ⟨k3, 1, none⟩ = some v := by rw [cell_of_row wx k3 1 _ _ _ (hJ.2.1.row0 h14)]; rfl
          refine .inl ⟨rfl, slot_run (v := v) (w' := wx) ?_ ⟨_, rfl, hJ.step (by decide) rfl⟩⟩
          refine runWith (fun z => match z with | .tmp 13 => y 0 | _ => undef) (by kernel_rfl) ?_
          rw [ya]
          go_simp
        | 2, ho =>
          obtain rfl := Option.some.inj ho
          exact .inl ⟨rfl, slot_run (v := .string (str l)) (w' := wx) rfl ⟨_, rfl, hJ.step (by decide) rfl⟩⟩
        | 3, ho =>
          obtain rfl := Option.some.inj ho
          exact .inl ⟨rfl, slot_run (v := .int .i64 (i : Int)) (w' := wx) rfl ⟨_, rfl, hJ.step (by decide) rfl⟩⟩
        | 4, ho =>
          obtain rfl := Option.some.inj ho
          have ya : y 3 = .int .i64 (i : Int) := hJ.1 3 (hd ⟨3, .data⟩ (by simp) rfl)
          refine .inl ⟨rfl, slot_run (v := .int .i64 (8 * (i : Int))) (w' := wx) ?_ ⟨_, rfl, hJ.step (by decide) rfl⟩⟩
          refine runWith (fun z => match z with | .tmp 16 => y 3 | .const c => c | _ => undef) (by kernel_rfl) ?_
          rw [ya]
          go_simp
          rw [IntKind.wrap_i64]; omega
        | 5, ho =>
          obtain rfl := Option.some.inj ho
          have ya : y 4 = .int .i64 (8 * (i : Int)) := hJ.1 4 (hd ⟨4, .data⟩ (by simp) rfl)
          refine .inl ⟨rfl, slot_run (v := .int .i64 (8 + 8 * (i : Int))) (w' := wx) ?_ ⟨_, rfl, hJ.step (by decide) rfl⟩⟩
          refine runWith (fun z => match z with | .tmp 17 => y 4 | .const c => c | _ => undef) (by kernel_rfl) ?_
          rw [ya]
          go_simp
          rw [IntKind.wrap_i64]; omega
        | 6, ho =>
          obtain rfl := Option.some.inj ho
          exact .inl ⟨rfl, slot_run (v := .int .i64 (i : Int)) (w' := wx) rfl ⟨_, rfl, hJ.step (by decide) rfl⟩⟩
        | 7, ho =>
          obtain rfl := Option.some.inj ho
          have ya : y 6 = .int .i64 (i : Int) := hJ.1 6 (hd ⟨6, .data⟩ (by simp) rfl)
          refine .inl ⟨rfl, slot_run (v := .int .i64 (8 * (i : Int))) (w' := wx) ?_ ⟨_, rfl, hJ.step (by decide) rfl⟩⟩
          refine runWith (fun z => match z with | .tmp 19 => y 6 | .const c => c | _ => undef) (by kernel_rfl) ?_
          rw [ya]
          go_simp
          rw [IntKind.wrap_i64]; omega
        | 8, ho =>
          obtain rfl := Option.some.inj ho
          have ya : y 7 = .int .i64 (8 * (i : Int)) := hJ.1 7 (hd ⟨7, .data⟩ (by simp) rfl)
          refine .inl ⟨rfl, slot_run (v := .int .i64 (16 + 8 * (i : Int))) (w' := wx) ?_ ⟨_, rfl, hJ.step (by decide) rfl⟩⟩
          refine runWith (fun z => match z with | .tmp 20 => y 7 | .const c => c | _ => undef) (by kernel_rfl) ?_
          rw [ya]
          go_simp
          rw [IntKind.wrap_i64]; omega
        | 9, ho =>
          obtain rfl := Option.some.inj ho
          have y2 : y 2 = .string (str l) := hJ.1 2 (hd ⟨2, .data⟩ (by simp) rfl)
          have y5 : y 5 = .int .i64 (8 + 8 * (i : Int)) := hJ.1 5 (hd ⟨5, .data⟩ (by simp) rfl)
          have y8 : y 8 = .int .i64 (16 + 8 * (i : Int)) := hJ.1 8 (hd ⟨8, .data⟩ (by simp) rfl)
          have hex := HEX.out
          refine .inl ⟨rfl, slot_run (v := .string (str ((l.drop (8 + 8 * i)).take 8))) (w' := wx) ?_ ⟨_, rfl, hJ.step (by decide) rfl⟩⟩
          refine runWith (fun z => match z with | .tmp 15 => y 2 | .tmp 18 => y 5 | .tmp 21 => y 8 | _ => undef) (by kernel_rfl) ?_
          rw [y2, y5, y8]
          go_simp
          rw [if_pos ⟨by omega, by omega⟩, if_pos (by omega), show (8 + 8 * (i : Int)).toNat = 8 + 8 * i by omega, show (16 + 8 * (i : Int)).toNat = 16 + 8 * i by omega, hex]
        | 10, ho =>
          obtain rfl := Option.some.inj ho
          have ya : y 9 = .string (str ((l.drop (8 + 8 * i)).take 8)) := hJ.1 9 (hd ⟨9, .data⟩ (by simp) rfl)
          refine .inl ⟨rfl, ?_⟩
          refine slot_call #[.string (str ((l.drop (8 + 8 * i)).take 8))] rfl Try.func69 (by kernel_rfl) (by kernel_rfl) (by simp [Act.eval, ya]) ?_
          refine (low8_any _ HLN.out wx).mono ?_
          rintro e w' ⟨rfl, rfl⟩
          rw [HWP.out]
          exact ⟨_, rfl, _, rfl, hJ.step (by decide) rfl⟩
        | 11, ho =>
          obtain rfl := Option.some.inj ho
          have ya : y 10 = .int .u64 (n : Int) := hJ.1 10 (hd ⟨10, .data⟩ (by simp) rfl)
          refine .inl ⟨rfl, slot_run (v := .slice (some ⟨wx.heap.size, 0, none⟩) 1 1) (w' := wx.alloc (.cells #[uv n] 28)) ?_ ⟨_, rfl, updJ hJ.1 trivial, ?_, fun h12 => by rw [upd_ne _ _ (by decide)] at h12 ⊢; exact hJ.2.2 h12⟩⟩
          · refine runWith (fun z => match z with | .tmp 23 => y 10 | _ => undef) (by kernel_rfl) ?_
            rw [ya]
            go_simp
            rfl
          · have h := hJ.2.1
            rw [hi'] at h
            have h2 := h.built (by have := HK3.out; have := HZ3.out; omega)
            rw [upd_self, upd_self, upd_ne _ _ (by decide), upd_ne _ _ (by decide), upd_ne _ _ (by decide)]
            exact h2
        | 12, ho =>
          obtain rfl := Option.some.inj ho
          have y1 : y 1 = v := hJ.1 1 (hd ⟨1, .data⟩ (by simp) rfl)
          have h11 : L 11 = true := hd ⟨11, .data⟩ (by simp) rfl
          have h := hJ.2.1
          rw [h11, hi'] at h
          obtain ⟨kb, yb, rb⟩ := h.src rfl rfl
          have src4 : Src Try.prog 1 29 (.slice (some ⟨kb, 0, none⟩) 1 1) 1 [uv n] wx := u64s_src (ws := [n]) (ao := some ⟨kb, 0, none⟩) (c := 1) ⟨_, _, rfl, (fun e => by cases e), fun ad e j u hu => by cases e; exact cells_row rb j u hu⟩
          obtain ⟨v', w', hr, hg⟩ := run_append_own_src (P := Try.prog) wx (k3 + 1) 29 29 29 28 i0 (.int .u64 0) 1 8 Try.underlying29 HI0.out HZ0.out HZ1.out HZ2.out rfl v i _ (h.own0 rfl) _ 1 [uv n] src4 (by unfold maxLen; omega) (by omega) (by have := h.size; have := lt_of_row HROW.out; omega)
          refine .inl ⟨rfl, slot_append (s := .tmp 14) (x := .tmp 24) (t := 29) (tx := 29) rfl (show _ = v by exact y1) (show _ = Value.slice (some ⟨kb, 0, none⟩) 1 1 by exact yb) hr ⟨_, rfl, updJ hJ.1 trivial, ?_, fun _ => by rw [upd_ne _ _ (by decide)]; exact hd ⟨1, .data⟩ (by simp) rfl⟩⟩
          · have h2 := h.grown (by have := HK3.out; omega) hg
            rw [upd_self, upd_self, upd_ne _ _ (by decide), upd_ne _ _ (by decide), upd_ne _ _ (by decide), h11]
            exact h2
        | 13, ho =>
          obtain rfl := Option.some.inj ho
          exact .inl ⟨rfl, slot_run (v := .pointer (some ⟨k3, 1, none⟩)) (w' := wx) rfl ⟨_, rfl, hJ.step (by decide) rfl⟩⟩
        | 14, ho =>
          obtain rfl := Option.some.inj ho
          have y13 : y 13 = .pointer (some ⟨k3, 1, none⟩) := hJ.1 13 (hd ⟨13, .data⟩ (by simp) rfl)
          have h12 : L 12 = true := hd ⟨12, .data⟩ (by simp) rfl
          have h := hJ.2.1
          have h11 := h.imp1 h12
          rw [h11, h12, hi'] at h
          have hr := h.row0 rfl
          have c1 : wx.cell? ⟨k3, 1, none⟩ = some v := by rw [cell_of_row wx k3 1 _ _ _ hr]; rfl
          have f1 : wx.frozen? ⟨k3, 1, none⟩ = false := frozen_of_row wx k3 1 _ _ hr
          refine .inl ⟨rfl, slot_skip (w' := wx.setCell ⟨k3, 1, none⟩ (y 12)) ?_ ⟨undef, rfl, updJ hJ.1 trivial, ?_, fun h12' => by rw [upd_ne _ _ (by decide)] at h12' ⊢; exact hJ.2.2 h12'⟩⟩
          · refine runWith (fun z => match z with | .tmp 26 => y 13 | .tmp 25 => y 12 | _ => undef) (by kernel_rfl) ?_
            have hy12 : ∃ ao c, y 12 = .slice ao (i + 1) c := by
              rcases (h.own1 rfl).2 with ⟨e, e2⟩ | ⟨g, cap, cur, e, _⟩
              · omega
              · exact ⟨_, _, e⟩
            obtain ⟨ao, c, hy⟩ := hy12
            rw [y13, hy]
            go_simp
          · have h2 := h.stored (by have := HK3.out; omega)
            rw [upd_self, upd_ne _ _ (by decide), upd_ne _ _ (by decide), upd_ne _ _ (by decide), upd_ne _ _ (by decide), h11, h12]
            exact h2
        | k + 15, ho => simp at ho
      · intro L y wx hall hJ
        have hw := hJ.2.1
        rw [hall 11 (by decide), hall 12 (by decide), hall 14 (by decide)] at hw
        have hxs1 : xs ++ [uv n] = ((readM l).W.take (i + 1)).map uv := by
          have hlt : i < (readM l).W.length := by rw [(readM_ok l).len]; exact hil
          have hn' : n = (readM l).W[i] := by rw [HNN.out, List.getD_eq_getElem?_getD, List.getElem?_eq_getElem hlt]; rfl
          rw [HXS.out, List.take_add_one, List.getElem?_eq_getElem hlt, List.map_append, ← hn']
          rfl
        have how := hw.own1 rfl
        rw [hxs1] at how
        have hro := hw.row1 rfl
        rw [HW0.out] at hro
        have RL := Lib.hid (show ReRel l (w.heap.size + 1) k3 w3 (.int .i64 ((i + 1 : Nat) : Int)) wx from ⟨i + 1, y 12, rfl, by omega, hro, how, hw.bel⟩)
        clear hall hJ hw how hro hxs1
        generalize y 0 = v0
        generalize y 1 = v1
        generalize y 2 = v2
        generalize y 3 = v3
        generalize y 4 = v4
        generalize y 5 = v5
        generalize y 6 = v6
        generalize y 7 = v7
        generalize y 8 = v8
        generalize y 9 = v9
        generalize y 10 = v10
        generalize y 11 = v11
        generalize y 12 = v12
        generalize y 13 = v13
        go_wp2_with fail
        rw [HW0.out]
        go_roundw
        case rel => exact RL.out
        case measure => simp [intOf]; omega
    · obtain rfl : i = 6 := by omega
      rw [show ((6 : Nat) : Int) = 6 from rfl]
      have hW6 := (readM_ok l).len
      have htk : (readM l).W.take 6 = (readM l).W := List.take_of_length_le (by omega)
      rw [htk] at hown
      obtain ⟨ao, c, rfl, hU, hblk⟩ : ∃ ao c, v = .slice ao 6 c ∧ U64s wo (.slice ao 6 c) (readM l).W ∧ ∀ ad, ao = some ad → k3 + 1 ≤ ad.block := by
        rw [show (6 : Nat) = (readM l).W.length from hW6.symm] at hown ⊢
        exact own_u64s hown
      obtain ⟨W0, hW0⟩ : ∃ W0, W0 = wordN l 0 8 := ⟨_, rfl⟩
      rw [← hW0] at hrow ⊢
      have hw64 : W0 < 18446744073709551616 := by rw [hW0]; exact word8_lt l 0
      have hpad : padM W0 (readM l).W = readM l := by
        unfold padM
        rw [hW6, Nat.sub_self, List.replicate_zero, List.append_nil, hW0]
        exact (readM_eta l).symm
      have TX := Lib.hid (show Calls Try.prog 15 #[.agg #[.int .u64 (W0 : Int), .slice ao 6 c]] wo (fun e w' => e = .returned (.string (str (layM (readM l)))) ∧ Below wo.heap.size wo w') by
        have h := text6_any (w := wo) (ao := ao) (c := c) (ws := (readM l).W) W0 (by rw [hW6]; exact hU) (readM_ok l).W (by omega) hw64
        rw [hpad, hW6] at h
        exact h)
      have HBK := Lib.hid hblk
      have HL6 := Lib.hid hW6
      have HW0 := Lib.hid hW0
      have c0 : wo.cell? ⟨k3, 0, none⟩ = some (.int .u64 (W0 : Int)) := by rw [cell_of_row wo k3 0 _ _ _ hrow]; rfl
      have c1 : wo.cell? ⟨k3, 1, none⟩ = some (.slice ao 6 c) := by rw [cell_of_row wo k3 1 _ _ _ hrow]; rfl
      have r2 := (hBr.block w.heap.size (by omega)).trans HR2.out
      have HROW := Lib.hid hrow
      have HU := Lib.hid hU
      have HR2w := Lib.hid r2
      have HBR := Lib.hid (show Below w.heap.size w wo from HB3.out.trans (hBr.mono (by omega)))
      clear hrow hown hBr r2 hU hblk htk hpad hW6 hW0 hw64
      go_wp2_with fail
      refine TX.out.mono ?_
      rintro e w5 ⟨rfl, hb5⟩
      have hr5 := (hb5.block k3 (lt_of_row HROW.out)).trans HROW.out
      have d0 : w5.cell? ⟨k3, 0, none⟩ = some (.int .u64 (W0 : Int)) := by rw [cell_of_row w5 k3 0 _ _ _ hr5]; rfl
      have d1 : w5.cell? ⟨k3, 1, none⟩ = some (.slice ao 6 c) := by rw [cell_of_row w5 k3 1 _ _ _ hr5]; rfl
      have HR25 := Lib.hid ((hb5.block w.heap.size (lt_of_row HR2w.out)).trans HR2w.out)
      have HB5 := Lib.hid (HBR.out.trans (hb5.mono HBR.out.size))
      have HU5 := Lib.hid (HU.out.below hb5 (Nat.le_refl _))
      clear hb5 hr5 TX c0 c1
      have HSZm := Lib.hid (show (Try.prog.info? 31).map (·.size) = some (#[.int .u64 (W0 : Int), .slice ao 6 c] : Array Value).size by kernel_rfl)
      have HSZ0 := Lib.hid (show (Try.prog.info? 31).map (·.size) = some (#[.int .u64 0, .slice none 0 0] : Array Value).size by kernel_rfl)
      by_cases he : layM (readM l) = l
      · rw [he]
        have HE := Lib.hid he
        clear he
        go_wp2_with ((with_reducible show wpList _ _ _ _ _ _); refine wpList_store_whole rfl 31 (.tmp 2) (.tmp 32) rfl w.heap.size 31 #[.int .u64 0, .slice none 0 0] #[.int .u64 (W0 : Int), .slice ao 6 c] rfl (by with_unfolding_all rfl) HR25.out HSZm.out rfl (by kernel_rfl) ?_)
        refine bodyPost_ret (results_cell_row rfl _ _ w.heap.size 31 _ (0, 0) _ rfl (setRow_heap w5 _ _ _ _ (0, 0) HR25.out) Try.underlying31 rfl HSZm.out) rfl ⟨_, rfl, .inl ⟨HE.out, ao, c, ?_, ?_, fun ad e => by have := HBK.out ad e; have := HK3.out; omega⟩, ?_⟩
        · rw [HW0.out]
        · have h5 := HU5.out
          rw [← HL6.out] at h5 ⊢
          exact h5.setRow (fun _ ad e => by have := HBK.out ad e; have := HK3.out; omega) _
        · exact below_setRow HB5.out (Nat.le_refl _) _
      · have hne : ¬ str (layM (readM l)) = str l := fun h => he (str_inj h)
        have hnb : ((str (layM (readM l))).toList == (str l).toList) = false := beq_eq_false_iff_ne.2 (fun h => he (by rw [str_tl', str_tl'] at h; exact h))
        have HE := Lib.hid he
        clear he
        obtain ⟨S1, hS1⟩ : ∃ S1, S1 = str (layM (readM l)) := ⟨_, rfl⟩
        rw [← hS1] at hne hnb ⊢
        clear hS1
        go_wp2_with ((with_reducible show wpList _ _ _ _ _ _); refine wpList_store_whole rfl 31 (.tmp 2) (.tmp 31) rfl w.heap.size 31 #[.int .u64 0, .slice none 0 0] #[.int .u64 0, .slice none 0 0] rfl (by with_unfolding_all rfl) HR25.out HSZ0.out rfl (by kernel_rfl) ?_)
        refine bodyPost_ret (results_cell_row rfl _ _ w.heap.size 31 _ (0, 0) _ rfl (setRow_heap w5 _ _ _ _ (0, 0) HR25.out) Try.underlying31 rfl HSZ0.out) rfl ⟨_, rfl, .inr ⟨HE.out, rfl⟩, ?_⟩
        exact below_setRow HB5.out (Nat.le_refl _) _
end Go.Proofs.Ytgbmkolpdnenlaa.Dk
