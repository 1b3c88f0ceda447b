/- The walk of CommandEvents. -/
import Derived.Test.YtnfobnnbeefeeaaGreatDoorFO
import Derived.Test.YtnfobnnbeefeeaaGreatDoorFW
import Derived.Test.YtnfobnnbeefeeaaGreatDoorIO
import Derived.Test.YtnfobnnbeefeeaaGreatDoorGM
namespace Go.Proofs.YtnfobnnbeefeeaaGreatDoor.Wi
open Go Go.RowKit
set_option linter.unusedVariables false
set_option linter.unusedSimpArgs false
def VA (x : Cm) (y : VT) : Ev := { x.ev 0 with val := y }
theorem GoodO.rebase {B B' : Nat} {W : World} {v y : VT} (h : GoodO B W v y) (hb : B' ≤ B) : GoodO B' W v y := ⟨h.1, h.2.1, h.2.2.1.imp fun q hq => Nat.le_trans hb hq, h.2.2.2.base hb⟩
structure PreE (w : World) (a b : Cm) (L : Nat → Bool) (x : Nat → Value) (W : World) : Prop where
  be : Below w.heap.size w W
  x0 : L 0 = true → x 0 = .agg a.cells.toArray
  x2 : L 2 = true → x 2 = .agg b.cells.toArray
  c32 : L 3 = true → L 2 = true
  ex : ∃ (y z : VT) (g7 g8 : Nat), (L 1 = true → x 1 = .agg (VA a y).cells.toArray ∧ GoodO w.heap.size W a.val y) ∧ (L 3 = true → x 3 = .agg (VA b z).cells.toArray ∧ GoodO w.heap.size W b.val z) ∧
    (L 4 = true → x 4 = .pointer (some ⟨g7, 0, none⟩) ∧ w.heap.size ≤ g7 ∧ W.heap[g7]? = some (.cells z11.toArray 28 (0, 0))) ∧ (L 5 = true → x 5 = .pointer (some ⟨g8, 0, none⟩) ∧ w.heap.size ≤ g8 ∧ W.heap[g8]? = some (.cells z11.toArray 28 (0, 0))) ∧
    (L 4 = true → L 5 = true → g7 ≠ g8) ∧ (L 1 = true → L 4 = true → y.In (fun q => q ≠ g7)) ∧ (L 1 = true → L 5 = true → y.In (fun q => q ≠ g8)) ∧ (L 3 = true → L 4 = true → z.In (fun q => q ≠ g7)) ∧ (L 3 = true → L 5 = true → z.In (fun q => q ≠ g8))
theorem PreE.load0 {w : World} {a b : Cm} {L : Nat → Bool} {x : Nat → Value} {W : World} (h : PreE w a b L x W) : PreE w a b (upd L 0 true) (upd x 0 (.agg a.cells.toArray)) W := ⟨h.be, fun _ => rfl, h.x2, h.c32, h.ex⟩
theorem PreE.load2 {w : World} {a b : Cm} {L : Nat → Bool} {x : Nat → Value} {W : World} (h : PreE w a b L x W) : PreE w a b (upd L 2 true) (upd x 2 (.agg b.cells.toArray)) W := ⟨h.be, h.x0, fun _ => rfl, fun _ => rfl, h.ex⟩
theorem PreE.call1 {w : World} {a b : Cm} {L : Nat → Bool} {x : Nat → Value} {W W' : World} (h : PreE w a b L x W) {y : VT} (hg : GoodO W.heap.size W' a.val y) (hb : Below W.heap.size W W') : PreE w a b (upd L 1 true) (upd x 1 (.agg (VA a y).cells.toArray)) W' := by
  obtain ⟨y0, z, g7, g8, h1, h3, h4, h5, h45, i14, i15, i34, i35⟩ := h.ex
  refine ⟨h.be.trans (hb.mono h.be.size), h.x0, h.x2, h.c32, y, z, g7, g8, fun _ => ⟨rfl, hg.rebase h.be.size⟩, fun q => ⟨(h3 q).1, (h3 q).2.below hb⟩, fun q => ⟨(h4 q).1, (h4 q).2.1, (hb.block g7 (lt_of_rowK (h4 q).2.2)).trans (h4 q).2.2⟩, fun q => ⟨(h5 q).1, (h5 q).2.1, (hb.block g8 (lt_of_rowK (h5 q).2.2)).trans (h5 q).2.2⟩, h45, fun _ q => hg.2.2.1.imp fun k hk => ?_, fun _ q => hg.2.2.1.imp fun k hk => ?_, i34, i35⟩
  · have := lt_of_rowK (h4 q).2.2; omega
  · have := lt_of_rowK (h5 q).2.2; omega
theorem PreE.call3 {w : World} {a b : Cm} {L : Nat → Bool} {x : Nat → Value} {W W' : World} (h : PreE w a b L x W) (hl2 : L 2 = true) {z : VT} (hg : GoodO W.heap.size W' b.val z) (hb : Below W.heap.size W W') : PreE w a b (upd L 3 true) (upd x 3 (.agg (VA b z).cells.toArray)) W' := by
  obtain ⟨y, z0, g7, g8, h1, h3, h4, h5, h45, i14, i15, i34, i35⟩ := h.ex
  refine ⟨h.be.trans (hb.mono h.be.size), h.x0, h.x2, fun _ => hl2, y, z, g7, g8, fun q => ⟨(h1 q).1, (h1 q).2.below hb⟩, fun _ => ⟨rfl, hg.rebase h.be.size⟩, fun q => ⟨(h4 q).1, (h4 q).2.1, (hb.block g7 (lt_of_rowK (h4 q).2.2)).trans (h4 q).2.2⟩, fun q => ⟨(h5 q).1, (h5 q).2.1, (hb.block g8 (lt_of_rowK (h5 q).2.2)).trans (h5 q).2.2⟩, h45, i14, i15, fun _ q => hg.2.2.1.imp fun k hk => ?_, fun _ q => hg.2.2.1.imp fun k hk => ?_⟩
  · have := lt_of_rowK (h4 q).2.2; omega
  · have := lt_of_rowK (h5 q).2.2; omega
theorem PreE.alloc4 {w : World} {a b : Cm} {L : Nat → Bool} {x : Nat → Value} {W : World} (h : PreE w a b L x W) : PreE w a b (upd L 4 true) (upd x 4 (.pointer (some ⟨W.heap.size, 0, none⟩))) (W.alloc (.cells z11.toArray 28)) := by
  obtain ⟨y, z, g7, g8, h1, h3, h4, h5, h45, i14, i15, i34, i35⟩ := h.ex
  have hb : Below W.heap.size W (W.alloc (.cells z11.toArray 28)) := (Below.refl _ _).alloc (Nat.le_refl _) _
  refine ⟨h.be.trans (hb.mono h.be.size), h.x0, h.x2, h.c32, y, z, W.heap.size, g8, fun q => ⟨(h1 q).1, (h1 q).2.below hb⟩, fun q => ⟨(h3 q).1, (h3 q).2.below hb⟩, fun _ => ⟨rfl, h.be.size, heap_alloc_new _ _⟩, fun q => ⟨(h5 q).1, (h5 q).2.1, (hb.block g8 (lt_of_rowK (h5 q).2.2)).trans (h5 q).2.2⟩, fun _ q => ?_, fun q _ => (h1 q).2.2.1.inN.imp fun k hk => Nat.ne_of_lt hk, i15, fun q _ => (h3 q).2.2.1.inN.imp fun k hk => Nat.ne_of_lt hk, i35⟩
  have := lt_of_rowK (h5 q).2.2; omega
theorem PreE.alloc5 {w : World} {a b : Cm} {L : Nat → Bool} {x : Nat → Value} {W : World} (h : PreE w a b L x W) : PreE w a b (upd L 5 true) (upd x 5 (.pointer (some ⟨W.heap.size, 0, none⟩))) (W.alloc (.cells z11.toArray 28)) := by
  obtain ⟨y, z, g7, g8, h1, h3, h4, h5, h45, i14, i15, i34, i35⟩ := h.ex
  have hb : Below W.heap.size W (W.alloc (.cells z11.toArray 28)) := (Below.refl _ _).alloc (Nat.le_refl _) _
  refine ⟨h.be.trans (hb.mono h.be.size), h.x0, h.x2, h.c32, y, z, g7, W.heap.size, fun q => ⟨(h1 q).1, (h1 q).2.below hb⟩, fun q => ⟨(h3 q).1, (h3 q).2.below hb⟩, fun q => ⟨(h4 q).1, (h4 q).2.1, (hb.block g7 (lt_of_rowK (h4 q).2.2)).trans (h4 q).2.2⟩, fun _ => ⟨rfl, h.be.size, heap_alloc_new _ _⟩, fun q _ => ?_, i14, fun q _ => (h1 q).2.2.1.inN.imp fun k hk => Nat.ne_of_lt hk, i34, fun q _ => (h3 q).2.2.1.inN.imp fun k hk => Nat.ne_of_lt hk⟩
  have := lt_of_rowK (h4 q).2.2; omega
/-- Both events are made; the second is written, or not yet. -/
structure PairE (w : World) (a b : Cm) (p7 p8 : Value) (fin : Bool) (y z : VT) (g7 g8 : Nat) (W : World) : Prop where
  be : Below w.heap.size w W
  e7 : p7 = .pointer (some ⟨g7, 0, none⟩)
  e8 : p8 = .pointer (some ⟨g8, 0, none⟩)
  b7 : w.heap.size ≤ g7
  b8 : w.heap.size ≤ g8
  r7 : EvRow W g7 (VA a y)
  r8 : W.heap[g8]? = some (.cells (if fin then (VA b z).cells.toArray else z11.toArray) 28 (0, 0))
  gy : GoodO w.heap.size W a.val y
  gz : GoodO w.heap.size W b.val z
  ne : g7 ≠ g8
  y7 : y.In (fun q => q ≠ g7)
  y8 : y.In (fun q => q ≠ g8)
  z7 : z.In (fun q => q ≠ g7)
  z8 : z.In (fun q => q ≠ g8)
def PrK (w : World) (a b : Cm) (L : Nat → Bool) (x : Nat → Value) (W : World) : Prop :=
  (L 6 = false → PreE w a b L x W) ∧ (L 6 = true → (∀ j, j < 6 → L j = true) ∧ ∃ y z g7 g8, x 3 = .agg (VA b z).cells.toArray ∧ PairE w a b (x 4) (x 5) false y z g7 g8 W)
theorem PrK.pre {w : World} {a b : Cm} {L : Nat → Bool} {x : Nat → Value} {W : World} (h : PrK w a b L x W) {i : Nat} (hi : i < 6) (hl : L i = false) : L 6 = false ∧ PreE w a b L x W := by
  cases h6 : L 6 with
  | false => exact ⟨rfl, h.1 h6⟩
  | true => rw [(h.2 h6).1 i hi] at hl; cases hl
theorem eK_flags {k : Int} (h : 1 ≤ k ∧ k ≤ 6) : eMd (eK k) = true ∧ eOut (eK k) = false ∧ eTask (eK k) = false ∧ eClo (eK k) = (decide (4 ≤ k) && decide (k ≤ 6)) := by
  obtain rfl | rfl | rfl | rfl | rfl | rfl : k = 1 ∨ k = 2 ∨ k = 3 ∨ k = 4 ∨ k = 5 ∨ k = 6 := by omega
  all_goals decide
theorem VA_nz {x : Cm} {y : VT} (h : y.nz = x.val.nz) (n : Int) : ({ VA x y with id := n } : Ev).nz = (x.ev n).nz := by
  unfold Ev.nz VA
  dsimp only
  rw [h]
  rfl
theorem VA_at {x : Cm} {y : VT} {N : Nat} {w w0 : World} {N0 : Nat} (hx : x.At N0 w0) (hv : x.vE = 0) (hy : y.At N w) {n : Int} (hn : -9223372036854775808 ≤ n ∧ n ≤ 9223372036854775807) : ({ VA x y with id := n } : Ev).At N w := by
  have F := Cm.fits hv
  refine ⟨hn, hx.time, ?_, hx.a, ?_, hx.name, by show ([] : List UInt8).length ≤ _; simp, hy⟩
  · show -9223372036854775808 ≤ eK x.kind ∧ eK x.kind ≤ 9223372036854775807
    have := eK_cases F.kn
    omega
  · show -9223372036854775808 ≤ (if x.kind = 1 then sat x.time x.b else x.b) ∧ (if x.kind = 1 then sat x.time x.b else x.b) ≤ 9223372036854775807
    by_cases hk : x.kind = 1
    · rw [if_pos hk]
      have := sat_ok F.time F.b.1
      omega
    · rw [if_neg hk]; exact hx.b
theorem VA_kin {x : Cm} {y : VT} (h : y.nz = x.val.nz) (hk : x.val.Kin) : (VA x y).val.Kin := by
  show y.Kin
  rw [← nz_kin, h, nz_kin]; exact hk
theorem fitsE_nz {c : Cm} {e e' : Ev} (hk : c.val.Kin) (h : e.nz = e'.nz) : c.fitsE e = c.fitsE e' := by
  have h1 := (Ev.ext_nz.1 h).1
  have h5 := (Ev.ext_nz.1 h).2.2.2.2.1
  unfold Cm.fitsE
  dsimp only
  rw [h1, h5]
  apply bool_iff
  have key : ∀ u : Ev, u.val.Kin → (u.same e = true ↔ u.same e' = true) := fun u hu => by rw [Ev.same_nz hu, Ev.same_nz hu, h]
  by_cases hw : (c.ev e'.id).kind = 21
  · rw [if_pos hw]; exact key _ hk
  · rw [if_neg hw]; exact key _ hk
set_option maxHeartbeats 16000000 in
set_option maxRecDepth 100000 in
theorem cevents_any (a b : Cm) (z : Int) (hz : -9223372036854775808 ≤ z ∧ z ≤ 9223372036854775807) (w : World) (ha : a.At w.heap.size w) (hb : b.At w.heap.size w) (hg : CB w.heap.size w) : Calls Tryz.prog 7 #[.agg a.cells.toArray, .agg b.cells.toArray, .int .i64 z] w fun e w' => e = .returned (.bool true) ∧ Below w.heap.size w w' := by
  obtain ⟨w0, hw0⟩ : ∃ bx, bx = w.alloc (.cells a.cells.toArray 42) := ⟨_, rfl⟩
  obtain ⟨ga, hga⟩ : ∃ bx, bx = w.heap.size := ⟨_, rfl⟩
  have bw0 : Below w.heap.size w w0 := by rw [hw0]; exact (Below.refl _ _).alloc (Nat.le_refl _) _
  have nw0 : w0.heap[ga]? = some (.cells a.cells.toArray 42 (0, 0)) := by rw [hw0, hga]; exact heap_alloc_new _ _
  have Kw0 := Lib.hid (rowC nw0)
  have Cw0 := Lib.hid (cmC nw0)
  have Hw0 := Lib.hid hw0
  have Hga := Lib.hid hga
  have Bw0 := Lib.hid bw0
  have Nw0 := Lib.hid nw0
  clear hw0 hga bw0 nw0
  obtain ⟨w1, hw1⟩ : ∃ bx, bx = w0.alloc (.cells b.cells.toArray 42) := ⟨_, rfl⟩
  obtain ⟨gb, hgb⟩ : ∃ bx, bx = w0.heap.size := ⟨_, rfl⟩
  have bw1 : Below w0.heap.size w0 w1 := by rw [hw1]; exact (Below.refl _ _).alloc (Nat.le_refl _) _
  have nw1 : w1.heap[gb]? = some (.cells b.cells.toArray 42 (0, 0)) := by rw [hw1, hgb]; exact heap_alloc_new _ _
  have Kw1 := Lib.hid (rowC nw1)
  have Cw1 := Lib.hid (cmC nw1)
  have Hw1 := Lib.hid hw1
  have Hgb := Lib.hid hgb
  have Bw1 := Lib.hid bw1
  have Nw1 := Lib.hid nw1
  clear hw1 hgb bw1 nw1
  have HGB := Lib.hid (show gb = w.heap.size + 1 by rw [Hgb.out, Hw0.out]; simp)
  have B01 := Lib.hid (Bw0.out.trans (Bw1.out.mono Bw0.out.size))
  have HA := Lib.hid ((ha.below B01.out).mono B01.out.size)
  have HB := Lib.hid ((hb.below B01.out).mono B01.out.size)
  have Nwa := Lib.hid ((Bw1.out.block ga (lt_of_rowK Nw0.out)).trans Nw0.out)
  have G := Lib.hid ((hg.on B01.out).base B01.out.size)
  have CH := Lib.hid (wants_any w1 G.out)
  clear ha hb hg
  go_enter Tryz.func7, Tryz.ntmps7
  go_upto_region 1 with fail
  rw [← Hw0.out, ← HGB.out, ← Hga.out, ← Hw1.out]
  go_wp2_with fail
  refine CH.out.mono ?_
  rintro e w2 ⟨rfl, hb2⟩
  have Ka := Lib.hid (rowCB (x := a) Nwa.out hb2)
  have Kb := Lib.hid (rowCB (x := b) Nw1.out hb2)
  have hl4 := a.cells_len
  have hl5 := b.cells_len
  have s1 : (List.foldl (fun cs (x : Value × Nat) => cs.setIfInBounds x.snd x.fst) #[Value.int IntKind.i64 0, Value.int IntKind.i64 0, Value.int IntKind.i64 0, Value.int IntKind.i64 0, Value.string { data := #[] }, Value.int IntKind.i64 0, Value.int IntKind.i64 0, Value.string { data := #[] }, Value.slice none 0 0, Value.int IntKind.i64 0, Value.int IntKind.i64 0, Value.int IntKind.i64 0, Value.int IntKind.i64 0, Value.string { data := #[] }, Value.int IntKind.i64 0, Value.int IntKind.i64 0, Value.string { data := #[] }, Value.slice none 0 0] a.cells.zipIdx).size = 18 := by rw [fsz0C]; rfl
  have CF := Lib.hid (csmall_made (w := w2) (l := [a, b]) (n := 2) rfl (fun x hx => by
    rcases List.mem_cons.1 hx with rfl | hx
    · exact (HA.out.below hb2).mono hb2.size
    · rw [List.mem_singleton.1 hx]; exact (HB.out.below hb2).mono hb2.size) (by simp))
  go_wp2_with (first | (with_reducible show wpList _ _ _ _ _ _; refine wpList_load_allW rfl 42 (.tmp 3) rfl ⟨ga,0,none⟩ rfl a.cells _ Ka.out Tryz.underlying42 rfl (Tryz.cmSize a) ?_) | (with_reducible show wpList _ _ _ _ _ _; refine wpList_load_allW rfl 42 (.tmp 4) rfl ⟨gb,0,none⟩ rfl b.cells _ Kb.out Tryz.underlying42 rfl (Tryz.cmSize b) ?_))
  clear hl4 hl5 s1
  rw [bs2C]
  refine CF.out.mono ?_
  rintro e w3 ⟨⟨q, rfl⟩, hb3⟩
  have B13 := Lib.hid (hb2.trans (hb3.mono hb2.size))
  have RL3 := Lib.hid (B01.out.trans (B13.out.mono B01.out.size))
  clear hb2 hb3
  cases q
  · go_wp2_with fail
    go_ret
    exact ⟨rfl, RL3.out⟩
  have Ka3 := Lib.hid (rowCB (x := a) Nwa.out B13.out)
  obtain ⟨E, hE⟩ : ∃ E, E = a.vE := ⟨_, rfl⟩
  have CK := rccheck_any a w1.heap.size w3 (HA.out.below B13.out) B13.out.size
  rw [← hE] at CK
  have HCK := Lib.hid CK
  have HE := Lib.hid hE
  clear CK hE
  go_wp2_with (first | (with_reducible show wpList _ _ _ _ _ _; refine wpList_loadWanted (by with_unfolding_all rfl) 42 (.tmp 3) rfl ⟨ga,0,none⟩ (by with_unfolding_all rfl) a.cells _ Ka3.out Tryz.underlying42 rfl (Tryz.cmSize a) ?_))
  refine HCK.out.mono ?_
  rintro e w4 ⟨rfl, hb4⟩
  have B14 := Lib.hid (B13.out.trans (hb4.mono B13.out.size))
  have RL4 := Lib.hid (B01.out.trans (B14.out.mono B01.out.size))
  clear hb4
  by_cases hE0 : E = 0
  case neg =>
    have hE1 : (E != 0) = true := by simpa using hE0
    go_wp2_with fail
    go_ret
    exact ⟨rfl, RL4.out⟩
  subst hE0
  have Kb4 := Lib.hid (rowCB (x := b) Nw1.out B14.out)
  obtain ⟨E, hE⟩ : ∃ E, E = b.vE := ⟨_, rfl⟩
  have CK := rccheck_any b w1.heap.size w4 (HB.out.below B14.out) B14.out.size
  rw [← hE] at CK
  have HCK2 := Lib.hid CK
  have HE2 := Lib.hid hE
  clear CK hE
  go_wp2_with (first | (with_reducible show wpList _ _ _ _ _ _; refine wpList_loadWanted (by with_unfolding_all rfl) 42 (.tmp 4) rfl ⟨gb,0,none⟩ (by with_unfolding_all rfl) b.cells _ Kb4.out Tryz.underlying42 rfl (Tryz.cmSize b) ?_))
  refine HCK2.out.mono ?_
  rintro e w5 ⟨rfl, hb5⟩
  have B15 := Lib.hid (B14.out.trans (hb5.mono B14.out.size))
  have RL5 := Lib.hid (B01.out.trans (B15.out.mono B01.out.size))
  clear hb5
  by_cases hE0 : E = 0
  case neg =>
    have hE1 : (E != 0) = true := by simpa using hE0
    go_wp2_with fail
    go_ret
    exact ⟨rfl, RL5.out⟩
  subst hE0
  by_cases hz1 : z < 1
  · go_wp2_with fail
    go_ret
    exact ⟨rfl, RL5.out⟩
  by_cases hz2 : 1048576 < z
  · go_wp2_with fail
    go_ret
    exact ⟨rfl, RL5.out⟩
  have HVA := Lib.hid (show a.vE = 0 from HE.out.symm)
  have HVB := Lib.hid (show b.vE = 0 from HE2.out.symm)
  have FA := Lib.hid (fine (Cm.fits HVA.out).val.1)
  have FB := Lib.hid (fine (Cm.fits HVB.out).val.1)
  have NA := Lib.hid (show a.Num from ⟨HA.out.a.2, HA.out.b.2, HA.out.val.num⟩)
  have NB := Lib.hid (show b.Num from ⟨HB.out.a.2, HB.out.b.2, HB.out.val.num⟩)
  have KA := Lib.hid (fun (W : World) (h : Below w5.heap.size w5 W) => rowCB (x := a) Nwa.out (B15.out.trans (h.mono B15.out.size)))
  have KB := Lib.hid (fun (W : World) (h : Below w5.heap.size w5 W) => rowCB (x := b) Nw1.out (B15.out.trans (h.mono B15.out.size)))
  have RLF := Lib.hid (fun (W : World) (h : Below w5.heap.size w5 W) => RL5.out.trans (h.mono RL5.out.size))
  have HA5 := Lib.hid ((HA.out.below B15.out).mono B15.out.size)
  have HB5 := Lib.hid ((HB.out.below B15.out).mono B15.out.size)
  have G5 := Lib.hid ((G.out.on B15.out).base B15.out.size)
  have CE := Lib.hid (fun (W : World) (h : Below w5.heap.size w5 W) => cevent_any a FA.out.dpr w5.heap.size W (HA5.out.below h) h.size ((G5.out.on h).base h.size))
  have CF2 := Lib.hid (fun (W : World) (h : Below w5.heap.size w5 W) => cevent_any b FB.out.dpr w5.heap.size W (HB5.out.below h) h.size ((G5.out.on h).base h.size))
  go_upto_region 5 with fail
  refine wp_region_slotsM 7 (by kernel_rfl) (by kernel_rfl) rfl (by kernel_rfl)
    (fun y => ⟨#[.agg a.cells.toArray, .agg b.cells.toArray, .int .i64 z, .pointer (some ⟨ga, 0, none⟩), .pointer (some ⟨gb, 0, none⟩), undef, .bool false, y 4, y 5, .bool true, .bool false, .agg a.cells.toArray, .agg b.cells.toArray, .slice (some ⟨w2.heap.size, 0, none⟩) 2 2, .bool true, .bool false, .bool false, .agg a.cells.toArray, .int .i64 0, .bool false, .bool false, .bool false, .agg b.cells.toArray, .int .i64 0, .bool false, .bool false, .bool false, .int .i64 z, .bool (decide (z < 1)), .bool (decide (z < 1)), .bool (decide (z < 1)), .int .i64 z, .bool (decide (1048576 < z)), .bool (decide (z < 1) || decide (1048576 < z)), y 0, y 1, y 2, y 3, undef, undef, undef, undef, undef, undef, undef, undef, undef, undef, undef, undef, undef, undef, undef, undef, undef, undef, undef, undef, undef, undef, undef, undef, undef, undef, undef, undef, undef, undef, undef, undef, undef, undef, undef, undef, undef, undef, undef, undef, undef, undef, undef, undef, undef, undef, undef, undef, undef, undef, undef, undef, undef, undef, undef, undef, undef, undef, undef, undef, undef, undef, undef, undef, undef, undef, undef, undef, undef, undef, undef, undef, undef], []⟩)
    (PrK w5 a b)
    (fun x W => ∃ y z g7 g8, PairE w5 a b (x 4) (x 5) true y z g7 g8 W)
    ?_ ?_ ?_ (fun i => undef) rfl ⟨fun _ => ⟨below_drewG (Below.refl _ _) 1, (fun h => by cases h), (fun h => by cases h), (fun h => by cases h), zV, zV, 0, 0, (fun h => by cases h), (fun h => by cases h), (fun h => by cases h), (fun h => by cases h), (fun h => by cases h), (fun h => by cases h), (fun h => by cases h), (fun h => by cases h), (fun h => by cases h)⟩, (fun h => by cases h)⟩
  · intro i o hi ho L y wx hd hl hK
    match i, ho with
    | 0, ho =>
      obtain rfl := Option.some.inj ho
      obtain ⟨h6, hP⟩ := hK.pre (i := 0) (by omega) hl
      exact .inl ⟨rfl, slot_loadK 42 (.tmp 3) rfl ⟨ga, 0, none⟩ rfl a.cells _ (KA.out wx hP.be) Tryz.underlying42 rfl (Tryz.cmSize a) ⟨_, rfl, (fun _ => hP.load0), (fun h => by rw [upd_ne _ _ (by decide), h6] at h; cases h)⟩⟩
    | 1, ho =>
      obtain rfl := Option.some.inj ho
      obtain ⟨h6, hP⟩ := hK.pre (i := 1) (by omega) hl
      have y0 : y 0 = .agg a.cells.toArray := hP.x0 (hd ⟨0, .data⟩ (by simp) rfl)
      refine .inl ⟨rfl, slot_call #[.agg a.cells.toArray] rfl Tryz.func29 (by kernel_rfl) (by kernel_rfl) (by simp [Act.eval, y0]) ?_⟩
      refine (CE.out wx hP.be).mono ?_
      rintro e w' ⟨v, rfl, hg, hb⟩
      exact ⟨_, rfl, _, rfl, (fun _ => hP.call1 hg hb), (fun h => by rw [upd_ne _ _ (by decide), h6] at h; cases h)⟩
    | 2, ho =>
      obtain rfl := Option.some.inj ho
      obtain ⟨h6, hP⟩ := hK.pre (i := 2) (by omega) hl
      exact .inl ⟨rfl, slot_loadK 42 (.tmp 4) rfl ⟨gb, 0, none⟩ rfl b.cells _ (KB.out wx hP.be) Tryz.underlying42 rfl (Tryz.cmSize b) ⟨_, rfl, (fun _ => hP.load2), (fun h => by rw [upd_ne _ _ (by decide), h6] at h; cases h)⟩⟩
    | 3, ho =>
      obtain rfl := Option.some.inj ho
      obtain ⟨h6, hP⟩ := hK.pre (i := 3) (by omega) hl
      have l2 : L 2 = true := hd ⟨2, .data⟩ (by simp) rfl
      have y0 : y 2 = .agg b.cells.toArray := hP.x2 l2
      refine .inl ⟨rfl, slot_call #[.agg b.cells.toArray] rfl Tryz.func29 (by kernel_rfl) (by kernel_rfl) (by simp [Act.eval, y0]) ?_⟩
      refine (CF2.out wx hP.be).mono ?_
      rintro e w' ⟨v, rfl, hg, hb⟩
      exact ⟨_, rfl, _, rfl, (fun _ => hP.call3 l2 hg hb), (fun h => by rw [upd_ne _ _ (by decide), h6] at h; cases h)⟩
    | 4, ho =>
      obtain rfl := Option.some.inj ho
      obtain ⟨h6, hP⟩ := hK.pre (i := 4) (by omega) hl
      refine .inl ⟨rfl, ?_⟩
      refine slot_run (v := .pointer (some ⟨wx.heap.size, 0, none⟩)) (w' := wx.alloc (.cells z11.toArray 28 (0, 0))) ?_ ⟨_, rfl, (fun _ => hP.alloc4), (fun h => by rw [upd_ne _ _ (by decide), h6] at h; cases h)⟩
      kernel_rfl
    | 5, ho =>
      obtain rfl := Option.some.inj ho
      obtain ⟨h6, hP⟩ := hK.pre (i := 5) (by omega) hl
      refine .inl ⟨rfl, ?_⟩
      refine slot_run (v := .pointer (some ⟨wx.heap.size, 0, none⟩)) (w' := wx.alloc (.cells z11.toArray 28 (0, 0))) ?_ ⟨_, rfl, (fun _ => hP.alloc5), (fun h => by rw [upd_ne _ _ (by decide), h6] at h; cases h)⟩
      kernel_rfl
    | 6, ho =>
      obtain rfl := Option.some.inj ho
      have hP := hK.1 hl
      have l0 : L 0 = true := hd ⟨0, .phase⟩ (by simp) rfl
      have l1 : L 1 = true := hd ⟨1, .data⟩ (by simp) rfl
      have l3 : L 3 = true := hd ⟨3, .chain⟩ (by simp) rfl
      have l4 : L 4 = true := hd ⟨4, .data⟩ (by simp) rfl
      have l5 : L 5 = true := hd ⟨5, .phase⟩ (by simp) rfl
      have l2 := hP.c32 l3
      obtain ⟨v, z, g7, g8, h1, h3, h4, h5, h45, i14, i15, i34, i35⟩ := hP.ex
      obtain ⟨y4, b7, r7⟩ := h4 l4
      obtain ⟨y5, b8, r8⟩ := h5 l5
      refine .inl ⟨rfl, ?_⟩
      refine slot_storeF 28 (.tmp 7) (.tmp 35) rfl g7 28 z11.toArray (VA a v).cells.toArray y4 (h1 l1).1 r7 (Tryz.evSize' _) (Ev.elevenZ _) (Ev.cells_one _) ?_
      have OT : ∀ q, q ≠ g7 → (wx.setRow g7 (VA a v).cells.toArray).heap[q]? = wx.heap[q]? := fun q hq => setRow_other wx g7 q _ hq
      refine ⟨undef, rfl, (fun h => by rw [upd_self] at h; cases h), fun _ => ⟨fun j hj => ?_, v, z, g7, g8, (h3 l3).1, ?_⟩⟩
      · rw [upd_ne _ _ (by omega)]
        match j, hj with
        | 0, _ => exact l0
        | 1, _ => exact l1
        | 2, _ => exact l2
        | 3, _ => exact l3
        | 4, _ => exact l4
        | 5, _ => exact l5
      · exact ⟨⟨hP.be.os, hP.be.tape, hP.be.output, by simpa using hP.be.size, fun q hq => (OT q (by omega)).trans (hP.be.block q hq)⟩, y4, y5, b7, b8, setRow_heap _ g7 _ _ _ _ r7, (OT g8 (Ne.symm (h45 l4 l5))).trans r8, (h1 l1).2.aside (i14 l1 l4) (by simp) OT, (h3 l3).2.aside (i34 l3 l4) (by simp) OT, h45 l4 l5, i14 l1 l4, i15 l1 l5, i34 l3 l4, i35 l3 l5⟩
    | k + 7, ho => omega
  · intro o ho L y wx hall hK
    obtain rfl := Option.some.inj ho
    obtain ⟨_, v, z, g7, g8, y3, hp⟩ := hK.2 (hall 6 (by omega))
    refine ⟨rfl, ?_⟩
    have r8 := hp.r8
    rw [if_neg (by simp)] at r8
    refine slot_storeF 28 (.tmp 8) (.tmp 37) rfl g8 28 z11.toArray (VA b z).cells.toArray hp.e8 y3 r8 (Tryz.evSize' _) (Ev.elevenZ _) (Ev.cells_one _) ?_
    have OT : ∀ q, q ≠ g8 → (wx.setRow g8 (VA b z).cells.toArray).heap[q]? = wx.heap[q]? := fun q hq => setRow_other wx g8 q _ hq
    have b8 := hp.b8
    exact ⟨undef, rfl, v, z, g7, g8, ⟨⟨hp.be.os, hp.be.tape, hp.be.output, by simpa using hp.be.size, fun q hq => (OT q (by omega)).trans (hp.be.block q hq)⟩, hp.e7, hp.e8, hp.b7, hp.b8, (OT g7 hp.ne).trans hp.r7, setRow_heap _ g8 _ _ _ _ r8, hp.gy.aside hp.y8 (by simp) OT, hp.gz.aside hp.z8 (by simp) OT, hp.ne, hp.y7, hp.y8, hp.z7, hp.z8⟩⟩
  · rintro y w6 ⟨v, v2, g7, g8, hp⟩
    have e7 := hp.e7
    have e8 := hp.e8
    rw [e7, e8]
    dsimp only
    have HP := Lib.hid hp
    have hbz : -9223372036854775808 ≤ z ∧ z ≤ 9223372036854775807 := hz
    have HZB := Lib.hid hbz
    have HZI := Lib.hid (show 1 ≤ z ∧ z ≤ 1048576 from ⟨by omega, by omega⟩)
    clear e7 e8 hp hz hbz
    obtain ⟨X, hX⟩ : ∃ X : Ev, X = VA a v := ⟨_, rfl⟩
    obtain ⟨V0, hV0⟩ : ∃ X : Ev, X = a.ev 0 := ⟨_, rfl⟩
    have row7 : EvRow w6 g7 X := by rw [hX]; exact HP.out.r7
    have KX := Lib.hid (fun (W : World) (h : Below w6.heap.size w6 W) => rowEB (x := X) row7 h)
    have C7 := Lib.hid (show ∀ W, Below w6.heap.size w6 W → W.cell? ⟨g7, 0, none⟩ = some (.int .i64 0) from fun W h => by
      have q := (evC ((h.block g7 (lt_of_rowW row7)).trans row7)).c0
      rw [hX] at q
      exact q)
    have KA7 := Lib.hid (fun (W : World) (h : Below w6.heap.size w6 W) => KA.out W (HP.out.be.trans (h.mono HP.out.be.size)))
    have GU := Lib.hid (fun (W : World) (h : Below w6.heap.size w6 W) => ((G5.out.on (HP.out.be.trans (h.mono HP.out.be.size))).base (Nat.le_trans HP.out.be.size h.size) : CB W.heap.size W))
    have HA6 := Lib.hid ((HA5.out.below HP.out.be).mono HP.out.be.size)
    have zb : -9223372036854775808 ≤ (0 : Int) ∧ (0 : Int) ≤ 9223372036854775807 := by omega
    have XAT := Lib.hid (show X.At w6.heap.size w6 from by rw [hX]; exact VA_at HA.out HVA.out HP.out.gy.2.1 zb)
    have V0AT := Lib.hid (show V0.At w6.heap.size w6 from by rw [hV0]; exact VA_at (y := a.val) HA.out HVA.out HA6.out.val zb)
    have FLG := Lib.hid (eK_flags (Cm.fits HVA.out).kn)
    have xk : X.kind = eK a.kind := by rw [hX]; rfl
    have RE := Lib.hid (show ∀ W, Below w6.heap.size w6 W → Calls Tryz.prog 31 #[.agg a.cells.toArray] W fun e w' => e = .returned (.agg V0.cells.toArray) ∧ Below W.heap.size W w' from fun W h => by
      rw [hV0]; exact rcevent_any a w6.heap.size W (HA6.out.below h) HVA.out h.size)
    have knX : X.val.Kin := by
      rw [hX]; exact VA_kin HP.out.gy.1 FA.out.kin
    have RS := Lib.hid (show ∀ W, Below w6.heap.size w6 W → Calls Tryz.prog 30 #[.agg X.cells.toArray, .agg V0.cells.toArray] W fun e w' => e = .returned (.bool true) ∧ Below W.heap.size W w' from fun W h => by
      have hs := rsame_any X V0 knX (by rw [hV0]; exact FA.out.kin) w6.heap.size W (XAT.out.below h) (V0AT.out.below h) h.size
      rwa [(Ev.same_nz knX).2 (by rw [hX, hV0]; exact VA_nz HP.out.gy.1 0)] at hs)
    obtain ⟨Eb, hEb⟩ : ∃ E, E = a.ends := ⟨_, rfl⟩
    have EN := Lib.hid (show ∀ W, Below w6.heap.size w6 W → Calls Tryz.prog 32 #[.agg a.cells.toArray] W fun e w' => e = .returned (.bool Eb) ∧ Below W.heap.size W w' from fun W h => by
      rw [hEb]; exact cends_any a W)
    have EC := Lib.hid (show ∀ W, Below w6.heap.size w6 W → Calls Tryz.prog 33 #[.agg X.cells.toArray] W fun e w' => e = .returned (.bool Eb) ∧ Below W.heap.size W w' from fun W h => by
      have hs := ecloses_any X W
      rw [xk, FLG.out.2.2.2] at hs
      rw [hEb]; exact hs)
    have MD := Lib.hid (show ∀ W, Below w6.heap.size w6 W → Calls Tryz.prog 34 #[.agg X.cells.toArray] W fun e w' => e = .returned (.bool true) ∧ Below W.heap.size W w' from fun W h => by
      have hs := cmade_any X W (GU.out W h)
      rwa [xk, FLG.out.1] at hs)
    have EO := Lib.hid (show ∀ W, Below w6.heap.size w6 W → Calls Tryz.prog 35 #[.agg X.cells.toArray] W fun e w' => e = .returned (.bool false) ∧ Below W.heap.size W w' from fun W h => by
      have hs := eoutside_any X W
      rwa [xk, FLG.out.2.1] at hs)
    have ET := Lib.hid (show ∀ W, Below w6.heap.size w6 W → Calls Tryz.prog 36 #[.agg X.cells.toArray] W fun e w' => e = .returned (.bool false) ∧ Below W.heap.size W w' from fun W h => by
      have hs := etask_any X W
      rwa [xk, FLG.out.2.2.1] at hs)
    have HX := Lib.hid hX
    clear hX hV0 xk hEb row7 zb knX
    go_upto_region 6 with fail
    refine wp_region_quiet_in (fun w' => Below w6.heap.size w6 w') (by kernel_rfl) (by kernel_rfl) (below_drewG (Below.refl _ _) 1) ?_
    refine wpQuiet_loadG (by kernel_rfl) 28 (.tmp 7) rfl ⟨g7,0,none⟩ rfl X.cells _ (fun w' hC => KX.out w' hC) Tryz.underlying28 rfl (Tryz.evSize X) ?_
    simp only [Act.put, List.setIfInBounds_toArray, List.set_cons_zero, List.set_cons_succ, List.getElem_toArray, List.getElem_cons_zero, List.getElem_cons_succ]
    refine wpQuiet_loadG (by kernel_rfl) 42 (.tmp 3) rfl ⟨ga,0,none⟩ rfl a.cells _ (fun w' hC => KA7.out w' hC) Tryz.underlying42 rfl (Tryz.cmSize a) ?_
    simp only [Act.put, List.setIfInBounds_toArray, List.set_cons_zero, List.set_cons_succ, List.getElem_toArray, List.getElem_cons_zero, List.getElem_cons_succ]
    refine wpQuiet_callG (f := 31) (xs := #[.tmp 39]) #[.agg a.cells.toArray] (.agg V0.cells.toArray) (by kernel_rfl) rfl Tryz.func31 (by kernel_rfl) (by kernel_rfl) (by simp [Act.eval]) (fun W hW => (RE.out W hW).mono fun e w' h => ⟨h.1, Below.trans hW (h.2.mono hW.size)⟩) ?_
    simp only [Act.put, List.setIfInBounds_toArray, List.set_cons_zero, List.set_cons_succ, List.getElem_toArray, List.getElem_cons_zero, List.getElem_cons_succ]
    refine wpQuiet_callG (f := 30) (xs := #[.tmp 38, .tmp 40]) #[.agg X.cells.toArray, .agg V0.cells.toArray] (.bool true) (by kernel_rfl) rfl Tryz.func30 (by kernel_rfl) (by kernel_rfl) (by simp [Act.eval]) (fun W hW => (RS.out W hW).mono fun e w' h => ⟨h.1, Below.trans hW (h.2.mono hW.size)⟩) ?_
    simp only [Act.put, List.setIfInBounds_toArray, List.set_cons_zero, List.set_cons_succ, List.getElem_toArray, List.getElem_cons_zero, List.getElem_cons_succ]
    refine wpQuiet_runG (v := .bool false) (by kernel_rfl) (fun w' hC => by first | rfl | go_simp) ?_
    simp only [Act.put, List.setIfInBounds_toArray, List.set_cons_zero, List.set_cons_succ, List.getElem_toArray, List.getElem_cons_zero, List.getElem_cons_succ]
    refine wpQuiet_runG (v := .bool false) (by kernel_rfl) (fun w' hC => by first | rfl | go_simp) ?_
    simp only [Act.put, List.setIfInBounds_toArray, List.set_cons_zero, List.set_cons_succ, List.getElem_toArray, List.getElem_cons_zero, List.getElem_cons_succ]
    refine wpQuiet_runG (v := .pointer (some ⟨g7, 0, none⟩)) (by kernel_rfl) (fun w' hC => by first | rfl | go_simp) ?_
    simp only [Act.put, List.setIfInBounds_toArray, List.set_cons_zero, List.set_cons_succ, List.getElem_toArray, List.getElem_cons_zero, List.getElem_cons_succ]
    refine wpQuiet_runG (v := .int .i64 0) (by kernel_rfl) (fun w' hC => by have hz := C7.out w' hC; go_simp) ?_
    simp only [Act.put, List.setIfInBounds_toArray, List.set_cons_zero, List.set_cons_succ, List.getElem_toArray, List.getElem_cons_zero, List.getElem_cons_succ]
    refine wpQuiet_runG (v := .bool false) (by kernel_rfl) (fun w' hC => by first | rfl | go_simp) ?_
    simp only [Act.put, List.setIfInBounds_toArray, List.set_cons_zero, List.set_cons_succ, List.getElem_toArray, List.getElem_cons_zero, List.getElem_cons_succ]
    refine wpQuiet_runG (v := .bool false) (by kernel_rfl) (fun w' hC => by first | rfl | go_simp) ?_
    simp only [Act.put, List.setIfInBounds_toArray, List.set_cons_zero, List.set_cons_succ, List.getElem_toArray, List.getElem_cons_zero, List.getElem_cons_succ]
    refine wpQuiet_runG (v := .bool false) (by kernel_rfl) (fun w' hC => by first | rfl | go_simp) ?_
    simp only [Act.put, List.setIfInBounds_toArray, List.set_cons_zero, List.set_cons_succ, List.getElem_toArray, List.getElem_cons_zero, List.getElem_cons_succ]
    refine wpQuiet_loadG (by kernel_rfl) 42 (.tmp 3) rfl ⟨ga,0,none⟩ rfl a.cells _ (fun w' hC => KA7.out w' hC) Tryz.underlying42 rfl (Tryz.cmSize a) ?_
    simp only [Act.put, List.setIfInBounds_toArray, List.set_cons_zero, List.set_cons_succ, List.getElem_toArray, List.getElem_cons_zero, List.getElem_cons_succ]
    refine wpQuiet_callG (f := 32) (xs := #[.tmp 49]) #[.agg a.cells.toArray] (.bool Eb) (by kernel_rfl) rfl Tryz.func32 (by kernel_rfl) (by kernel_rfl) (by simp [Act.eval]) (fun W hW => (EN.out W hW).mono fun e w' h => ⟨h.1, Below.trans hW (h.2.mono hW.size)⟩) ?_
    simp only [Act.put, List.setIfInBounds_toArray, List.set_cons_zero, List.set_cons_succ, List.getElem_toArray, List.getElem_cons_zero, List.getElem_cons_succ]
    refine wpQuiet_loadG (by kernel_rfl) 28 (.tmp 7) rfl ⟨g7,0,none⟩ rfl X.cells _ (fun w' hC => KX.out w' hC) Tryz.underlying28 rfl (Tryz.evSize X) ?_
    simp only [Act.put, List.setIfInBounds_toArray, List.set_cons_zero, List.set_cons_succ, List.getElem_toArray, List.getElem_cons_zero, List.getElem_cons_succ]
    refine wpQuiet_callG (f := 33) (xs := #[.tmp 51]) #[.agg X.cells.toArray] (.bool Eb) (by kernel_rfl) rfl Tryz.func33 (by kernel_rfl) (by kernel_rfl) (by simp [Act.eval]) (fun W hW => (EC.out W hW).mono fun e w' h => ⟨h.1, Below.trans hW (h.2.mono hW.size)⟩) ?_
    simp only [Act.put, List.setIfInBounds_toArray, List.set_cons_zero, List.set_cons_succ, List.getElem_toArray, List.getElem_cons_zero, List.getElem_cons_succ]
    refine wpQuiet_runG (v := .bool false) (by kernel_rfl) (fun w' hC => by first | rfl | go_simp) ?_
    simp only [Act.put, List.setIfInBounds_toArray, List.set_cons_zero, List.set_cons_succ, List.getElem_toArray, List.getElem_cons_zero, List.getElem_cons_succ]
    refine wpQuiet_runG (v := .bool false) (by kernel_rfl) (fun w' hC => by first | rfl | go_simp) ?_
    simp only [Act.put, List.setIfInBounds_toArray, List.set_cons_zero, List.set_cons_succ, List.getElem_toArray, List.getElem_cons_zero, List.getElem_cons_succ]
    refine wpQuiet_runG (v := .bool false) (by kernel_rfl) (fun w' hC => by first | rfl | go_simp) ?_
    simp only [Act.put, List.setIfInBounds_toArray, List.set_cons_zero, List.set_cons_succ, List.getElem_toArray, List.getElem_cons_zero, List.getElem_cons_succ]
    refine wpQuiet_loadG (by kernel_rfl) 28 (.tmp 7) rfl ⟨g7,0,none⟩ rfl X.cells _ (fun w' hC => KX.out w' hC) Tryz.underlying28 rfl (Tryz.evSize X) ?_
    simp only [Act.put, List.setIfInBounds_toArray, List.set_cons_zero, List.set_cons_succ, List.getElem_toArray, List.getElem_cons_zero, List.getElem_cons_succ]
    refine wpQuiet_callG (f := 34) (xs := #[.tmp 56]) #[.agg X.cells.toArray] (.bool true) (by kernel_rfl) rfl Tryz.func34 (by kernel_rfl) (by kernel_rfl) (by simp [Act.eval]) (fun W hW => (MD.out W hW).mono fun e w' h => ⟨h.1, Below.trans hW (h.2.mono hW.size)⟩) ?_
    simp only [Act.put, List.setIfInBounds_toArray, List.set_cons_zero, List.set_cons_succ, List.getElem_toArray, List.getElem_cons_zero, List.getElem_cons_succ]
    refine wpQuiet_runG (v := .bool false) (by kernel_rfl) (fun w' hC => by first | rfl | go_simp) ?_
    simp only [Act.put, List.setIfInBounds_toArray, List.set_cons_zero, List.set_cons_succ, List.getElem_toArray, List.getElem_cons_zero, List.getElem_cons_succ]
    refine wpQuiet_runG (v := .bool false) (by kernel_rfl) (fun w' hC => by first | rfl | go_simp) ?_
    simp only [Act.put, List.setIfInBounds_toArray, List.set_cons_zero, List.set_cons_succ, List.getElem_toArray, List.getElem_cons_zero, List.getElem_cons_succ]
    refine wpQuiet_runG (v := .bool false) (by kernel_rfl) (fun w' hC => by first | rfl | go_simp) ?_
    simp only [Act.put, List.setIfInBounds_toArray, List.set_cons_zero, List.set_cons_succ, List.getElem_toArray, List.getElem_cons_zero, List.getElem_cons_succ]
    refine wpQuiet_loadG (by kernel_rfl) 28 (.tmp 7) rfl ⟨g7,0,none⟩ rfl X.cells _ (fun w' hC => KX.out w' hC) Tryz.underlying28 rfl (Tryz.evSize X) ?_
    simp only [Act.put, List.setIfInBounds_toArray, List.set_cons_zero, List.set_cons_succ, List.getElem_toArray, List.getElem_cons_zero, List.getElem_cons_succ]
    refine wpQuiet_callG (f := 35) (xs := #[.tmp 61]) #[.agg X.cells.toArray] (.bool false) (by kernel_rfl) rfl Tryz.func35 (by kernel_rfl) (by kernel_rfl) (by simp [Act.eval]) (fun W hW => (EO.out W hW).mono fun e w' h => ⟨h.1, Below.trans hW (h.2.mono hW.size)⟩) ?_
    simp only [Act.put, List.setIfInBounds_toArray, List.set_cons_zero, List.set_cons_succ, List.getElem_toArray, List.getElem_cons_zero, List.getElem_cons_succ]
    refine wpQuiet_runG (v := .bool false) (by kernel_rfl) (fun w' hC => by first | rfl | go_simp) ?_
    simp only [Act.put, List.setIfInBounds_toArray, List.set_cons_zero, List.set_cons_succ, List.getElem_toArray, List.getElem_cons_zero, List.getElem_cons_succ]
    refine wpQuiet_runG (v := .bool false) (by kernel_rfl) (fun w' hC => by first | rfl | go_simp) ?_
    simp only [Act.put, List.setIfInBounds_toArray, List.set_cons_zero, List.set_cons_succ, List.getElem_toArray, List.getElem_cons_zero, List.getElem_cons_succ]
    refine wpQuiet_loadG (by kernel_rfl) 28 (.tmp 7) rfl ⟨g7,0,none⟩ rfl X.cells _ (fun w' hC => KX.out w' hC) Tryz.underlying28 rfl (Tryz.evSize X) ?_
    simp only [Act.put, List.setIfInBounds_toArray, List.set_cons_zero, List.set_cons_succ, List.getElem_toArray, List.getElem_cons_zero, List.getElem_cons_succ]
    refine wpQuiet_callG (f := 36) (xs := #[.tmp 65]) #[.agg X.cells.toArray] (.bool false) (by kernel_rfl) rfl Tryz.func36 (by kernel_rfl) (by kernel_rfl) (by simp [Act.eval]) (fun W hW => (ET.out W hW).mono fun e w' h => ⟨h.1, Below.trans hW (h.2.mono hW.size)⟩) ?_
    simp only [Act.put, List.setIfInBounds_toArray, List.set_cons_zero, List.set_cons_succ, List.getElem_toArray, List.getElem_cons_zero, List.getElem_cons_succ]
    refine wpQuiet_runG (v := .bool false) (by kernel_rfl) (fun w' hC => by first | rfl | go_simp) ?_
    simp only [Act.put, List.setIfInBounds_toArray, List.set_cons_zero, List.set_cons_succ, List.getElem_toArray, List.getElem_cons_zero, List.getElem_cons_succ]
    refine wpQuiet_nil ?_
    intro w7 h67
    have H67 := Lib.hid h67
    have row7 : EvRow w7 g7 (VA a v) := (h67.block g7 (lt_of_rowW HP.out.r7)).trans HP.out.r7
    have row8 : EvRow w7 g8 (VA b v2) := by
      have r8 := HP.out.r8
      rw [if_pos rfl] at r8
      exact (h67.block g8 (lt_of_rowW r8)).trans r8
    have R7 := Lib.hid row7
    have R8 := Lib.hid row8
    have c7 : w7.cell? ⟨g7, 0, none⟩ = some (.int .i64 0) := (evC row7).c0
    have c8 : w7.cell? ⟨g8, 0, none⟩ = some (.int .i64 0) := (evC row8).c0
    have f7 := row7.frz 0
    have f8 := row8.frz 0
    have hne := HP.out.ne
    have hne' := Ne.symm HP.out.ne
    clear h67 row7 row8 KX C7 KA7 GU XAT V0AT RE RS EN EC MD EO ET
    go_upto_region 9 with fail
    obtain ⟨w9, hw9⟩ : ∃ w', w' = (w7.setCell ⟨g7, 0, none⟩ (.int .i64 z)).setCell ⟨g8, 0, none⟩ (.int .i64 z) := ⟨_, rfl⟩
    obtain ⟨X1, hX1⟩ : ∃ X : Ev, X = { VA a v with id := z } := ⟨_, rfl⟩
    obtain ⟨Y1, hY1⟩ : ∃ X : Ev, X = { VA b v2 with id := z } := ⟨_, rfl⟩
    have ra : EvRow (w7.setCell ⟨g7, 0, none⟩ (.int .i64 z)) g7 X1 := by rw [hX1]; exact R7.out.setId z
    have rb : EvRow (w7.setCell ⟨g7, 0, none⟩ (.int .i64 z)) g8 (VA b v2) := (Below.heap_setCell w7 ⟨g7, 0, none⟩ _ g8 hne').trans R8.out
    have ra9 : EvRow w9 g7 X1 := by rw [hw9]; exact (Below.heap_setCell _ ⟨g8, 0, none⟩ _ g7 hne).trans ra
    have rb9 : EvRow w9 g8 Y1 := by rw [hw9, hY1]; exact rb.setId z
    have OT : ∀ q, q ≠ g7 → q ≠ g8 → w9.heap[q]? = w7.heap[q]? := fun q h1 h2 => by
      rw [hw9]; exact (Below.heap_setCell _ ⟨g8, 0, none⟩ _ q h2).trans (Below.heap_setCell _ ⟨g7, 0, none⟩ _ q h1)
    have sz9 : w9.heap.size = w7.heap.size := by rw [hw9]; simp
    have gy9 : GoodO w5.heap.size w9 a.val v := by
      rw [hw9]
      exact ((HP.out.gy.below H67.out).aside HP.out.y7 (by simp) (fun q h => Below.heap_setCell _ ⟨g7, 0, none⟩ _ q h)).aside HP.out.y8 (by simp) (fun q h => Below.heap_setCell _ ⟨g8, 0, none⟩ _ q h)
    have gz9 : GoodO w5.heap.size w9 b.val v2 := by
      rw [hw9]
      exact ((HP.out.gz.below H67.out).aside HP.out.z7 (by simp) (fun q h => Below.heap_setCell _ ⟨g7, 0, none⟩ _ q h)).aside HP.out.z8 (by simp) (fun q h => Below.heap_setCell _ ⟨g8, 0, none⟩ _ q h)
    have b7 := HP.out.b7
    have b8 := HP.out.b8
    have b57 := HP.out.be.trans (H67.out.mono HP.out.be.size)
    have b59 : Below w5.heap.size w5 w9 := by
      refine ⟨?_, ?_, ?_, by rw [sz9]; exact b57.size, fun q hq => (OT q (by omega) (by omega)).trans (b57.block q hq)⟩
      · rw [hw9]; exact b57.os
      · rw [hw9]; exact b57.tape
      · rw [hw9]; exact b57.output
    rw [← hw9]
    have B59 := Lib.hid b59
    have KX := Lib.hid (fun (W : World) (h : Below w9.heap.size w9 W) => rowEB (x := X1) ra9 h)
    have KY := Lib.hid (fun (W : World) (h : Below w9.heap.size w9 W) => rowEB (x := Y1) rb9 h)
    have KA9 := Lib.hid (fun (W : World) (h : Below w9.heap.size w9 W) => KA.out W (b59.trans (h.mono b59.size)))
    have KB9 := Lib.hid (fun (W : World) (h : Below w9.heap.size w9 W) => KB.out W (b59.trans (h.mono b59.size)))
    have GU := Lib.hid (fun (W : World) (h : Below w9.heap.size w9 W) => ((G5.out.on (b59.trans (h.mono b59.size))).base (Nat.le_trans b59.size h.size) : CB W.heap.size W))
    have HA9 := Lib.hid ((HA5.out.below b59).mono b59.size)
    have HB9 := Lib.hid ((HB5.out.below b59).mono b59.size)
    have XAT := Lib.hid (show X1.At w9.heap.size w9 from by rw [hX1]; exact VA_at HA.out HVA.out gy9.2.1 HZB.out)
    have YAT := Lib.hid (show Y1.At w9.heap.size w9 from by rw [hY1]; exact VA_at HB.out HVB.out gz9.2.1 HZB.out)
    have nX : X1.nz = (a.ev z).nz := by rw [hX1]; exact VA_nz gy9.1 z
    have nY : Y1.nz = (b.ev z).nz := by rw [hY1]; exact VA_nz gz9.1 z
    have kX : X1.val.Kin := by rw [hX1]; exact VA_kin (x := a) gy9.1 FA.out.kin
    have kY : Y1.val.Kin := by rw [hY1]; exact VA_kin (x := b) gz9.1 FB.out.kin
    have vX : X1.vE = 0 := by rw [← Ev.nz_vE X1, nX, Ev.nz_vE]; exact ev_ok HVA.out HZI.out
    have idX : X1.id = z := by rw [hX1]
    have bX : X1.b = (a.ev z).b := by rw [hX1]; rfl
    have fA : a.fitsE X1 = true := by rw [fitsE_nz FA.out.kin nX, fits_ev HVA.out HVA.out, (Ev.same_nz (show (a.ev z).val.Kin from FA.out.kin)).2 rfl]
    obtain ⟨Q, hQ⟩ : ∃ Q, Q = b.fitsE X1 := ⟨_, rfl⟩
    have hq1 : Q = (b.ev z).same (a.ev z) := by rw [hQ, fitsE_nz FB.out.kin nX, fits_ev HVA.out HVB.out]
    have hq2 : X1.same Y1 = Q := by
      rw [hq1]
      apply bool_iff
      rw [Ev.same_nz kX, Ev.same_nz (show (b.ev z).val.Kin from FB.out.kin), nX, nY]
      exact ⟨Eq.symm, Eq.symm⟩
    have CK := Lib.hid (show ∀ W, Below w9.heap.size w9 W → Calls Tryz.prog 15 #[.agg X1.cells.toArray] W fun e w' => e = .returned (.int .i64 0) ∧ Below W.heap.size W w' from fun W h => by
      have hs := rcheckE_any X1 w9.heap.size W (XAT.out.below h) h.size
      rwa [vX] at hs)
    have F1 := Lib.hid (show ∀ W, Below w9.heap.size w9 W → Calls Tryz.prog 37 #[.agg a.cells.toArray, .agg X1.cells.toArray] W fun e w' => e = .returned (.bool true) ∧ Below W.heap.size W w' from fun W h => by
      have hs := cfits_any a X1 FA.out w9.heap.size W (HA9.out.below h) (XAT.out.below h) h.size (GU.out W h)
      rwa [fA] at hs)
    have F2 := Lib.hid (show ∀ W, Below w9.heap.size w9 W → Calls Tryz.prog 37 #[.agg b.cells.toArray, .agg X1.cells.toArray] W fun e w' => e = .returned (.bool Q) ∧ Below W.heap.size W w' from fun W h => by
      have hs := cfits_any b X1 FB.out w9.heap.size W (HB9.out.below h) (XAT.out.below h) h.size (GU.out W h)
      rwa [← hQ] at hs)
    have RS := Lib.hid (show ∀ W, Below w9.heap.size w9 W → Calls Tryz.prog 30 #[.agg X1.cells.toArray, .agg Y1.cells.toArray] W fun e w' => e = .returned (.bool Q) ∧ Below W.heap.size W w' from fun W h => by
      have hs := rsame_any X1 Y1 kX kY w9.heap.size W (XAT.out.below h) (YAT.out.below h) h.size
      rwa [hq2] at hs)
    obtain ⟨T, hT⟩ : ∃ T, T = a.same b := ⟨_, rfl⟩
    have SM := Lib.hid (show ∀ W, Below w9.heap.size w9 W → Calls Tryz.prog 27 #[.agg a.cells.toArray, .agg b.cells.toArray] W fun e w' => e = .returned (.bool T) ∧ Below W.heap.size W w' from fun W h => by
      rw [hT]; exact csame_any a b FA.out.dpr w9.heap.size W (HA9.out.below h) (HB9.out.below h) h.size)
    have HQT := Lib.hid (show (T = true → Q = true) ∧ (Q = true → T = false → a.kind = 1 ∧ X1.b = 4611686018427387903) from by
      refine ⟨fun h => ?_, fun h h2 => ?_⟩
      · rw [hq1]; exact same_ev_of HVA.out HVB.out (hT ▸ h)
      · rcases same_ev HVA.out HVB.out (hq1 ▸ h) with h3 | h3
        · rw [← hT, h2] at h3; cases h3
        · rw [bX]; exact h3)
    have D := Lib.hid (show ∀ W, Below w9.heap.size w9 W → W.cell? ⟨ga, 0, none⟩ = some (.int .i64 a.kind) ∧ W.cell? ⟨g7, 4, none⟩ = some (.int .i64 X1.b) from fun W h => by
      refine ⟨?_, (evC ((h.block g7 (lt_of_rowW ra9)).trans ra9)).c4⟩
      have q := KA9.out W h 0 (.int .i64 a.kind) rfl
      rwa [Addr.add_mid] at q)
    have RL9 := Lib.hid (fun (W : World) (h : Below w9.heap.size w9 W) => RLF.out W (b59.trans (h.mono b59.size)))
    clear hw9 hX1 hY1 ra rb ra9 rb9 OT sz9 gy9 gz9 b7 b8 b57 b59 nX nY kX kY vX idX bX fA hQ hq1 hq2 hT c7 c8 f7 f8 hne hne'
    refine wp_region_quiet_in (fun w' => Below w9.heap.size w9 w') (by kernel_rfl) (by kernel_rfl) (below_drewG (Below.refl _ _) 1) ?_
    refine wpQuiet_loadG (by kernel_rfl) 28 (.tmp 7) rfl ⟨g7,0,none⟩ rfl X1.cells _ (fun w' hC => KX.out w' hC) Tryz.underlying28 rfl (Tryz.evSize X1) ?_
    simp only [Act.put, List.setIfInBounds_toArray, List.set_cons_zero, List.set_cons_succ, List.getElem_toArray, List.getElem_cons_zero, List.getElem_cons_succ]
    refine wpQuiet_callG (f := 15) (xs := #[.tmp 72]) #[.agg X1.cells.toArray] (.int .i64 0) (by kernel_rfl) rfl Tryz.func15 (by kernel_rfl) (by kernel_rfl) (by simp [Act.eval]) (fun W hW => (CK.out W hW).mono fun e w' h => ⟨h.1, Below.trans hW (h.2.mono hW.size)⟩) ?_
    simp only [Act.put, List.setIfInBounds_toArray, List.set_cons_zero, List.set_cons_succ, List.getElem_toArray, List.getElem_cons_zero, List.getElem_cons_succ]
    refine wpQuiet_runG (v := .bool false) (by kernel_rfl) (fun w' hC => by first | rfl | go_simp) ?_
    simp only [Act.put, List.setIfInBounds_toArray, List.set_cons_zero, List.set_cons_succ, List.getElem_toArray, List.getElem_cons_zero, List.getElem_cons_succ]
    refine wpQuiet_runG (v := .bool false) (by kernel_rfl) (fun w' hC => by first | rfl | go_simp) ?_
    simp only [Act.put, List.setIfInBounds_toArray, List.set_cons_zero, List.set_cons_succ, List.getElem_toArray, List.getElem_cons_zero, List.getElem_cons_succ]
    refine wpQuiet_loadG (by kernel_rfl) 42 (.tmp 3) rfl ⟨ga,0,none⟩ rfl a.cells _ (fun w' hC => KA9.out w' hC) Tryz.underlying42 rfl (Tryz.cmSize a) ?_
    simp only [Act.put, List.setIfInBounds_toArray, List.set_cons_zero, List.set_cons_succ, List.getElem_toArray, List.getElem_cons_zero, List.getElem_cons_succ]
    refine wpQuiet_loadG (by kernel_rfl) 28 (.tmp 7) rfl ⟨g7,0,none⟩ rfl X1.cells _ (fun w' hC => KX.out w' hC) Tryz.underlying28 rfl (Tryz.evSize X1) ?_
    simp only [Act.put, List.setIfInBounds_toArray, List.set_cons_zero, List.set_cons_succ, List.getElem_toArray, List.getElem_cons_zero, List.getElem_cons_succ]
    refine wpQuiet_callG (f := 37) (xs := #[.tmp 76, .tmp 77]) #[.agg a.cells.toArray, .agg X1.cells.toArray] (.bool true) (by kernel_rfl) rfl Tryz.func37 (by kernel_rfl) (by kernel_rfl) (by simp [Act.eval]) (fun W hW => (F1.out W hW).mono fun e w' h => ⟨h.1, Below.trans hW (h.2.mono hW.size)⟩) ?_
    simp only [Act.put, List.setIfInBounds_toArray, List.set_cons_zero, List.set_cons_succ, List.getElem_toArray, List.getElem_cons_zero, List.getElem_cons_succ]
    refine wpQuiet_runG (v := .bool false) (by kernel_rfl) (fun w' hC => by first | rfl | go_simp) ?_
    simp only [Act.put, List.setIfInBounds_toArray, List.set_cons_zero, List.set_cons_succ, List.getElem_toArray, List.getElem_cons_zero, List.getElem_cons_succ]
    refine wpQuiet_runG (v := .bool false) (by kernel_rfl) (fun w' hC => by first | rfl | go_simp) ?_
    simp only [Act.put, List.setIfInBounds_toArray, List.set_cons_zero, List.set_cons_succ, List.getElem_toArray, List.getElem_cons_zero, List.getElem_cons_succ]
    refine wpQuiet_runG (v := .bool false) (by kernel_rfl) (fun w' hC => by first | rfl | go_simp) ?_
    simp only [Act.put, List.setIfInBounds_toArray, List.set_cons_zero, List.set_cons_succ, List.getElem_toArray, List.getElem_cons_zero, List.getElem_cons_succ]
    refine wpQuiet_loadG (by kernel_rfl) 42 (.tmp 4) rfl ⟨gb,0,none⟩ rfl b.cells _ (fun w' hC => KB9.out w' hC) Tryz.underlying42 rfl (Tryz.cmSize b) ?_
    simp only [Act.put, List.setIfInBounds_toArray, List.set_cons_zero, List.set_cons_succ, List.getElem_toArray, List.getElem_cons_zero, List.getElem_cons_succ]
    refine wpQuiet_loadG (by kernel_rfl) 28 (.tmp 7) rfl ⟨g7,0,none⟩ rfl X1.cells _ (fun w' hC => KX.out w' hC) Tryz.underlying28 rfl (Tryz.evSize X1) ?_
    simp only [Act.put, List.setIfInBounds_toArray, List.set_cons_zero, List.set_cons_succ, List.getElem_toArray, List.getElem_cons_zero, List.getElem_cons_succ]
    refine wpQuiet_callG (f := 37) (xs := #[.tmp 82, .tmp 83]) #[.agg b.cells.toArray, .agg X1.cells.toArray] (.bool Q) (by kernel_rfl) rfl Tryz.func37 (by kernel_rfl) (by kernel_rfl) (by simp [Act.eval]) (fun W hW => (F2.out W hW).mono fun e w' h => ⟨h.1, Below.trans hW (h.2.mono hW.size)⟩) ?_
    simp only [Act.put, List.setIfInBounds_toArray, List.set_cons_zero, List.set_cons_succ, List.getElem_toArray, List.getElem_cons_zero, List.getElem_cons_succ]
    refine wpQuiet_loadG (by kernel_rfl) 28 (.tmp 7) rfl ⟨g7,0,none⟩ rfl X1.cells _ (fun w' hC => KX.out w' hC) Tryz.underlying28 rfl (Tryz.evSize X1) ?_
    simp only [Act.put, List.setIfInBounds_toArray, List.set_cons_zero, List.set_cons_succ, List.getElem_toArray, List.getElem_cons_zero, List.getElem_cons_succ]
    refine wpQuiet_loadG (by kernel_rfl) 28 (.tmp 8) rfl ⟨g8,0,none⟩ rfl Y1.cells _ (fun w' hC => KY.out w' hC) Tryz.underlying28 rfl (Tryz.evSize Y1) ?_
    simp only [Act.put, List.setIfInBounds_toArray, List.set_cons_zero, List.set_cons_succ, List.getElem_toArray, List.getElem_cons_zero, List.getElem_cons_succ]
    refine wpQuiet_callG (f := 30) (xs := #[.tmp 85, .tmp 86]) #[.agg X1.cells.toArray, .agg Y1.cells.toArray] (.bool Q) (by kernel_rfl) rfl Tryz.func30 (by kernel_rfl) (by kernel_rfl) (by simp [Act.eval]) (fun W hW => (RS.out W hW).mono fun e w' h => ⟨h.1, Below.trans hW (h.2.mono hW.size)⟩) ?_
    simp only [Act.put, List.setIfInBounds_toArray, List.set_cons_zero, List.set_cons_succ, List.getElem_toArray, List.getElem_cons_zero, List.getElem_cons_succ]
    refine wpQuiet_runG (v := .bool false) (by kernel_rfl) (fun w' hC => by first | rfl | go_simp) ?_
    simp only [Act.put, List.setIfInBounds_toArray, List.set_cons_zero, List.set_cons_succ, List.getElem_toArray, List.getElem_cons_zero, List.getElem_cons_succ]
    refine wpQuiet_runG (v := .bool false) (by kernel_rfl) (fun w' hC => by first | rfl | go_simp) ?_
    simp only [Act.put, List.setIfInBounds_toArray, List.set_cons_zero, List.set_cons_succ, List.getElem_toArray, List.getElem_cons_zero, List.getElem_cons_succ]
    refine wpQuiet_nil ?_
    intro wx hs
    have HS := Lib.hid hs
    clear hs
    have K1 := Lib.hid (KB9.out wx HS.out)
    have K2 := Lib.hid (KX.out wx HS.out)
    go_wp2_with (first | (with_reducible show wpList _ _ _ _ _ _; refine wpList_load_allW rfl 42 (.tmp 4) rfl ⟨gb,0,none⟩ rfl b.cells _ K1.out Tryz.underlying42 rfl (Tryz.cmSize b) ?_) | (with_reducible show wpList _ _ _ _ _ _; refine wpList_load_allW rfl 28 (.tmp 7) rfl ⟨g7,0,none⟩ rfl X1.cells _ K2.out Tryz.underlying28 rfl (Tryz.evSize X1) ?_))
    refine (F2.out wx HS.out).mono ?_
    rintro e x1 ⟨rfl, hx1⟩
    have H1 := Lib.hid (HS.out.trans (hx1.mono HS.out.size))
    clear hx1
    have K3 := Lib.hid (KA9.out x1 H1.out)
    have K4 := Lib.hid (KB9.out x1 H1.out)
    have hqt := HQT.out
    cases Q
    · have hT : T = false := by
        cases T
        · rfl
        · have := hqt.1 rfl; cases this
      subst hT
      clear hqt
      go_wp2_with (first | (with_reducible show wpList _ _ _ _ _ _; refine wpList_load_allW rfl 42 (.tmp 3) rfl ⟨ga,0,none⟩ rfl a.cells _ K3.out Tryz.underlying42 rfl (Tryz.cmSize a) ?_) | (with_reducible show wpList _ _ _ _ _ _; refine wpList_load_allW rfl 42 (.tmp 4) rfl ⟨gb,0,none⟩ rfl b.cells _ K4.out Tryz.underlying42 rfl (Tryz.cmSize b) ?_))
      refine (SM.out x1 H1.out).mono ?_
      rintro e x2 ⟨rfl, hx2⟩
      have RL := Lib.hid (RL9.out x2 (H1.out.trans (hx2.mono H1.out.size)))
      clear hx2
      go_wp2_with fail
      go_ret
      exact ⟨rfl, RL.out⟩
    · cases T
      · obtain ⟨hk1, hb1⟩ := hqt.2 rfl rfl
        have d0 : ∀ W, Below w9.heap.size w9 W → W.cell? ⟨ga, 0, none⟩ = some (.int .i64 1) ∧ W.cell? ⟨g7, 4, none⟩ = some (.int .i64 4611686018427387903) := fun W h => by
          have q := D.out W h
          rw [hk1, hb1] at q
          exact q
        have D0 := Lib.hid d0
        clear hqt hk1 hb1 d0
        go_wp2_with (first | (with_reducible show wpList _ _ _ _ _ _; refine wpList_load_allW rfl 42 (.tmp 3) rfl ⟨ga,0,none⟩ rfl a.cells _ K3.out Tryz.underlying42 rfl (Tryz.cmSize a) ?_) | (with_reducible show wpList _ _ _ _ _ _; refine wpList_load_allW rfl 42 (.tmp 4) rfl ⟨gb,0,none⟩ rfl b.cells _ K4.out Tryz.underlying42 rfl (Tryz.cmSize b) ?_))
        refine (SM.out x1 H1.out).mono ?_
        rintro e x2 ⟨rfl, hx2⟩
        have h2 := H1.out.trans (hx2.mono H1.out.size)
        have RL := Lib.hid (RL9.out x2 h2)
        obtain ⟨e0, e4⟩ := D0.out x2 h2
        clear hx2 h2
        go_wp2_with fail
        go_ret
        exact ⟨rfl, RL.out⟩
      · clear hqt
        go_wp2_with (first | (with_reducible show wpList _ _ _ _ _ _; refine wpList_load_allW rfl 42 (.tmp 3) rfl ⟨ga,0,none⟩ rfl a.cells _ K3.out Tryz.underlying42 rfl (Tryz.cmSize a) ?_) | (with_reducible show wpList _ _ _ _ _ _; refine wpList_load_allW rfl 42 (.tmp 4) rfl ⟨gb,0,none⟩ rfl b.cells _ K4.out Tryz.underlying42 rfl (Tryz.cmSize b) ?_))
        refine (SM.out x1 H1.out).mono ?_
        rintro e x2 ⟨rfl, hx2⟩
        have RL := Lib.hid (RL9.out x2 (H1.out.trans (hx2.mono H1.out.size)))
        clear hx2
        go_wp2_with fail
        go_ret
        exact ⟨rfl, RL.out⟩
end Go.Proofs.YtnfobnnbeefeeaaGreatDoor.Wi
