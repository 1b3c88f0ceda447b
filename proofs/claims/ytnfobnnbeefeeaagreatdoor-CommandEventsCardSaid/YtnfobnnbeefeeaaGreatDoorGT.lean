/- read. -/
import Derived.Test.YtnfobnnbeefeeaaGreatDoorGS
import Derived.Test.YtnfobnnbeefeeaaGreatDoorGL
namespace Go.Proofs.YtnfobnnbeefeeaaGreatDoor.Wi
open Go Go.RowKit
set_option linter.unusedVariables false
set_option linter.unusedSimpArgs false
def z9 : List Value := [.int .i64 0, .int .i64 0, .int .i64 0, .int .i64 0, .string ⟨#[]⟩, .int .i64 0, .int .i64 0, .string ⟨#[]⟩, .slice none 0 0]
theorem Cm.nineZ (x : Cm) : z9.toArray.size = x.cells.toArray.size := by rw [← x.nine]; rfl
def kC (kd : Int) : Cm := ⟨kd, 0, 0, 0, [], zV⟩
def lit9 (kd : Int) : Array Value := #[.int .i64 kd, .int .i64 0, .int .i64 0, .int .i64 0, .string ⟨#[]⟩, .int .i64 0, .int .i64 0, .string ⟨#[]⟩, .slice none 0 0]
theorem kC_cells (kd : Int) : (kC kd).cells.toArray = lit9 kd := rfl
def CmRow (w : World) (g : Nat) (x : Cm) : Prop := w.heap[g]? = some (.cells x.cells.toArray 42 (0, 0))
theorem CmRow.setTime {w : World} {g : Nat} {x : Cm} (h : CmRow w g x) (n : Int) : CmRow (w.setCell ⟨g, 1, none⟩ (.int .i64 n)) g { x with time := n } := Go.Joins.block_setCell (i := 1) h _
theorem CmRow.setA {w : World} {g : Nat} {x : Cm} (h : CmRow w g x) (n : Int) : CmRow (w.setCell ⟨g, 2, none⟩ (.int .i64 n)) g { x with a := n } := Go.Joins.block_setCell (i := 2) h _
theorem CmRow.setB {w : World} {g : Nat} {x : Cm} (h : CmRow w g x) (n : Int) : CmRow (w.setCell ⟨g, 3, none⟩ (.int .i64 n)) g { x with b := n } := Go.Joins.block_setCell (i := 3) h _
theorem CmRow.setN {w : World} {g : Nat} {x : Cm} (h : CmRow w g x) (s : List UInt8) : CmRow (w.setCell ⟨g, 4, none⟩ (.string (str s))) g { x with name := s } := Go.Joins.block_setCell (i := 4) h _
theorem CmRow.setV {w : World} {g : Nat} {x : Cm} (h : CmRow w g x) (y : VT) : CmRow (w.setCells g 5 y.cells) g { x with val := y } := by
  obtain ⟨yk, yn, ys, ya, yc, yl⟩ := y
  obtain ⟨x1, x2, x3, x4, x5, xv⟩ := x
  obtain ⟨vk, vn, vs, va, vc, vl⟩ := xv
  unfold VT.cells
  rw [World.setCells, World.setCells, World.setCells, World.setCells, World.setCells]
  exact Go.Joins.block_setCell (i := 8) (Go.Joins.block_setCell (i := 7) (Go.Joins.block_setCell (i := 6) (Go.Joins.block_setCell (i := 5) h _) _) _) _
theorem CmRow.there {w : World} {g : Nat} {x : Cm} (h : CmRow w g x) (y : VT) : w.there g 5 y.cells.toArray.size := by
  rw [List.size_toArray, y.cells_len]
  intro j hj
  refine ⟨?_, frozen_of_row w g _ _ _ h⟩
  rw [cell_of_rowW w g _ _ _ _ h, List.getElem?_toArray, List.getElem?_eq_getElem (by rw [x.cells_len]; omega)]
  rfl
theorem CmRow.frz {w : World} {g : Nat} {x : Cm} (h : CmRow w g x) (i : Nat) : w.frozen? ⟨g, i, none⟩ = false := frozen_of_row w g i _ _ h
theorem CmRow.lt {w : World} {g : Nat} {x : Cm} (h : CmRow w g x) : g < w.heap.size := lt_of_rowW h
theorem Fr2.beyond {a w w' : World} {b g : Nat} (h : Fr2 a w b g) (hB : Below w.heap.size w w') : Fr2 a w' b g :=
  ⟨hB.os.trans h.os, hB.tape.trans h.tape, hB.output.trans h.output, Nat.le_trans h.size hB.size, fun k hk h1 h2 => (hB.block k (Nat.lt_of_lt_of_le hk h.size)).trans (h.block k hk h1 h2)⟩
/-- What the reader and the command are. -/
structure CfS (w : World) (b g : Nat) (r : Option Nat) (xs : List UInt8) (k : Nat) (e : Int) (x : Cm) (wx : World) : Prop where
  rd : Rd wx b r xs k e
  row : CmRow wx g x
  fr : Fr2 w wx b g
theorem CfS.setc {w : World} {b g : Nat} {r : Option Nat} {xs : List UInt8} {k : Nat} {e : Int} {x y : Cm} {wx : World} {o : Nat} {v : Value} (h : CfS w b g r xs k e x wx) (hbg : g ≠ b) (hrg : ∀ q, r = some q → q ≠ g) (hy : CmRow (wx.setCell ⟨g, o, none⟩ v) g y) : CfS w b g r xs k e y (wx.setCell ⟨g, o, none⟩ v) :=
  ⟨h.rd.keep (Below.heap_setCell wx ⟨g, o, none⟩ v b (Ne.symm hbg)) (fun q hq => Below.heap_setCell wx ⟨g, o, none⟩ v q (hrg q hq)), hy, h.fr.set o v⟩
theorem CfS.next {w : World} {b g : Nat} {r : Option Nat} {xs : List UInt8} {k k2 : Nat} {e e2 : Int} {x : Cm} {wx wy : World} (h : CfS w b g r xs k e x wx) (hbg : g ≠ b) (hR : Rd wy b r xs k2 e2) (hF : Fr wx wy b none) : CfS w b g r xs k2 e2 x wy :=
  ⟨hR, (hF.block g h.row.lt hbg (fun e => by cases e)).trans h.row, h.fr.frE hF⟩
theorem CfS.beyond {w : World} {b g : Nat} {r : Option Nat} {xs : List UInt8} {k : Nat} {e : Int} {x : Cm} {wx wy : World} (h : CfS w b g r xs k e x wx) (hB : Below wx.heap.size wx wy) : CfS w b g r xs k e x wy :=
  ⟨h.rd.below (B := 0) hB, (hB.block g h.row.lt).trans h.row, h.fr.beyond hB⟩
def RdcPost (w : World) (b : Nat) (r : Option Nat) (xs : List UInt8) (X : Cm × Nat × Int) (e : Ending) (w' : World) : Prop :=
  ∃ y : Cm, e = .returned (.agg y.cells.toArray) ∧ y.nz = X.1 ∧ y.At w'.heap.size w' ∧ y.val.In (w.heap.size ≤ ·) ∧ Rd w' b r xs X.2.1 X.2.2 ∧ Fr w w' b none
theorem rdc_end {w wz : World} {b g2 B k' : Nat} {r : Option Nat} {xs : List UInt8} {e' : Int} {y : Cm} {X : Cm × Nat × Int} (hX : X = (y.nz, k', e')) (hS : Rd wz b r xs k' e') (hF : Fr w wz b none) (hy : y.At wz.heap.size wz) (hin : y.val.In (B ≤ ·)) (hB : g2 < B) (hwB : w.heap.size ≤ B)
    (hg2 : w.heap.size ≤ g2) (hb : b < w.heap.size) (hr : ∀ g, r = some g → g < w.heap.size) : RdcPost w b r xs X (.returned (.agg y.cells.toArray)) (wz.setRow g2 y.cells.toArray) := by
  subst hX
  have st : ∀ q, q ≠ g2 → (wz.setRow g2 y.cells.toArray).heap[q]? = wz.heap[q]? := fun q hq => setRow_other wz g2 q _ hq
  refine ⟨y, rfl, rfl, ?_, hin.imp fun q hq => Nat.le_trans hwB hq, hS.keep (st b (by omega)) (fun g hg => st g (by have := hr g hg; omega)), ⟨hF.os, hF.tape, hF.output, by simpa using hF.size, fun q hq h1 h2 => (st q (by omega)).trans (hF.block q hq h1 h2)⟩⟩
  have hv : y.val.At wz.heap.size (wz.setRow g2 y.cells.toArray) := hy.val.keepT hin (fun q _ h2 => st q (by omega))
  exact ⟨hy.kind, hy.time, hy.a, hy.b, hy.name, hv.mono (by simp)⟩
set_option maxHeartbeats 16000000 in
set_option maxRecDepth 100000 in
theorem cread_any {w : World} {b N : Nat} {r : Option Nat} {xs : List UInt8} {k : Nat} {e : Int} (h : Rd w b r xs k e) (hsz : xs.length ≤ 140737488355328) (he : CB N w) (hNb : N ≤ b) :
    Calls Tryz.prog 78 #[.pointer (some ⟨b, 0, none⟩)] w (RdcPost w b r xs (crR xs k e)) := by
  have hlt := h.lt
  have hrl := h.rlt
  obtain ⟨w1, hw1⟩ : ∃ w1, w1 = w.alloc (.cells z9.toArray 42) := ⟨_, rfl⟩
  obtain ⟨g2, hg2⟩ : ∃ g, g = w.heap.size := ⟨_, rfl⟩
  have hb1 : Below w.heap.size w w1 := by rw [hw1]; exact (Below.refl _ _).alloc (Nat.le_refl _) _
  have n1 : w1.heap[g2]? = some (.cells z9.toArray 42 (0, 0)) := by rw [hw1, hg2]; exact heap_alloc_new _ _
  have F1 : Fr w w1 b none := by rw [hw1]; exact (Fr.refl _ _ _).alloc _
  have BY := Lib.hid (rbyte_any (h.below (B := 0) hb1) hsz)
  obtain ⟨X, hX⟩ : ∃ X, X = crR xs k e := ⟨_, rfl⟩
  rw [← hX]
  unfold crR at hX
  dsimp only at hX
  obtain ⟨X0, hX0⟩ : ∃ X0, X0 = rb xs k e := ⟨_, rfl⟩
  rw [← hX0] at BY hX
  have hkb : 0 ≤ ((X0.1.toNat : Nat) : Int) ∧ ((X0.1.toNat : Nat) : Int) < 256 := by have := X0.1.toNat_lt; omega
  have ebv : bv X0.1 = .int .u8 (X0.1.toNat : Int) := rfl
  rw [ebv] at BY
  obtain ⟨kd, hkd⟩ : ∃ kd : Int, kd = (X0.1.toNat : Int) := ⟨_, rfl⟩
  rw [← hkd] at BY hX hkb
  obtain ⟨ea, hea⟩ : ∃ ea, ea = fe X0.2.2 (if cKn kd = true then 0 else 9) := ⟨_, rfl⟩
  rw [← hea] at hX
  obtain ⟨ka, hka⟩ : ∃ ka, ka = X0.2.1 := ⟨_, rfl⟩
  rw [← hka] at BY hX
  obtain ⟨e1, he1⟩ : ∃ e1, e1 = X0.2.2 := ⟨_, rfl⟩
  rw [← he1] at BY hea
  obtain ⟨X2, e2⟩ : ∃ X2, X2 = rn xs ka ea 4611686018427387903 := ⟨_, rfl⟩
  rw [← e2] at hX
  obtain ⟨X3, e3⟩ : ∃ X3, X3 = rnI (cA kd) xs X2.2.1 X2.2.2 9223372036854775807 := ⟨_, rfl⟩
  rw [← e3] at hX
  obtain ⟨X4, e4⟩ : ∃ X4, X4 = rnI (cB kd) xs X3.2.1 X3.2.2 9223372036854775807 := ⟨_, rfl⟩
  rw [← e4] at hX
  obtain ⟨X5, e5⟩ : ∃ X5, X5 = rtI (cN kd) xs X4.2.1 X4.2.2 := ⟨_, rfl⟩
  rw [← e5] at hX
  obtain ⟨X7, e7⟩ : ∃ X7, X7 = rdI (cV kd) xs X5.2.1 X5.2.2 := ⟨_, rfl⟩
  rw [← e7] at hX
  have l2 : X2.1 ≤ 4611686018427387903 := by rw [e2]; exact rn_leE _ _ _ _
  have l3 : X3.1 ≤ 9223372036854775807 := by rw [e3]; cases cA kd; exact Nat.zero_le _; exact rn_leE _ _ _ _
  have l4 : X4.1 ≤ 9223372036854775807 := by rw [e4]; cases cB kd; exact Nat.zero_le _; exact rn_leE _ _ _ _
  have l5 : X5.1.length ≤ 140737488355328 := by rw [e5]; cases cN kd; exact Nat.zero_le _; exact Nat.le_trans (rt_len _ _ _) (by decide)
  have KN := Lib.hid (cknown_any kd)
  obtain ⟨kn, hkn⟩ : ∃ kn, kn = cKn kd := ⟨_, rfl⟩
  rw [← hkn] at KN hea
  have HK := hasC kd
  have HFA := Lib.hid HK.a
  have HFB := Lib.hid HK.b
  have HFN := Lib.hid HK.n
  have HFV := Lib.hid HK.v
  have AB := Lib.hid (fun (W : World) (h : CB W.heap.size W) => cabout_any kd (by omega) W h)
  obtain ⟨fa, hfa⟩ : ∃ f, f = cA kd := ⟨_, rfl⟩
  obtain ⟨fb, hfb⟩ : ∃ f, f = cB kd := ⟨_, rfl⟩
  obtain ⟨fn, hfn⟩ : ∃ f, f = cN kd := ⟨_, rfl⟩
  obtain ⟨fv, hfv⟩ : ∃ f, f = cV kd := ⟨_, rfl⟩
  obtain ⟨F, hF⟩ : ∃ F, F = shK kd := ⟨_, rfl⟩
  rw [← hF] at AB
  rw [← hF, ← hfa] at HFA
  rw [← hF, ← hfb] at HFB
  rw [← hF, ← hfn] at HFN
  rw [← hF, ← hfv] at HFV
  rw [← hfa] at e3
  rw [← hfb] at e4
  rw [← hfn] at e5
  rw [← hfv] at e7
  obtain ⟨t2, k2, q2⟩ := X2
  obtain ⟨a3, k3, q3⟩ := X3
  obtain ⟨a4, k4, q4⟩ := X4
  obtain ⟨s5, k5, q5⟩ := X5
  obtain ⟨v7, k7, q7⟩ := X7
  dsimp only at e2 e3 e4 e5 e7 l2 l3 l4 l5 hX
  have N1 := Lib.hid n1
  have HF1 := Lib.hid F1
  have HE := Lib.hid he
  have HX := Lib.hid hX
  have E2 := Lib.hid e2
  have E3 := Lib.hid e3
  have E4 := Lib.hid e4
  have E5 := Lib.hid e5
  have E7 := Lib.hid e7
  have HEA := Lib.hid hea
  have HW1 := Lib.hid (show w1 = w.alloc (.cells #[.int .i64 0, .int .i64 0, .int .i64 0, .int .i64 0, .string ⟨#[]⟩, .int .i64 0, .int .i64 0, .string ⟨#[]⟩, .slice none 0 0] 42) from hw1)
  have HG2 := Lib.hid hg2
  have HL := Lib.hid (show b < w.heap.size ∧ w.heap.size ≤ g2 ∧ g2 < w1.heap.size ∧ w.heap.size ≤ w1.heap.size from ⟨hlt, by omega, lt_of_rowK n1, hb1.size⟩)
  have HRL := Lib.hid hrl
  have HSZ := Lib.hid hsz
  have HNB := Lib.hid hNb
  have LS := Lib.hid (show t2 ≤ 4611686018427387903 ∧ a3 ≤ 9223372036854775807 ∧ a4 ≤ 9223372036854775807 ∧ s5.length ≤ 140737488355328 ∧ 0 ≤ kd ∧ kd < 256 from ⟨l2, l3, l4, l5, hkb.1, hkb.2⟩)
  have SBL := Lib.hid (show (Tryz.prog.info? 42).map (·.size) = some (lit9 kd).size by kernel_rfl)
  have ONL := Lib.hid (show (lit9 kd).all (·.oneCell') = true by rw [← kC_cells]; exact (kC kd).cells_one)
  clear hlt hrl hw1 hg2 hb1 n1 h hX0 hkd hea hka F1 he hX e2 e3 e4 e5 e7 l2 l3 l4 l5 hsz hNb hkn hfa hfb hfn hfv hF HK he1 ebv
  go_enter Tryz.func78, Tryz.ntmps78
  go_upto_region 1 with fail
  rw [← HW1.out, ← HG2.out]
  go_wp2_with fail
  refine BY.out.mono ?_
  rintro q w2 ⟨rfl, hR2, hF2⟩
  obtain ⟨w3, hw3⟩ : ∃ w3, w3 = w2.alloc (.cells (lit9 kd) 42) := ⟨_, rfl⟩
  obtain ⟨g3, hg3⟩ : ∃ g, g = w2.heap.size := ⟨_, rfl⟩
  have hb3 : Below w2.heap.size w2 w3 := by rw [hw3]; exact (Below.refl _ _).alloc (Nat.le_refl _) _
  have row3 : CmRow w3 g3 (kC kd) := by rw [hw3, hg3]; exact heap_alloc_new _ _
  have n3 : w3.heap[g2]? = some (.cells z9.toArray 42 (0, 0)) := by
    have hl := HL.out
    have n2 := (hF2.block g2 hl.2.2.1 (by omega) (fun e => by cases e)).trans N1.out
    exact (hb3.block g2 (lt_of_rowK n2)).trans n2
  have hF3 : Fr w w3 b none := by rw [hw3]; exact (HF1.out.trans (Or.inl rfl) hF2).alloc _
  have hl5 : g2 < g3 ∧ b < g3 := by
    have hl := HL.out; have := hF2.size; omega
  have S3 := Lib.hid (show CfS w3 b g3 r xs ka e1 (kC kd) w3 from ⟨hR2.below (B := 0) hb3, row3, Fr2.reflE _ _ _⟩)
  have HF3 := Lib.hid hF3
  have N3 := Lib.hid n3
  have HL5 := Lib.hid hl5
  have HW3 := Lib.hid hw3
  have HG3 := Lib.hid hg3
  have G3B := Lib.hid (show g3 ≠ b by omega)
  have G3R := Lib.hid (show ∀ q, r = some q → q ≠ g3 from fun q hq => by have := HRL.out q hq; have := HL.out; omega)
  have c0 := (cmC row3).c0
  have hkb1 := hkb.1
  have hkb2 := hkb.2
  clear hR2 hF2 hw3 hg3 hb3 row3 n3 hF3 hl5 hkb
  go_upto_region 2 with (with_reducible show wpList _ _ _ _ _ _; refine wpList_store_newW rfl 42 (.tmp 3) (.tmp 8) rfl 42 _ (lit9 kd) rfl rfl SBL.out rfl ONL.out ?_)
  rw [← HW3.out, ← HG3.out]
  have c0 : w3.cell? ⟨g3, 0, none⟩ = some (.int .i64 kd) := c0
  go_upto_if 12 with (refine (KN.out _).mono ?_; rintro q wz ⟨rfl, hwz⟩; have hwz2 := hwz.symm; subst hwz2; clear hwz)
  go_cut [] (fun wx => CfS w3 b g3 r xs ka ea (kC kd) wx)
  case first =>
    cases kn
    · have FA := Lib.hid (fail_any S3.out.rd 9)
      have he : ea = fe e1 9 := HEA.out
      rw [← he] at FA
      clear he
      go_wp2_with fail
      refine FA.out.mono ?_
      rintro q w4 ⟨rfl, hR4, hF4⟩
      have RL := Lib.hid (S3.out.next G3B.out hR4 hF4)
      clear hR4 hF4
      go_wp2_with fail
      go_meet
      all_goals exact RL.out
    · obtain rfl : ea = e1 := by rw [HEA.out]; exact fe_z _
      go_wp2_with fail
      go_meet
      all_goals exact S3.out
  case rest =>
    obtain ⟨w4, rfl⟩ : ∃ wd : World, wd = wc := ⟨_, rfl⟩
    have S4 := Lib.hid hcut
    clear hcut c0 S3
    have c0 : w4.cell? ⟨g3, 0, none⟩ = some (.int .i64 kd) := (cmC S4.out.row).c0
    have HF4 := Lib.hid (Fr2.toFr HF3.out S4.out.fr (by have := HL.out; have := HL5.out; omega))
    have BN4 := Lib.hid (show Below N w w4 from fr_new (Below.refl _ _) (by have := HL.out; have := HNB.out; omega) HF4.out HNB.out (fun g hg => by cases hg))
    have ABx := Lib.hid (AB.out w4 ((HE.out.on BN4.out).base (by have := BN4.out.size; have := HL.out; have := HNB.out; have := HF4.out.size; omega)))
    have N4 := Lib.hid ((S4.out.fr.block g2 (lt_of_rowK N3.out) (by have := HL.out; omega) (by have := HL5.out; omega)).trans N3.out)
    go_wp2_with fail
    refine ABx.out.mono ?_
    rintro q w5 ⟨rfl, hb5⟩
    obtain ⟨w6, hw6⟩ : ∃ bx, bx = w5.alloc (.cells F.cells.toArray 87) := ⟨_, rfl⟩
    obtain ⟨g6, hg6⟩ : ∃ bx, bx = w5.heap.size := ⟨_, rfl⟩
    have bw6 : Below w5.heap.size w5 w6 := by rw [hw6]; exact (Below.refl _ _).alloc (Nat.le_refl _) _
    have nw6 : w6.heap[g6]? = some (.cells F.cells.toArray 87 (0, 0)) := by rw [hw6, hg6]; exact heap_alloc_new _ _
    have Kw6 := Lib.hid (rowS nw6)
    have Hw6 := Lib.hid hw6
    have Hg6 := Lib.hid hg6
    have Bw6 := Lib.hid bw6
    have Nw6 := Lib.hid nw6
    clear hw6 hg6 bw6 nw6
    have B46 := Lib.hid (hb5.trans (Bw6.out.mono hb5.size))
    have N6 := Lib.hid ((B46.out.block g2 (lt_of_rowK N4.out)).trans N4.out)
    have S6a := S4.out.beyond B46.out
    have HF6 := Lib.hid (Fr2.toFr HF3.out S6a.fr (by have := HL.out; have := HL5.out; omega))
    have S6 := Lib.hid (show CfS w6 b g3 r xs ka ea (kC kd) w6 from ⟨S6a.rd, S6a.row, Fr2.reflE _ _ _⟩)
    have KF := Lib.hid (show ∀ W, Fr2 w6 W b g3 → ∀ (j : Nat) u, F.cells[j]? = some u → W.cell? ((⟨g6, 0, none⟩ : Addr).add j) = some u from fun W hf => by
      have h6 := Hg6.out
      have s4 := lt_of_rowK S4.out.row
      have s5 := hb5.size
      have l4 := S4.out.rd.lt
      exact rowS ((hf.block g6 (lt_of_rowK Nw6.out) (by omega) (by omega)).trans Nw6.out))
    clear hb5 S6a c0 S4
    go_upto_region 5 with (with_reducible show wpList _ _ _ _ _ _; refine wpList_store_newW rfl 87 (.tmp 4) (.tmp 17) rfl 87 _ F.cells.toArray rfl rfl (Tryz.shSize' F) (by with_unfolding_all exact Sh.three F) F.cells_one ?_; rw [← Hw6.out, ← Hg6.out])
    have NT := Lib.hid (rnum_any S6.out.rd HSZ.out 4611686018427387903 (by decide))
    rw [← E2.out] at NT
    go_wp2_with fail
    refine NT.out.mono ?_
    rintro q w7 ⟨rfl, hR, hF⟩
    dsimp only at hR ⊢
    have cS := S6.out.next G3B.out hR hF
    have fz := cS.row.frz 1
    have cc := (cmC cS.row).c1
    have S7 := Lib.hid (cS.setc G3B.out G3R.out (cS.row.setTime (t2 : Int)))
    have bn : t2 ≤ 4611686018427387903 := LS.out.1
    have bn2 : (t2 : Int) < 9223372036854775808 := by omega
    clear hR hF cS NT S6
    go_upto_region 6 with fail
    clear fz cc bn bn2
    obtain ⟨w8, hw8⟩ : ∃ w8, w8 = w7.setCell ⟨g3, 1, none⟩ (.int .i64 (t2 : Int)) := ⟨_, rfl⟩
    rw [← hw8] at S7 ⊢
    clear hw8
    have S8 := Lib.hid (show CfS w6 b g3 r xs k2 q2 ⟨kd, (t2 : Int), 0, 0, [], zV⟩ w8 from S7.out)
    clear S7
    have kf := Lib.hid (KF.out w8 S8.out.fr)
    go_upto_if 23 with (first | (with_reducible show wpList _ _ _ _ _ _; refine wpList_load_allW rfl 87 (.tmp 4) rfl ⟨g6,0,none⟩ rfl F.cells _ kf.out Tryz.underlying87 rfl (Tryz.shSize F) ?_) | (with_reducible refine (HFA.out _).mono ?_; rintro _ uA ⟨rfl, huA⟩))
    have DA := Lib.hid (S8.out.beyond huA)
    clear kf huA S8
    go_cut [] (fun wx => CfS w6 b g3 r xs k3 q3 ⟨kd, (t2 : Int), (a3 : Int), 0, [], zV⟩ wx)
    case first =>
      cases fa
      · have RL := Lib.hid (show CfS w6 b g3 r xs k3 q3 ⟨kd, (t2 : Int), (a3 : Int), 0, [], zV⟩ uA from by
          have h := E3.out
          injection h with h1 h2
          injection h2 with h2 h3
          subst h1 h2 h3
          exact DA.out)
        go_wp2_with fail
        go_meet
        all_goals exact RL.out
      · have NT := Lib.hid (rnum_any DA.out.rd HSZ.out 9223372036854775807 (by decide))
        have he : (a3, k3, q3) = rn xs k2 q2 9223372036854775807 := E3.out
        rw [← he] at NT
        have bn : a3 ≤ 9223372036854775807 := LS.out.2.1
        clear he
        go_wp2_with fail
        refine NT.out.mono ?_
        rintro en wy ⟨rfl, hR, hF⟩
        dsimp only at hR ⊢
        have cS := DA.out.next G3B.out hR hF
        have fz := cS.row.frz 2
        have cc := (cmC cS.row).c2
        have RL := Lib.hid (cS.setc G3B.out G3R.out (cS.row.setA (a3 : Int)))
        have bn2 : (a3 : Int) < 9223372036854775808 := by omega
        clear hR hF cS NT
        go_wp2_with fail
        go_meet
        all_goals exact RL.out
    case rest =>
      obtain ⟨vA, rfl⟩ : ∃ wd : World, wd = wc := ⟨_, rfl⟩
      have SA := Lib.hid hcut
      clear hcut DA
      have kf := Lib.hid (KF.out vA SA.out.fr)
      go_upto_if 29 with (first | (with_reducible show wpList _ _ _ _ _ _; refine wpList_load_allW rfl 87 (.tmp 4) rfl ⟨g6,0,none⟩ rfl F.cells _ kf.out Tryz.underlying87 rfl (Tryz.shSize F) ?_) | (with_reducible refine (HFB.out _).mono ?_; rintro _ uB ⟨rfl, huB⟩))
      have DB := Lib.hid (SA.out.beyond huB)
      clear kf huB SA
      go_cut [] (fun wx => CfS w6 b g3 r xs k4 q4 ⟨kd, (t2 : Int), (a3 : Int), (a4 : Int), [], zV⟩ wx)
      case first =>
        cases fb
        · have RL := Lib.hid (show CfS w6 b g3 r xs k4 q4 ⟨kd, (t2 : Int), (a3 : Int), (a4 : Int), [], zV⟩ uB from by
            have h := E4.out
            injection h with h1 h2
            injection h2 with h2 h3
            subst h1 h2 h3
            exact DB.out)
          go_wp2_with fail
          go_meet
          all_goals exact RL.out
        · have NT := Lib.hid (rnum_any DB.out.rd HSZ.out 9223372036854775807 (by decide))
          have he : (a4, k4, q4) = rn xs k3 q3 9223372036854775807 := E4.out
          rw [← he] at NT
          have bn : a4 ≤ 9223372036854775807 := LS.out.2.2.1
          clear he
          go_wp2_with fail
          refine NT.out.mono ?_
          rintro en wy ⟨rfl, hR, hF⟩
          dsimp only at hR ⊢
          have cS := DB.out.next G3B.out hR hF
          have fz := cS.row.frz 3
          have cc := (cmC cS.row).c3
          have RL := Lib.hid (cS.setc G3B.out G3R.out (cS.row.setB (a4 : Int)))
          have bn2 : (a4 : Int) < 9223372036854775808 := by omega
          clear hR hF cS NT
          go_wp2_with fail
          go_meet
          all_goals exact RL.out
      case rest =>
        obtain ⟨vB, rfl⟩ : ∃ wd : World, wd = wc := ⟨_, rfl⟩
        have SB := Lib.hid hcut
        clear hcut DB
        have kf := Lib.hid (KF.out vB SB.out.fr)
        go_upto_if 35 with (first | (with_reducible show wpList _ _ _ _ _ _; refine wpList_load_allW rfl 87 (.tmp 4) rfl ⟨g6,0,none⟩ rfl F.cells _ kf.out Tryz.underlying87 rfl (Tryz.shSize F) ?_) | (with_reducible refine (HFN.out _).mono ?_; rintro _ uN ⟨rfl, huN⟩))
        have DN := Lib.hid (SB.out.beyond huN)
        clear kf huN SB
        go_cut [] (fun wx => CfS w6 b g3 r xs k5 q5 ⟨kd, (t2 : Int), (a3 : Int), (a4 : Int), s5, zV⟩ wx)
        case first =>
          cases fn
          · have RL := Lib.hid (show CfS w6 b g3 r xs k5 q5 ⟨kd, (t2 : Int), (a3 : Int), (a4 : Int), s5, zV⟩ uN from by
              have h := E5.out
              injection h with h1 h2
              injection h2 with h2 h3
              subst h1 h2 h3
              exact DN.out)
            go_wp2_with fail
            go_meet
            all_goals exact RL.out
          · have NT := Lib.hid (rtext_any DN.out.rd HSZ.out)
            have he : (s5, k5, q5) = rt xs k4 q4 := E5.out
            rw [← he] at NT
            clear he
            go_wp2_with fail
            refine NT.out.mono ?_
            rintro en wy ⟨rfl, hR, hF⟩
            dsimp only at hR ⊢
            have cS := DN.out.next G3B.out hR hF
            have fz := cS.row.frz 4
            have cc := (cmC cS.row).c4
            have RL := Lib.hid (cS.setc G3B.out G3R.out (cS.row.setN s5))
            clear hR hF cS NT
            go_wp2_with fail
            go_meet
            all_goals exact RL.out
        case rest =>
          obtain ⟨vN, rfl⟩ : ∃ wd : World, wd = wc := ⟨_, rfl⟩
          have SN := Lib.hid hcut
          clear hcut DN
          have kf := Lib.hid (KF.out vN SN.out.fr)
          go_upto_if 40 with (first | (with_reducible show wpList _ _ _ _ _ _; refine wpList_load_allW rfl 87 (.tmp 4) rfl ⟨g6,0,none⟩ rfl F.cells _ kf.out Tryz.underlying87 rfl (Tryz.shSize F) ?_) | (with_reducible refine (HFV.out _).mono ?_; rintro _ uV ⟨rfl, huV⟩))
          have DV := Lib.hid (SN.out.beyond huV)
          clear kf huV SN
          go_cut [] (fun wx => ∃ y : VT, y.nz = v7 ∧ y.At wx.heap.size wx ∧ y.In (fun q => w6.heap.size ≤ q) ∧ CfS w6 b g3 r xs k7 q7 ⟨kd, (t2 : Int), (a3 : Int), (a4 : Int), s5, y⟩ wx)
          case first =>
            cases fv
            · have RL := Lib.hid (show ∃ y : VT, y.nz = v7 ∧ y.At uV.heap.size uV ∧ y.In (fun q => w6.heap.size ≤ q) ∧ CfS w6 b g3 r xs k7 q7 ⟨kd, (t2 : Int), (a3 : Int), (a4 : Int), s5, y⟩ uV from by
                have h := E7.out
                injection h with h1 h2
                injection h2 with h2 h3
                subst h1 h2 h3
                exact ⟨zV, zV_nz, mk0_at (by decide) (by decide) (by decide), mk0_in, DV.out⟩)
              go_wp2_with fail
              go_meet
              all_goals exact RL.out
            · have NT := Lib.hid (vread_any DV.out.rd HSZ.out)
              have he : (v7, k7, q7) = rdV xs k5 q5 := E7.out
              rw [← he] at NT
              clear he
              go_wp2_with fail
              refine NT.out.mono ?_
              rintro en wy ⟨y, rfl, hyz, hya, hyi, hR, hF⟩
              dsimp only at hR hyz ⊢
              have cS := DV.out.next G3B.out hR hF
              have TH := Lib.hid (cS.row.there y)
              have RL := Lib.hid (show ∃ z : VT, z.nz = v7 ∧ z.At (wy.setCells g3 5 y.cells).heap.size (wy.setCells g3 5 y.cells) ∧ z.In (fun q => w6.heap.size ≤ q) ∧ CfS w6 b g3 r xs k7 q7 ⟨kd, (t2 : Int), (a3 : Int), (a4 : Int), s5, z⟩ (wy.setCells g3 5 y.cells) from by
                refine ⟨y, hyz, ?_, hyi.imp fun q hq => Nat.le_trans DV.out.fr.size hq, ⟨cS.rd.keep (setCells_otherE g3 b (Ne.symm G3B.out) _ _ _) (fun q hq => setCells_otherE g3 q (G3R.out q hq) _ _ _), cS.row.setV y, cS.fr.setCells 5 _⟩⟩
                have hkeep : y.At wy.heap.size (wy.setCells g3 5 y.cells) := hya.keepT hyi (fun q _ h2 => setCells_otherE g3 q (by have := DV.out.row.lt; omega) _ _ _)
                exact hkeep.mono (by have := (Fr2.reflE wy b g3).setCells 5 y.cells; exact this.size))
              clear hyz hya hyi hR hF cS NT
              go_wp2_with (with_reducible show wpList _ _ _ _ _ _; refine wpList_store_mid rfl 26 (.tmp 43) (.tmp 42) rfl g3 5 y.cells.toArray rfl rfl TH.out (Tryz.valSize' y) y.cells_one ?_)
              go_meet
              all_goals exact RL.out
          case rest =>
            obtain ⟨w9, rfl⟩ : ∃ wd : World, wd = wc := ⟨_, rfl⟩
            obtain ⟨y, hyz, hya, hyi, hS9⟩ := hcut
            obtain ⟨Y, hY⟩ : ∃ Y : Cm, Y = ⟨kd, (t2 : Int), (a3 : Int), (a4 : Int), s5, y⟩ := ⟨_, rfl⟩
            have S9 := Lib.hid (show CfS w6 b g3 r xs k7 q7 Y w9 from by rw [hY]; exact hS9)
            have hx := HX.out
            have ey : (⟨kd, (t2 : Int), (a3 : Int), (a4 : Int), s5, v7⟩ : Cm) = Y.nz := by
              rw [hY, ← hyz]; rfl
            rw [ey, Cm.nz_vE] at hx
            have HX9 := Lib.hid hx
            have YA := Lib.hid (show Y.At w9.heap.size w9 by
              have l := LS.out
              rw [hY]
              exact ⟨by dsimp only; omega, by dsimp only; omega, by dsimp only; omega, by dsimp only; omega, by dsimp only; omega, hya⟩)
            have YI := Lib.hid (show Y.val.In (w6.heap.size ≤ ·) by rw [hY]; exact hyi)
            obtain ⟨ve, hve⟩ : ∃ ve, ve = Y.vE := ⟨_, rfl⟩
            rw [← hve] at HX9
            have HVE := Lib.hid hve
            have B6 := Lib.hid (show g2 < w6.heap.size ∧ w.heap.size ≤ w6.heap.size from by
              have := lt_of_rowK N6.out; have := HF6.out.size; omega)
            clear hyz hya hyi hS9 hx ey hY hve DV HX LS
            have ER := Lib.hid (err_any S9.out.rd)
            have N9 := Lib.hid ((S9.out.fr.block g2 (lt_of_rowK N6.out) (by have := HL.out; omega) (by have := HL5.out; omega)).trans N6.out)
            have F9 := Lib.hid (Fr2.toFr HF6.out S9.out.fr (by have := HL.out; have := HL5.out; omega))
            go_wp2_with fail
            refine ER.out.mono ?_
            rintro q wq ⟨rfl, hq⟩
            subst hq
            by_cases h0 : q7 = 0
            · subst h0
              have KY := Lib.hid (rowC S9.out.row)
              have b9 : Below N w w9 := fr_new (Below.refl _ _) (by have := HL.out; have := HNB.out; omega) F9.out HNB.out (fun g hg => by cases hg)
              have CK := Lib.hid (ccheck_any Y w9.heap.size w9 YA.out (Nat.le_refl _) ((HE.out.on b9).base (by have := F9.out.size; have := HL.out; have := HNB.out; omega)))
              rw [← HVE.out] at CK
              clear b9
              go_wp2_with (with_reducible show wpList _ _ _ _ _ _; refine wpList_load_allW rfl 42 (.tmp 3) rfl ⟨g3,0,none⟩ rfl Y.cells _ KY.out Tryz.underlying42 rfl (Tryz.cmSize Y) ?_)
              refine CK.out.mono ?_
              rintro q w10 ⟨rfl, hb10⟩
              have FA := Lib.hid (fail_any (S9.out.rd.below (B := 0) hb10) ve)
              rw [show fe 0 ve = ve from rfl] at FA
              have F10 := Lib.hid (show Fr w w10 b none from F9.out.trans (Or.inl rfl) ⟨hb10.os, hb10.tape, hb10.output, hb10.size, fun q hq _ _ => hb10.block q hq⟩)
              have N10 := Lib.hid ((hb10.block g2 (lt_of_rowK N9.out)).trans N9.out)
              have R10 := Lib.hid (show CmRow w10 g3 Y from (hb10.block g3 S9.out.row.lt).trans S9.out.row)
              have A10 := Lib.hid ((YA.out.below hb10).mono hb10.size)
              clear hb10
              go_wp2_with fail
              refine FA.out.mono ?_
              rintro q w11 ⟨rfl, hR11, hF11⟩
              have N11 := Lib.hid ((hF11.block g2 (lt_of_rowK N10.out) (by have := HL.out; omega) (fun e => by cases e)).trans N10.out)
              have R11 := Lib.hid (show CmRow w11 g3 Y from (hF11.block g3 R10.out.lt G3B.out (fun e => by cases e)).trans R10.out)
              have A11 := Lib.hid (show Y.At w11.heap.size w11 from ⟨A10.out.kind, A10.out.time, A10.out.a, A10.out.b, A10.out.name, (A10.out.val.keepT YI.out (fun q h1 h2 => hF11.block q h1 (by have := B6.out; have := HL.out; omega) (fun e => by cases e))).mono hF11.size⟩)
              have F11 := Lib.hid (F10.out.trans (Or.inl rfl) hF11)
              have hl := HL.out
              have RL := Lib.hid (rdc_end (X := X) (y := Y) (by rw [HX9.out]; rfl) hR11 F11.out A11.out YI.out B6.out.1 B6.out.2 hl.2.1 hl.1 HRL.out)
              have K11 := Lib.hid (rowC R11.out)
              clear hR11 hF11 hl
              go_wp2_with (first
                | (with_reducible show wpList _ _ _ _ _ _; refine wpList_load_allW rfl 42 (.tmp 3) rfl ⟨g3,0,none⟩ rfl Y.cells _ K11.out Tryz.underlying42 rfl (Tryz.cmSize Y) ?_)
                | ((with_reducible show wpList _ _ _ _ _ _; refine wpList_store_whole rfl 42 (.tmp 2) (.tmp 51) rfl g2 42 z9.toArray Y.cells.toArray (by with_unfolding_all rfl) (by with_unfolding_all rfl) N11.out (Tryz.cmSize' Y) (Cm.nineZ Y) Y.cells_one ?_) ; generalize hwz : World.setRow w11 g2 Y.cells.toArray = wz))
              subst hwz
              refine bodyPost_ret (results_cell_row rfl _ _ g2 42 Y.cells.toArray (0, 0) _ rfl (setRow_heap _ g2 _ _ _ _ N11.out) Tryz.underlying42 rfl (Tryz.cmSize' Y)) rfl ?_
              exact RL.out
            · have hl := HL.out
              have RL := Lib.hid (rdc_end (X := X) (y := Y) (by rw [HX9.out, fe_yes h0]) S9.out.rd F9.out YA.out YI.out B6.out.1 B6.out.2 hl.2.1 hl.1 HRL.out)
              have K9 := Lib.hid (rowC S9.out.row)
              have h1 : (q7 == 0) = false := by simpa using h0
              clear hl
              go_wp2_with (first
                | (with_reducible show wpList _ _ _ _ _ _; refine wpList_load_allW rfl 42 (.tmp 3) rfl ⟨g3,0,none⟩ rfl Y.cells _ K9.out Tryz.underlying42 rfl (Tryz.cmSize Y) ?_)
                | ((with_reducible show wpList _ _ _ _ _ _; refine wpList_store_whole rfl 42 (.tmp 2) (.tmp 51) rfl g2 42 z9.toArray Y.cells.toArray (by with_unfolding_all rfl) (by with_unfolding_all rfl) N9.out (Tryz.cmSize' Y) (Cm.nineZ Y) Y.cells_one ?_) ; generalize hwz : World.setRow w9 g2 Y.cells.toArray = wz))
              subst hwz
              refine bodyPost_ret (results_cell_row rfl _ _ g2 42 Y.cells.toArray (0, 0) _ rfl (setRow_heap _ g2 _ _ _ _ N9.out) Tryz.underlying42 rfl (Tryz.cmSize' Y)) rfl ?_
              exact RL.out
end Go.Proofs.YtnfobnnbeefeeaaGreatDoor.Wi
