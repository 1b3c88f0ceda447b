/- readFields. -/
import Derived.Test.YtnfobnnbeefeeaaGreatDoorGK
import Derived.Deep.MidRow
namespace Go.Proofs.YtnfobnnbeefeeaaGreatDoor.Wi
open Go Go.RowKit
set_option linter.unusedVariables false
set_option linter.unusedSimpArgs false
def EvRow (w : World) (g : Nat) (x : Ev) : Prop := w.heap[g]? = some (.cells x.cells.toArray 28 (0, 0))
theorem EvRow.setA {w : World} {g : Nat} {x : Ev} (h : EvRow w g x) (n : Int) : EvRow (w.setCell ⟨g, 3, none⟩ (.int .i64 n)) g { x with a := n } := Go.Joins.block_setCell (i := 3) h _
theorem EvRow.setB {w : World} {g : Nat} {x : Ev} (h : EvRow w g x) (n : Int) : EvRow (w.setCell ⟨g, 4, none⟩ (.int .i64 n)) g { x with b := n } := Go.Joins.block_setCell (i := 4) h _
theorem EvRow.setN {w : World} {g : Nat} {x : Ev} (h : EvRow w g x) (s : List UInt8) : EvRow (w.setCell ⟨g, 5, none⟩ (.string (str s))) g { x with name := s } := Go.Joins.block_setCell (i := 5) h _
theorem EvRow.setT {w : World} {g : Nat} {x : Ev} (h : EvRow w g x) (s : List UInt8) : EvRow (w.setCell ⟨g, 6, none⟩ (.string (str s))) g { x with text := s } := Go.Joins.block_setCell (i := 6) h _
theorem EvRow.setId {w : World} {g : Nat} {x : Ev} (h : EvRow w g x) (n : Int) : EvRow (w.setCell ⟨g, 0, none⟩ (.int .i64 n)) g { x with id := n } := Go.Joins.block_setCell (i := 0) h _
theorem EvRow.setTime {w : World} {g : Nat} {x : Ev} (h : EvRow w g x) (n : Int) : EvRow (w.setCell ⟨g, 1, none⟩ (.int .i64 n)) g { x with time := n } := Go.Joins.block_setCell (i := 1) h _
theorem EvRow.setV {w : World} {g : Nat} {x : Ev} (h : EvRow w g x) (y : VT) : EvRow (w.setCells g 7 y.cells) g { x with val := y } := by
  obtain ⟨yk, yn, ys, ya, yc, yl⟩ := y
  obtain ⟨x1, x2, x3, x4, x5, x6, x7, xv⟩ := x
  obtain ⟨vk, vn, vs, va, vc, vl⟩ := xv
  unfold VT.cells
  rw [World.setCells, World.setCells, World.setCells, World.setCells, World.setCells]
  exact Go.Joins.block_setCell (i := 10) (Go.Joins.block_setCell (i := 9) (Go.Joins.block_setCell (i := 8) (Go.Joins.block_setCell (i := 7) h _) _) _) _
theorem EvRow.there {w : World} {g : Nat} {x : Ev} (h : EvRow w g x) (y : VT) : w.there g 7 y.cells.toArray.size := by
  rw [List.size_toArray, y.cells_len]
  intro j hj
  refine ⟨?_, frozen_of_row w g _ _ _ h⟩
  rw [cell_of_rowW w g _ _ _ _ h, List.getElem?_toArray, List.getElem?_eq_getElem (by rw [x.cells_len]; omega)]
  rfl
theorem EvRow.frz {w : World} {g : Nat} {x : Ev} (h : EvRow w g x) (i : Nat) : w.frozen? ⟨g, i, none⟩ = false := frozen_of_row w g i _ _ h
theorem EvRow.lt {w : World} {g : Nat} {x : Ev} (h : EvRow w g x) : g < w.heap.size := lt_of_rowW h
theorem setCells_otherE (b k : Nat) (hk : k ≠ b) : ∀ (vs : List Value) (o : Nat) (w : World), (w.setCells b o vs).heap[k]? = w.heap[k]?
  | [], o, w => rfl
  | v :: vs, o, w => by rw [World.setCells, setCells_otherE b k hk vs]; exact Below.heap_setCell w ⟨b, o, none⟩ v k hk
theorem Fr2.setCells {w w' : World} {b g : Nat} (h : Fr2 w w' b g) (o : Nat) (vs : List Value) : Fr2 w (w'.setCells g o vs) b g := by
  have key : ∀ (vs : List Value) (o : Nat) (w' : World), (w'.setCells g o vs).os = w'.os ∧ (w'.setCells g o vs).tape = w'.tape ∧ (w'.setCells g o vs).output = w'.output ∧ (w'.setCells g o vs).heap.size = w'.heap.size := by
    intro vs
    induction vs with
    | nil => intro o w'; exact ⟨rfl, rfl, rfl, rfl⟩
    | cons v vs ih =>
      intro o w'
      rw [World.setCells]
      obtain ⟨a, b, c, d⟩ := ih (o + 1) (w'.setCell ⟨g, o, none⟩ v)
      exact ⟨a.trans rfl, b.trans rfl, c.trans rfl, d.trans (by simp)⟩
  obtain ⟨a, b', c, d⟩ := key vs o w'
  exact ⟨a.trans h.os, b'.trans h.tape, c.trans h.output, d ▸ h.size, fun k hk h1 h2 => (setCells_otherE g k h2 vs o w').trans (h.block k hk h1 h2)⟩
theorem Fr2.set {w w' : World} {b g : Nat} (h : Fr2 w w' b g) (o : Nat) (v : Value) : Fr2 w (w'.setCell ⟨g, o, none⟩ v) b g := by
  have := h.setCells o [v]
  rwa [World.setCells, World.setCells] at this
theorem Fr2.frE {w w1 w2 : World} {b g : Nat} (h : Fr2 w w1 b g) (f : Fr w1 w2 b none) : Fr2 w w2 b g :=
  ⟨f.os.trans h.os, f.tape.trans h.tape, f.output.trans h.output, Nat.le_trans h.size f.size, fun k hk h1 h2 => (f.block k (Nat.lt_of_lt_of_le hk h.size) h1 (fun e => by cases e)).trans (h.block k hk h1 h2)⟩
theorem Fr2.reflE (w : World) (b g : Nat) : Fr2 w w b g := ⟨rfl, rfl, rfl, Nat.le_refl _, fun _ _ _ _ => rfl⟩
theorem rn_leE (xs : List UInt8) (k : Nat) (e : Int) (most : Nat) : (rn xs k e most).1 ≤ most := by
  unfold rn
  dsimp only
  by_cases hm : most < (dg 10 xs k e 0 0).1
  · rw [if_pos hm, if_neg]
    · exact Nat.zero_le _
    · unfold fe
      by_cases h2 : (dg 10 xs k e 0 0).2.2 = 0
      · rw [if_pos h2]; decide
      · rw [if_neg h2]; exact h2
  · rw [if_neg hm]
    by_cases h2 : (dg 10 xs k e 0 0).2.2 = 0
    · rw [if_pos h2]; omega
    · rw [if_neg h2]; exact Nat.zero_le _
/-- What the reader and the event are. -/
structure RfS (w : World) (b g : Nat) (r : Option Nat) (xs : List UInt8) (k : Nat) (e : Int) (x : Ev) (wx : World) : Prop where
  rd : Rd wx b r xs k e
  row : EvRow wx g x
  fr : Fr2 w wx b g
theorem RfS.setc {w : World} {b g : Nat} {r : Option Nat} {xs : List UInt8} {k : Nat} {e : Int} {x y : Ev} {wx : World} {o : Nat} {v : Value} (h : RfS w b g r xs k e x wx) (hbg : g ≠ b) (hrg : ∀ q, r = some q → q ≠ g) (hy : EvRow (wx.setCell ⟨g, o, none⟩ v) g y) : RfS w b g r xs k e y (wx.setCell ⟨g, o, none⟩ v) :=
  ⟨h.rd.keep (Below.heap_setCell wx ⟨g, o, none⟩ v b (Ne.symm hbg)) (fun q hq => Below.heap_setCell wx ⟨g, o, none⟩ v q (hrg q hq)), hy, h.fr.set o v⟩
theorem RfS.next {w : World} {b g : Nat} {r : Option Nat} {xs : List UInt8} {k k2 : Nat} {e e2 : Int} {x : Ev} {wx wy : World} (h : RfS w b g r xs k e x wx) (hbg : g ≠ b) (hR : Rd wy b r xs k2 e2) (hF : Fr wx wy b none) : RfS w b g r xs k2 e2 x wy :=
  ⟨hR, (hF.block g h.row.lt hbg (fun e => by cases e)).trans h.row, h.fr.frE hF⟩
def RfPost (w : World) (b g : Nat) (r : Option Nat) (xs : List UInt8) (x : Ev) (X : VT × Nat × Int) (en : Ending) (w' : World) : Prop :=
  en = .returned (.tuple #[]) ∧ ∃ y : VT, y.nz = X.1 ∧ y.At w'.heap.size w' ∧ y.In (fun q => w.heap.size ≤ q) ∧ RfS w b g r xs X.2.1 X.2.2 { x with val := y } w'
set_option maxHeartbeats 16000000 in
set_option maxRecDepth 100000 in
theorem rfields_any {w : World} {b g : Nat} {r : Option Nat} {xs : List UInt8} {k : Nat} {e : Int} {x : Ev} (h : Rd w b r xs k e) (hrow : EvRow w g x) (hgb : g ≠ b) (hrg : ∀ q, r = some q → q ≠ g) (hsz : xs.length ≤ 140737488355328) (hkd : -9223372036854775808 ≤ x.kind ∧ x.kind ≤ 9223372036854775807)
    (h0a : x.a = 0) (h0b : x.b = 0) (h0n : x.name = []) (h0t : x.text = []) (h0v : x.val = zV) (hm : ∃ m, w.cell? ⟨2, 0, none⟩ = some (.int .i64 m))
    (X3 X4 : Nat × Nat × Int) (X5 X6 : List UInt8 × Nat × Int) (X7 : VT × Nat × Int)
    (e3 : X3 = rnI (eA x.kind) xs k e 9223372036854775807) (e4 : X4 = rnI (eB x.kind) xs X3.2.1 X3.2.2 9223372036854775807) (e5 : X5 = rtI (eN x.kind) xs X4.2.1 X4.2.2) (e6 : X6 = rtI (eT x.kind) xs X5.2.1 X5.2.2) (e7 : X7 = rdI (eV x.kind) xs X6.2.1 X6.2.2) :
    Calls Tryz.prog 129 #[.pointer (some ⟨b, 0, none⟩), .pointer (some ⟨g, 0, none⟩)] w (RfPost w b g r xs ⟨x.id, x.time, x.kind, (X3.1 : Int), (X4.1 : Int), X5.1, X6.1, x.val⟩ X7) := by
  have c2 := (evC hrow).c2
  have AB := Lib.hid (about_any x.kind hkd w hm)
  have HK := hasK x.kind
  have HFA := Lib.hid HK.a
  have HFB := Lib.hid HK.b
  have HFN := Lib.hid HK.n
  have HFT := Lib.hid HK.t
  have HFV := Lib.hid HK.v
  obtain ⟨x1, x2, x3, x4, x5, x6, x7, xv⟩ := x
  dsimp only at h0a h0b h0n h0t h0v e3 e4 e5 e6 e7 c2 AB HFA HFB HFN HFT HFV hkd ⊢
  subst h0a h0b h0n h0t h0v
  obtain ⟨fa, hfa⟩ : ∃ f, f = eA x3 := ⟨_, rfl⟩
  obtain ⟨fb, hfb⟩ : ∃ f, f = eB x3 := ⟨_, rfl⟩
  obtain ⟨fn, hfn⟩ : ∃ f, f = eN x3 := ⟨_, rfl⟩
  obtain ⟨ft, hft⟩ : ∃ f, f = eT x3 := ⟨_, rfl⟩
  obtain ⟨fv, hfv⟩ : ∃ f, f = eV x3 := ⟨_, rfl⟩
  obtain ⟨F, hF⟩ : ∃ F, F = str (eLt x3) := ⟨_, rfl⟩
  obtain ⟨M, hM⟩ : ∃ M, M = str (eNm x3) := ⟨_, rfl⟩
  rw [← hF, ← hfa] at HFA
  rw [← hF, ← hfb] at HFB
  rw [← hF, ← hfn] at HFN
  rw [← hF, ← hft] at HFT
  rw [← hF, ← hfv] at HFV
  rw [← hfa] at e3
  rw [← hfb] at e4
  rw [← hfn] at e5
  rw [← hft] at e6
  rw [← hfv] at e7
  rw [← hF, ← hM] at AB
  have l3 : X3.1 ≤ 9223372036854775807 := by rw [e3]; cases fa; exact Nat.zero_le _; exact rn_leE _ _ _ _
  have l4 : X4.1 ≤ 9223372036854775807 := by rw [e4]; cases fb; exact Nat.zero_le _; exact rn_leE _ _ _ _
  obtain ⟨a3, k3, q3⟩ := X3
  obtain ⟨a4, k4, q4⟩ := X4
  obtain ⟨s5, k5, q5⟩ := X5
  obtain ⟨s6, k6, q6⟩ := X6
  obtain ⟨v7, k7, q7⟩ := X7
  dsimp only at e3 e4 e5 e6 e7 l3 l4 ⊢
  have C0 := Lib.hid (show RfS w b g r xs k e ⟨x1, x2, x3, 0, 0, [], [], zV⟩ w from ⟨h, hrow, Fr2.reflE _ _ _⟩)
  have E3 := Lib.hid e3
  have E4 := Lib.hid e4
  have E5 := Lib.hid e5
  have E6 := Lib.hid e6
  have E7 := Lib.hid e7
  have L3 := Lib.hid l3
  have L4 := Lib.hid l4
  have GB1 := Lib.hid hgb
  have RG := Lib.hid hrg
  have HSZ := Lib.hid hsz
  clear h hrow hgb hrg hsz hkd hm e3 e4 e5 e6 e7 hfa hfb hfn hft hfv hF hM HK l3 l4
  go_enter Tryz.func129, Tryz.ntmps129
  go_wp2_with fail
  refine AB.out.mono ?_
  rintro en w2 ⟨rfl, n2, hw2⟩
  have C1 := Lib.hid (show RfS w b g r xs k e ⟨x1, x2, x3, 0, 0, [], [], zV⟩ w2 from by
    have hF : Fr w w2 b none := by rw [hw2]; exact ⟨rfl, rfl, rfl, Nat.le_refl _, fun _ _ _ _ => rfl⟩
    exact C0.out.next GB1.out (by rw [hw2]; exact C0.out.rd) hF)
  clear hw2 c2 C0
  go_upto_if 15 with (with_reducible refine (HFA.out _).mono ?_; rintro _ wz ⟨rfl, hwz⟩; have hwz2 := hwz.symm; subst hwz2; clear hwz)
  go_cut [] (fun wx => RfS w b g r xs k3 q3 ⟨x1, x2, x3, (a3 : Int), 0, [], [], zV⟩ wx)
  case first =>
    cases fa
    · have RL := Lib.hid (show RfS w b g r xs k3 q3 ⟨x1, x2, x3, (a3 : Int), 0, [], [], zV⟩ w2 from by
        have h := E3.out
        injection h with h1 h2
        injection h2 with h2 h3
        subst h1 h2 h3
        exact C1.out)
      go_wp2_with fail
      go_meet
      all_goals exact RL.out
    · have NT := Lib.hid (rnum_any C1.out.rd HSZ.out 9223372036854775807 (by decide))
      have he : (a3, k3, q3) = rn xs k e 9223372036854775807 := E3.out
      rw [← he] at NT
      have bn : a3 ≤ 9223372036854775807 := L3.out
      clear he
      go_wp2_with fail
      refine NT.out.mono ?_
      rintro en wy ⟨rfl, hR, hF⟩
      dsimp only at hR ⊢
      have cS := C1.out.next GB1.out hR hF
      have fz := cS.row.frz 3
      have cc := (evC cS.row).c3
      have RL := Lib.hid (cS.setc GB1.out RG.out (cS.row.setA (a3 : Int)))
      have bn2 : (a3 : Int) < 9223372036854775808 := by omega
      clear hR hF cS NT
      go_wp2_with fail
      go_meet
      all_goals exact RL.out
  case rest =>
    obtain ⟨w3, rfl⟩ : ∃ wd : World, wd = wc := ⟨_, rfl⟩
    have C2 := Lib.hid hcut
    clear hcut C1
    go_upto_if 23 with (with_reducible refine (HFB.out _).mono ?_; rintro _ wz ⟨rfl, hwz⟩; have hwz2 := hwz.symm; subst hwz2; clear hwz)
    go_cut [] (fun wx => RfS w b g r xs k4 q4 ⟨x1, x2, x3, (a3 : Int), (a4 : Int), [], [], zV⟩ wx)
    case first =>
      cases fb
      · have RL := Lib.hid (show RfS w b g r xs k4 q4 ⟨x1, x2, x3, (a3 : Int), (a4 : Int), [], [], zV⟩ w3 from by
          have h := E4.out
          injection h with h1 h2
          injection h2 with h2 h3
          subst h1 h2 h3
          exact C2.out)
        go_wp2_with fail
        go_meet
        all_goals exact RL.out
      · have NT := Lib.hid (rnum_any C2.out.rd HSZ.out 9223372036854775807 (by decide))
        have he : (a4, k4, q4) = rn xs k3 q3 9223372036854775807 := E4.out
        rw [← he] at NT
        have bn : a4 ≤ 9223372036854775807 := L4.out
        clear he
        go_wp2_with fail
        refine NT.out.mono ?_
        rintro en wy ⟨rfl, hR, hF⟩
        dsimp only at hR ⊢
        have cS := C2.out.next GB1.out hR hF
        have fz := cS.row.frz 4
        have cc := (evC cS.row).c4
        have RL := Lib.hid (cS.setc GB1.out RG.out (cS.row.setB (a4 : Int)))
        have bn2 : (a4 : Int) < 9223372036854775808 := by omega
        clear hR hF cS NT
        go_wp2_with fail
        go_meet
        all_goals exact RL.out
    case rest =>
      obtain ⟨w4, rfl⟩ : ∃ wd : World, wd = wc := ⟨_, rfl⟩
      have C3 := Lib.hid hcut
      clear hcut C2
      go_upto_if 31 with (with_reducible refine (HFN.out _).mono ?_; rintro _ wz ⟨rfl, hwz⟩; have hwz2 := hwz.symm; subst hwz2; clear hwz)
      go_cut [] (fun wx => RfS w b g r xs k5 q5 ⟨x1, x2, x3, (a3 : Int), (a4 : Int), s5, [], zV⟩ wx)
      case first =>
        cases fn
        · have RL := Lib.hid (show RfS w b g r xs k5 q5 ⟨x1, x2, x3, (a3 : Int), (a4 : Int), s5, [], zV⟩ w4 from by
            have h := E5.out
            injection h with h1 h2
            injection h2 with h2 h3
            subst h1 h2 h3
            exact C3.out)
          go_wp2_with fail
          go_meet
          all_goals exact RL.out
        · have NT := Lib.hid (rtext_any C3.out.rd HSZ.out)
          have he : (s5, k5, q5) = rt xs k4 q4 := E5.out
          rw [← he] at NT
          clear he
          go_wp2_with fail
          refine NT.out.mono ?_
          rintro en wy ⟨rfl, hR, hF⟩
          dsimp only at hR ⊢
          have cS := C3.out.next GB1.out hR hF
          have fz := cS.row.frz 5
          have cc := (evC cS.row).c5
          have RL := Lib.hid (cS.setc GB1.out RG.out (cS.row.setN s5))
          clear hR hF cS NT
          go_wp2_with fail
          go_meet
          all_goals exact RL.out
      case rest =>
        obtain ⟨w5, rfl⟩ : ∃ wd : World, wd = wc := ⟨_, rfl⟩
        have C4 := Lib.hid hcut
        clear hcut C3
        go_upto_if 38 with (with_reducible refine (HFT.out _).mono ?_; rintro _ wz ⟨rfl, hwz⟩; have hwz2 := hwz.symm; subst hwz2; clear hwz)
        go_cut [] (fun wx => RfS w b g r xs k6 q6 ⟨x1, x2, x3, (a3 : Int), (a4 : Int), s5, s6, zV⟩ wx)
        case first =>
          cases ft
          · have RL := Lib.hid (show RfS w b g r xs k6 q6 ⟨x1, x2, x3, (a3 : Int), (a4 : Int), s5, s6, zV⟩ w5 from by
              have h := E6.out
              injection h with h1 h2
              injection h2 with h2 h3
              subst h1 h2 h3
              exact C4.out)
            go_wp2_with fail
            go_meet
            all_goals exact RL.out
          · have NT := Lib.hid (rtext_any C4.out.rd HSZ.out)
            have he : (s6, k6, q6) = rt xs k5 q5 := E6.out
            rw [← he] at NT
            clear he
            go_wp2_with fail
            refine NT.out.mono ?_
            rintro en wy ⟨rfl, hR, hF⟩
            dsimp only at hR ⊢
            have cS := C4.out.next GB1.out hR hF
            have fz := cS.row.frz 6
            have cc := (evC cS.row).c6
            have RL := Lib.hid (cS.setc GB1.out RG.out (cS.row.setT s6))
            clear hR hF cS NT
            go_wp2_with fail
            go_meet
            all_goals exact RL.out
        case rest =>
          obtain ⟨w6, rfl⟩ : ∃ wd : World, wd = wc := ⟨_, rfl⟩
          have C5 := Lib.hid hcut
          clear hcut C4
          cases fv
          · have RL := Lib.hid (show RfPost w b g r xs ⟨x1, x2, x3, (a3 : Int), (a4 : Int), s5, s6, zV⟩ (v7, k7, q7) (.returned (.tuple #[])) w6 from by
              have h := E7.out
              injection h with h1 h2
              injection h2 with h2 h3
              subst h1 h2 h3
              exact ⟨rfl, zV, zV_nz, mk0_at (by decide) (by decide) (by decide), mk0_in, C5.out⟩)
            go_wp2_with (with_reducible refine (HFV.out _).mono ?_; rintro _ wz ⟨rfl, hwz⟩; have hwz2 := hwz.symm; subst hwz2; clear hwz)
            go_end0
            exact RL.out
          · have NT := Lib.hid (vread_any C5.out.rd HSZ.out)
            have he : (v7, k7, q7) = rdV xs k6 q6 := E7.out
            rw [← he] at NT
            clear he
            go_wp2_with (with_reducible refine (HFV.out _).mono ?_; rintro _ wz ⟨rfl, hwz⟩; have hwz2 := hwz.symm; subst hwz2; clear hwz)
            refine NT.out.mono ?_
            rintro en wy ⟨y, rfl, hyz, hya, hyi, hR, hF⟩
            dsimp only at hR hyz ⊢
            have cS := C5.out.next GB1.out hR hF
            have TH := Lib.hid (cS.row.there y)
            have RL := Lib.hid (show RfPost w b g r xs ⟨x1, x2, x3, (a3 : Int), (a4 : Int), s5, s6, zV⟩ (v7, k7, q7) (.returned (.tuple #[])) (wy.setCells g 7 y.cells) from by
              have hsz7 := (cS.fr.setCells 7 y.cells).size
              refine ⟨rfl, y, hyz, ?_, hyi.imp fun q hq => Nat.le_trans C5.out.fr.size hq, ⟨cS.rd.keep (setCells_otherE g b (Ne.symm GB1.out) _ _ _) (fun q hq => setCells_otherE g q (RG.out q hq) _ _ _), cS.row.setV y, cS.fr.setCells 7 _⟩⟩
              have hkeep : y.At wy.heap.size (wy.setCells g 7 y.cells) := hya.keepT hyi (fun q _ h2 => setCells_otherE g q (by have := C5.out.row.lt; omega) _ _ _)
              exact hkeep.mono (by have := (Fr2.reflE wy b g).setCells 7 y.cells; exact this.size))
            clear hyz hya hyi hR hF cS NT
            go_wp2_with (with_reducible show wpList _ _ _ _ _ _; refine wpList_store_mid rfl 26 (.tmp 50) (.tmp 48) rfl g 7 y.cells.toArray rfl rfl TH.out (Tryz.valSize' y) y.cells_one ?_)
            go_end0
            exact RL.out
end Go.Proofs.YtnfobnnbeefeeaaGreatDoor.Wi
/- Read. -/
namespace Go.Proofs.YtnfobnnbeefeeaaGreatDoor.Wi
open Go Go.RowKit
set_option linter.unusedVariables false
set_option linter.unusedSimpArgs false
theorem Fr2.transE {w w1 w2 : World} {b g : Nat} (h : Fr2 w w1 b g) (f : Fr2 w1 w2 b g) : Fr2 w w2 b g :=
  ⟨f.os.trans h.os, f.tape.trans h.tape, f.output.trans h.output, Nat.le_trans h.size f.size, fun k hk h1 h2 => (f.block k (Nat.lt_of_lt_of_le hk h.size) h1 h2).trans (h.block k hk h1 h2)⟩
theorem Fr2.toFr {w w1 w2 : World} {b g : Nat} (h : Fr w w1 b none) (f : Fr2 w1 w2 b g) (hg : w.heap.size ≤ g) : Fr w w2 b none :=
  ⟨f.os.trans h.os, f.tape.trans h.tape, f.output.trans h.output, Nat.le_trans h.size f.size, fun k hk h1 h2 => (f.block k (Nat.lt_of_lt_of_le hk h.size) h1 (by omega)).trans (h.block k hk h1 h2)⟩
def RdePost (w : World) (b : Nat) (r : Option Nat) (xs : List UInt8) (X : Ev × Nat × Int) (e : Ending) (w' : World) : Prop :=
  ∃ y : Ev, e = .returned (.agg y.cells.toArray) ∧ y.nz = X.1 ∧ y.At w'.heap.size w' ∧ y.val.In (w.heap.size ≤ ·) ∧ Rd w' b r xs X.2.1 X.2.2 ∧ Fr w w' b none
theorem rde_end {w wz : World} {b g2 B k' : Nat} {r : Option Nat} {xs : List UInt8} {e' : Int} {y : Ev} {X : Ev × Nat × Int} (hX : X = (y.nz, k', e')) (hS : Rd wz b r xs k' e') (hF : Fr w wz b none) (hy : y.At wz.heap.size wz) (hin : y.val.In (B ≤ ·)) (hB : g2 < B) (hwB : w.heap.size ≤ B)
    (hg2 : w.heap.size ≤ g2) (hb : b < w.heap.size) (hr : ∀ g, r = some g → g < w.heap.size) : RdePost w b r xs X (.returned (.agg y.cells.toArray)) (wz.setRow g2 y.cells.toArray) := by
  subst hX
  have st : ∀ q, q ≠ g2 → (wz.setRow g2 y.cells.toArray).heap[q]? = wz.heap[q]? := fun q hq => setRow_other wz g2 q _ hq
  refine ⟨y, rfl, rfl, ?_, hin.imp fun q hq => Nat.le_trans hwB hq, hS.keep (st b (by omega)) (fun g hg => st g (by have := hr g hg; omega)), ⟨hF.os, hF.tape, hF.output, by simpa using hF.size, fun q hq h1 h2 => (st q (by omega)).trans (hF.block q hq h1 h2)⟩⟩
  have hv : y.val.At wz.heap.size (wz.setRow g2 y.cells.toArray) := hy.val.keepT hin (fun q _ h2 => st q (by omega))
  exact ⟨hy.id, hy.time, hy.kind, hy.a, hy.b, hy.name, hy.text, hv.mono (by simp)⟩
theorem zE_nz : zE.nz = zE := by unfold Ev.nz zE; dsimp only; rw [zV_nz]
theorem zE_at (N : Nat) (w : World) : zE.At N w := ⟨by decide, by decide, by decide, by decide, by decide, by decide, by decide, mk0_at (by decide) (by decide) (by decide)⟩
set_option maxHeartbeats 16000000 in
set_option maxRecDepth 100000 in
theorem eread_any {w : World} {b N : Nat} {r : Option Nat} {xs : List UInt8} {k : Nat} {e : Int} (h : Rd w b r xs k e) (hsz : xs.length ≤ 140737488355328) (he : EB N w) (hNb : N ≤ b) :
    Calls Tryz.prog 93 #[.pointer (some ⟨b, 0, none⟩)] w (RdePost w b r xs (evR xs k e)) := by
  have hlt := h.lt
  have hrl := h.rlt
  obtain ⟨w1, hw1⟩ : ∃ w1, w1 = w.alloc (.cells z11.toArray 28) := ⟨_, rfl⟩
  obtain ⟨g2, hg2⟩ : ∃ g, g = w.heap.size := ⟨_, rfl⟩
  have hb1 : Below w.heap.size w w1 := by rw [hw1]; exact (Below.refl _ _).alloc (Nat.le_refl _) _
  have n1 : w1.heap[g2]? = some (.cells z11.toArray 28 (0, 0)) := by rw [hw1, hg2]; exact heap_alloc_new _ _
  have F1 : Fr w w1 b none := by rw [hw1]; exact (Fr.refl _ _ _).alloc _
  have RK := Lib.hid (rkind_any (h.below (B := 0) hb1) hsz)
  obtain ⟨X, hX⟩ : ∃ X, X = evR xs k e := ⟨_, rfl⟩
  rw [← hX]
  unfold evR at hX
  dsimp only at hX
  obtain ⟨X0, hX0⟩ : ∃ X0, X0 = rb xs k e := ⟨_, rfl⟩
  rw [← hX0] at RK hX
  have hkb : 0 ≤ ((X0.1.toNat : Nat) : Int) ∧ ((X0.1.toNat : Nat) : Int) < 256 := by have := X0.1.toNat_lt; omega
  obtain ⟨kd, hkd⟩ : ∃ kd : Int, kd = (X0.1.toNat : Int) := ⟨_, rfl⟩
  rw [← hkd] at RK hX hkb
  obtain ⟨ea, hea⟩ : ∃ ea, ea = fe X0.2.2 (if eKn kd = true then 0 else 9) := ⟨_, rfl⟩
  rw [← hea] at RK hX
  obtain ⟨ka, hka⟩ : ∃ ka, ka = X0.2.1 := ⟨_, rfl⟩
  rw [← hka] at RK hX
  obtain ⟨X1, e1⟩ : ∃ X1, X1 = rn xs ka ea 1048576 := ⟨_, rfl⟩
  rw [← e1] at hX
  obtain ⟨X2, e2⟩ : ∃ X2, X2 = rn xs X1.2.1 X1.2.2 4611686018427387903 := ⟨_, rfl⟩
  rw [← e2] at hX
  obtain ⟨X3, e3⟩ : ∃ X3, X3 = rnI (eA kd) xs X2.2.1 X2.2.2 9223372036854775807 := ⟨_, rfl⟩
  rw [← e3] at hX
  obtain ⟨X4, e4⟩ : ∃ X4, X4 = rnI (eB kd) xs X3.2.1 X3.2.2 9223372036854775807 := ⟨_, rfl⟩
  rw [← e4] at hX
  obtain ⟨X5, e5⟩ : ∃ X5, X5 = rtI (eN kd) xs X4.2.1 X4.2.2 := ⟨_, rfl⟩
  rw [← e5] at hX
  obtain ⟨X6, e6⟩ : ∃ X6, X6 = rtI (eT kd) xs X5.2.1 X5.2.2 := ⟨_, rfl⟩
  rw [← e6] at hX
  obtain ⟨X7, e7⟩ : ∃ X7, X7 = rdI (eV kd) xs X6.2.1 X6.2.2 := ⟨_, rfl⟩
  rw [← e7] at hX
  have l1 : X1.1 ≤ 1048576 := by rw [e1]; exact rn_leE _ _ _ _
  have l2 : X2.1 ≤ 4611686018427387903 := by rw [e2]; exact rn_leE _ _ _ _
  have l3 : X3.1 ≤ 9223372036854775807 := by rw [e3]; cases eA kd; exact Nat.zero_le _; exact rn_leE _ _ _ _
  have l4 : X4.1 ≤ 9223372036854775807 := by rw [e4]; cases eB kd; exact Nat.zero_le _; exact rn_leE _ _ _ _
  have l5 : X5.1.length ≤ 140737488355328 := by rw [e5]; cases eN kd; exact Nat.zero_le _; exact Nat.le_trans (rt_len _ _ _) (by decide)
  have l6 : X6.1.length ≤ 140737488355328 := by rw [e6]; cases eT kd; exact Nat.zero_le _; exact Nat.le_trans (rt_len _ _ _) (by decide)
  have N1 := Lib.hid n1
  have HF1 := Lib.hid F1
  have HE := Lib.hid he
  have HX := Lib.hid hX
  have E1 := Lib.hid e1
  have E2 := Lib.hid e2
  have RF := Lib.hid (fun W g (hW : Rd W b r xs X2.2.1 X2.2.2) (hrow : EvRow W g ⟨(X1.1 : Int), (X2.1 : Int), kd, 0, 0, [], [], zV⟩) (hgb : g ≠ b) (hrg : ∀ q, r = some q → q ≠ g) (hm : ∃ m, W.cell? ⟨2, 0, none⟩ = some (.int .i64 m)) =>
    rfields_any hW hrow hgb hrg hsz (by dsimp only; omega) rfl rfl rfl rfl rfl hm X3 X4 X5 X6 X7 e3 e4 e5 e6 e7)
  have HW1 := Lib.hid (show w1 = w.alloc (.cells #[.int .i64 0, .int .i64 0, .int .i64 0, .int .i64 0, .int .i64 0, .string ⟨#[]⟩, .string ⟨#[]⟩, .int .i64 0, .int .i64 0, .string ⟨#[]⟩, .slice none 0 0] 28) from hw1)
  have HG2 := Lib.hid hg2
  have HL := Lib.hid (show b < w.heap.size ∧ w.heap.size ≤ g2 ∧ g2 < w1.heap.size ∧ w.heap.size ≤ w1.heap.size from ⟨hlt, by omega, lt_of_rowK n1, hb1.size⟩)
  have HRL := Lib.hid hrl
  have HSZ := Lib.hid hsz
  have LS := Lib.hid (show X1.1 ≤ 1048576 ∧ X2.1 ≤ 4611686018427387903 ∧ X3.1 ≤ 9223372036854775807 ∧ X4.1 ≤ 9223372036854775807 ∧ X5.1.length ≤ 140737488355328 ∧ X6.1.length ≤ 140737488355328 ∧ 0 ≤ kd ∧ kd < 256 from ⟨l1, l2, l3, l4, l5, l6, hkb.1, hkb.2⟩)
  clear hlt hrl hw1 hg2 hb1 n1 h hX0 hkd hea hka hkb F1 he hX e1 e2 e3 e4 e5 e6 e7 l1 l2 l3 l4 l5 l6 hsz
  go_enter Tryz.func93, Tryz.ntmps93
  go_upto_region 1 with fail
  rw [← HW1.out, ← HG2.out]
  go_wp2_with fail
  refine RK.out.mono ?_
  rintro q w3 ⟨rfl, hR3, hF3⟩
  obtain ⟨w4, hw4⟩ : ∃ w4, w4 = w3.alloc (.cells (kE kd).cells.toArray 28) := ⟨_, rfl⟩
  obtain ⟨g5, hg5⟩ : ∃ g, g = w3.heap.size := ⟨_, rfl⟩
  have hb4 : Below w3.heap.size w3 w4 := by rw [hw4]; exact (Below.refl _ _).alloc (Nat.le_refl _) _
  have row4 : EvRow w4 g5 (kE kd) := by rw [hw4, hg5]; exact heap_alloc_new _ _
  have n4 : w4.heap[g2]? = some (.cells z11.toArray 28 (0, 0)) := by
    have hl := HL.out
    have n3 := (hF3.block g2 hl.2.2.1 (by omega) (fun e => by cases e)).trans N1.out
    exact (hb4.block g2 (lt_of_rowK n3)).trans n3
  have hF4 : Fr w w4 b none := by rw [hw4]; exact (HF1.out.trans (Or.inl rfl) hF3).alloc _
  have hl5 : g2 < g5 ∧ b < g5 := by
    have hl := HL.out; have := hF3.size; omega
  have S4 := Lib.hid (show RfS w4 b g5 r xs ka ea (kE kd) w4 from ⟨hR3.below (B := 0) hb4, row4, Fr2.reflE _ _ _⟩)
  have HF4 := Lib.hid hF4
  have N4 := Lib.hid n4
  have HL5 := Lib.hid hl5
  have HW4 := Lib.hid hw4
  have HG5 := Lib.hid hg5
  have G5B := Lib.hid (show g5 ≠ b by omega)
  have G5R := Lib.hid (show ∀ q, r = some q → q ≠ g5 from fun q hq => by have := HRL.out q hq; have := HL.out; omega)
  have BN := Lib.hid (show ∀ W, Fr2 w4 W b g5 → Below N w W from fun W f => by
    have hl := HL.out
    have hf := Fr2.toFr HF4.out f (by omega)
    exact fr_new (Below.refl _ _) (by omega) hf hNb (fun g hg => by cases hg))
  clear hR3 hF3 hw4 hg5 hb4 row4 n4 hF4 hl5
  obtain ⟨KE, hKE⟩ : ∃ KE, KE = kE kd := ⟨_, rfl⟩
  rw [← hKE] at HW4 ⊢
  have HKE := Lib.hid hKE
  clear hKE
  go_upto_region 2 with (with_reducible show wpList _ _ _ _ _ _; refine wpList_store_newW rfl 28 (.tmp 3) (.tmp 5) rfl 28 _ KE.cells.toArray rfl rfl (Tryz.evSize' KE) (by with_unfolding_all exact Ev.eleven KE) KE.cells_one ?_; rw [← HW4.out, ← HG5.out])
  have NT := Lib.hid (rnum_any S4.out.rd HSZ.out 1048576 (by decide))
  rw [← E1.out] at NT
  go_wp2_with fail
  refine NT.out.mono ?_
  rintro q w5 ⟨rfl, hR, hF⟩
  have cS := S4.out.next G5B.out hR hF
  have fz := cS.row.frz 0
  have cc := (evC cS.row).c0
  have S5 := Lib.hid (cS.setc G5B.out G5R.out (cS.row.setId (X1.1 : Int)))
  have bn : X1.1 ≤ 1048576 := LS.out.1
  have bn2 : (X1.1 : Int) < 9223372036854775808 := by omega
  clear hR hF cS NT S4
  go_upto_region 3 with fail
  clear fz cc bn bn2
  obtain ⟨w6, hw6⟩ : ∃ w6, w6 = w5.setCell ⟨g5, 0, none⟩ (.int .i64 (X1.1 : Int)) := ⟨_, rfl⟩
  rw [← hw6] at S5 ⊢
  clear hw6
  have NT := Lib.hid (rnum_any S5.out.rd HSZ.out 4611686018427387903 (by decide))
  rw [← E2.out] at NT
  go_wp2_with fail
  refine NT.out.mono ?_
  rintro q w7 ⟨rfl, hR, hF⟩
  have cS := S5.out.next G5B.out hR hF
  have fz := cS.row.frz 1
  have cc := (evC cS.row).c1
  have S7 := Lib.hid (cS.setc G5B.out G5R.out (cS.row.setTime (X2.1 : Int)))
  have bn : X2.1 ≤ 4611686018427387903 := LS.out.2.1
  have bn2 : (X2.1 : Int) < 9223372036854775808 := by omega
  clear hR hF cS NT S5
  go_upto_region 4 with fail
  clear fz cc bn bn2
  obtain ⟨w8, hw8⟩ : ∃ w8, w8 = w7.setCell ⟨g5, 1, none⟩ (.int .i64 (X2.1 : Int)) := ⟨_, rfl⟩
  rw [← hw8] at S7 ⊢
  clear hw8
  have RF8 := Lib.hid (RF.out w8 g5 S7.out.rd S7.out.row G5B.out G5R.out (HE.out.len w8 (BN.out w8 S7.out.fr)))
  go_wp2_with fail
  refine RF8.out.mono ?_
  rintro q w9 ⟨rfl, y, hyz, hya, hyi, hS9⟩
  obtain ⟨Y, hY⟩ : ∃ Y : Ev, Y = ⟨(X1.1 : Int), (X2.1 : Int), kd, (X3.1 : Int), (X4.1 : Int), X5.1, X6.1, y⟩ := ⟨_, rfl⟩
  have S9 := Lib.hid (show RfS w4 b g5 r xs X7.2.1 X7.2.2 Y w9 from ⟨hS9.rd, by rw [hY]; exact hS9.row, S7.out.fr.transE hS9.fr⟩)
  have hx := HX.out
  have ey : (⟨(X1.1 : Int), (X2.1 : Int), kd, (X3.1 : Int), (X4.1 : Int), X5.1, X6.1, X7.1⟩ : Ev) = Y.nz := by
    rw [hY, ← hyz]; rfl
  rw [ey, Ev.nz_vE] at hx
  have HX9 := Lib.hid hx
  have YA := Lib.hid (show Y.At w9.heap.size w9 by
    have l := LS.out
    rw [hY]
    exact ⟨by dsimp only; omega, by dsimp only; omega, by dsimp only; omega, by dsimp only; omega, by dsimp only; omega, by dsimp only; omega, by dsimp only; omega, hya⟩)
  have YI := Lib.hid (show Y.val.In (w8.heap.size ≤ ·) by rw [hY]; exact hyi)
  obtain ⟨k7, hk7⟩ : ∃ k7, k7 = X7.2.1 := ⟨_, rfl⟩
  obtain ⟨q7, hq7⟩ : ∃ q7, q7 = X7.2.2 := ⟨_, rfl⟩
  rw [← hk7, ← hq7] at S9 HX9
  obtain ⟨ve, hve⟩ : ∃ ve, ve = Y.vE := ⟨_, rfl⟩
  rw [← hve] at HX9
  have HVE := Lib.hid hve
  have B8 := Lib.hid (show g2 < w8.heap.size ∧ w.heap.size ≤ w8.heap.size from by
    have := S7.out.fr.size; have := lt_of_rowK N4.out; have := HL.out; omega)
  clear hyz hya hyi hS9 hx ey hY hk7 hq7 hve S7 RF8 RF HX LS
  have SB := Lib.hid (show (Tryz.prog.info? 28).map (·.size) = some (lit11 0).size by kernel_rfl)
  have ON := Lib.hid (show (lit11 0).all (·.oneCell') = true by rw [← kE_cells]; exact (kE 0).cells_one)
  have ER := Lib.hid (err_any S9.out.rd)
  have N9 := Lib.hid ((S9.out.fr.block g2 (lt_of_rowK N4.out) (by have := HL.out; omega) (by have := HL5.out; omega)).trans N4.out)
  have F9 := Lib.hid (Fr2.toFr HF4.out S9.out.fr (by have := HL.out; have := HL5.out; omega))
  go_wp2_with fail
  refine ER.out.mono ?_
  rintro q wq ⟨rfl, hq⟩
  subst hq
  by_cases h0 : q7 = 0
  · subst h0
    have KY := Lib.hid (rowE S9.out.row)
    have b9 := BN.out w9 S9.out.fr
    have CK := Lib.hid (echeck_any Y w9.heap.size w9 YA.out (Nat.le_refl _) ((HE.out.on b9).base (by have := b9.size; have := F9.out.size; have := HL.out; omega)))
    rw [← HVE.out] at CK
    clear b9
    go_wp2_with (with_reducible show wpList _ _ _ _ _ _; refine wpList_load_allW rfl 28 (.tmp 3) rfl ⟨g5,0,none⟩ rfl Y.cells _ KY.out Tryz.underlying28 rfl (Tryz.evSize Y) ?_)
    refine CK.out.mono ?_
    rintro q w10 ⟨rfl, hb10⟩
    have FA := Lib.hid (fail_any (S9.out.rd.below (B := 0) hb10) ve)
    rw [show fe 0 ve = ve from rfl] at FA
    have F10 := Lib.hid (show Fr w w10 b none from F9.out.trans (Or.inl rfl) ⟨hb10.os, hb10.tape, hb10.output, hb10.size, fun q hq _ _ => hb10.block q hq⟩)
    have N10 := Lib.hid ((hb10.block g2 (lt_of_rowK N9.out)).trans N9.out)
    have R10 := Lib.hid (show EvRow w10 g5 Y from (hb10.block g5 S9.out.row.lt).trans S9.out.row)
    have A10 := Lib.hid ((YA.out.below hb10).mono hb10.size)
    clear hb10
    go_wp2_with fail
    refine FA.out.mono ?_
    rintro q w11 ⟨rfl, hR11, hF11⟩
    have hg := HL5.out
    have N11 := Lib.hid ((hF11.block g2 (lt_of_rowK N10.out) (by have := HL.out; omega) (fun e => by cases e)).trans N10.out)
    have R11 := Lib.hid (show EvRow w11 g5 Y from (hF11.block g5 R10.out.lt (by omega) (fun e => by cases e)).trans R10.out)
    have A11 := Lib.hid (show Y.At w11.heap.size w11 from ⟨A10.out.id, A10.out.time, A10.out.kind, A10.out.a, A10.out.b, A10.out.name, A10.out.text, (A10.out.val.keepT YI.out (fun q h1 h2 => hF11.block q h1 (by have := B8.out; have := HL.out; omega) (fun e => by cases e))).mono hF11.size⟩)
    have F11 := Lib.hid (F10.out.trans (Or.inl rfl) hF11)
    have ER11 := Lib.hid (err_any hR11)
    have RD11 := Lib.hid hR11
    clear hR11 hF11 hg
    go_wp2_with fail
    refine ER11.out.mono ?_
    rintro q wq ⟨rfl, hq⟩
    subst hq
    have hl := HL.out
    by_cases hv : ve = 0
    · subst hv
      have RL := Lib.hid (rde_end (X := X) (y := Y) (by rw [HX9.out]; rfl) RD11.out F11.out A11.out YI.out B8.out.1 B8.out.2 hl.2.1 hl.1 HRL.out)
      have K11 := Lib.hid (rowE R11.out)
      clear hl
      go_wp2_with (first
        | (with_reducible show wpList _ _ _ _ _ _; refine wpList_load_allW rfl 28 (.tmp 3) rfl ⟨g5,0,none⟩ rfl Y.cells _ K11.out Tryz.underlying28 rfl (Tryz.evSize Y) ?_)
        | (with_reducible show wpList _ _ _ _ _ _; refine wpList_store_whole rfl 28 (.tmp 2) (.tmp 27) rfl g2 28 z11.toArray Y.cells.toArray rfl rfl N11.out (Tryz.evSize' Y) (Ev.elevenZ Y) Y.cells_one ?_))
      refine bodyPost_ret (results_cell_row rfl _ _ g2 28 Y.cells.toArray (0, 0) _ rfl (setRow_heap _ g2 _ _ _ _ N11.out) Tryz.underlying28 rfl (Tryz.evSize' Y)) rfl ?_
      exact RL.out
    · have hx : X = (zE.nz, k7, ve) := by rw [HX9.out, zE_nz, show fe 0 ve = ve from rfl, if_neg hv]
      have RL := Lib.hid (rde_end (y := zE) (B := w8.heap.size) hx RD11.out F11.out (zE_at _ _) mk0_in B8.out.1 B8.out.2 hl.2.1 hl.1 HRL.out)
      clear hl hx
      go_wp2_with (with_reducible show wpList _ _ _ _ _ _; refine wpList_store_whole rfl 28 (.tmp 2) (.tmp 26) rfl g2 28 z11.toArray (lit11 0) rfl rfl N11.out SB.out rfl ON.out ?_)
      refine bodyPost_ret (results_cell_row rfl _ _ g2 28 (lit11 0) (0, 0) _ rfl (setRow_heap _ g2 _ _ _ _ N11.out) Tryz.underlying28 rfl SB.out) rfl ?_
      exact RL.out
  · have hl := HL.out
    have hx : X = (zE.nz, k7, q7) := by rw [HX9.out, zE_nz, show fe q7 ve = q7 from fe_yes h0 _, if_neg h0]
    have RL := Lib.hid (rde_end (y := zE) (B := w8.heap.size) hx S9.out.rd F9.out (zE_at _ _) mk0_in B8.out.1 B8.out.2 hl.2.1 hl.1 HRL.out)
    clear hl hx
    go_wp2_with fail
    refine ER.out.mono ?_
    rintro q wq ⟨rfl, hq⟩
    subst hq
    go_wp2_with (with_reducible show wpList _ _ _ _ _ _; refine wpList_store_whole rfl 28 (.tmp 2) (.tmp 26) rfl g2 28 z11.toArray (lit11 0) rfl rfl N9.out SB.out rfl ON.out ?_)
    refine bodyPost_ret (results_cell_row rfl _ _ g2 28 (lit11 0) (0, 0) _ rfl (setRow_heap _ g2 _ _ _ _ N9.out) Tryz.underlying28 rfl SB.out) rfl ?_
    exact RL.out
end Go.Proofs.YtnfobnnbeefeeaaGreatDoor.Wi
/- Decode. -/
namespace Go.Proofs.YtnfobnnbeefeeaaGreatDoor.Wi
open Go Go.RowKit
set_option linter.unusedVariables false
set_option linter.unusedSimpArgs false
def DcePost (w : World) (X : Ev × Int) (e : Ending) (w' : World) : Prop :=
  ∃ y : Ev, e = .returned (.tuple #[.agg y.cells.toArray, .int .i64 X.2]) ∧ y.nz = X.1 ∧ y.At w'.heap.size w' ∧ y.val.In (w.heap.size ≤ ·) ∧ Below w.heap.size w w'
theorem dce_end {w wz : World} {g2 B : Nat} {y : Ev} {X : Ev × Int} (hX : X.1 = y.nz) (hb : Below w.heap.size w wz) (hy : y.At wz.heap.size wz) (hin : y.val.In (B ≤ ·)) (hB : g2 < B) (hwB : w.heap.size ≤ B) (hg2 : w.heap.size ≤ g2) :
    DcePost w X (.returned (.tuple #[.agg y.cells.toArray, .int .i64 X.2])) (wz.setRow g2 y.cells.toArray) := by
  have st : ∀ q, q ≠ g2 → (wz.setRow g2 y.cells.toArray).heap[q]? = wz.heap[q]? := fun q hq => setRow_other wz g2 q _ hq
  refine ⟨y, rfl, hX.symm, ?_, hin.imp fun q hq => Nat.le_trans hwB hq, ⟨hb.os, hb.tape, hb.output, by simpa using hb.size, fun q hq => (st q (by omega)).trans (hb.block q hq)⟩⟩
  have hv : y.val.At wz.heap.size (wz.setRow g2 y.cells.toArray) := hy.val.keepT hin (fun q _ h2 => st q (by omega))
  exact ⟨hy.id, hy.time, hy.kind, hy.a, hy.b, hy.name, hy.text, hv.mono (by simp)⟩
set_option maxHeartbeats 16000000 in
set_option maxRecDepth 100000 in
theorem edecode_any {w : World} {ao : Option Addr} {c : Nat} {xs : List UInt8} (hS : Sl w (.slice ao xs.length c) xs) (hsz : xs.length ≤ 140737488355328) (he : EB w.heap.size w) :
    Calls Tryz.prog 44 #[.slice ao xs.length c] w (DcePost w (dcE xs)) := by
  obtain ⟨w1, hw1⟩ : ∃ w1, w1 = w.alloc (.cells z11.toArray 28) := ⟨_, rfl⟩
  obtain ⟨g2, hg2⟩ : ∃ g, g = w.heap.size := ⟨_, rfl⟩
  have hb1 : Below w.heap.size w w1 := by rw [hw1]; exact (Below.refl _ _).alloc (Nat.le_refl _) _
  have n1 : w1.heap[g2]? = some (.cells z11.toArray 28 (0, 0)) := by rw [hw1, hg2]; exact heap_alloc_new _ _
  have RS := Lib.hid (read_sl (hS.below hb1) hsz)
  have hdc : dcE xs = (if rend xs (evR xs 0 0).2.1 (evR xs 0 0).2.2 = 0 then (evR xs 0 0).1 else zE, rend xs (evR xs 0 0).2.1 (evR xs 0 0).2.2) := rfl
  have HEB := Lib.hid he
  have RV := Lib.hid (fun (W : World) (b : Nat) (r : Option Nat) (h : Rd W b r xs 0 0) (hb : Below w.heap.size w W) (h2 : w.heap.size ≤ b) => eread_any h hsz (HEB.out.on hb) h2)
  obtain ⟨X, hX⟩ : ∃ X, X = dcE xs := ⟨_, rfl⟩
  rw [← hX] at hdc ⊢
  obtain ⟨V, hV⟩ : ∃ V, V = evR xs 0 0 := ⟨_, rfl⟩
  rw [← hV] at RV hdc
  obtain ⟨v1, vk, ve⟩ := V
  dsimp only at hdc
  obtain ⟨er, her⟩ : ∃ er, er = rend xs vk ve := ⟨_, rfl⟩
  rw [← her] at hdc
  have HER := Lib.hid her
  have HDC := Lib.hid hdc
  have N1 := Lib.hid n1
  have HB1 := Lib.hid hb1
  have HW1 := Lib.hid (show w1 = w.alloc (.cells #[.int .i64 0, .int .i64 0, .int .i64 0, .int .i64 0, .int .i64 0, .string ⟨#[]⟩, .string ⟨#[]⟩, .int .i64 0, .int .i64 0, .string ⟨#[]⟩, .slice none 0 0] 28) from hw1)
  have HG2 := Lib.hid hg2
  obtain ⟨n, hn⟩ : ∃ n, n = xs.length := ⟨_, rfl⟩
  rw [← hn] at RS ⊢
  have HSZ := Lib.hid hsz
  clear hX hV her hdc n1 hb1 hw1 hg2 hS hn hsz he
  go_enter Tryz.func44, Tryz.ntmps44
  go_upto_region 1 with fail
  rw [← HW1.out, ← HG2.out]
  go_wp2_with fail
  refine RS.out.mono ?_
  rintro q w2 ⟨b, r, rfl, hR2, hb2, hb, hr⟩
  have VR := Lib.hid (RV.out w2 b r hR2 (HB1.out.trans (hb2.mono HB1.out.size)) (Nat.le_trans HB1.out.size hb))
  have HB2 := Lib.hid hb2
  have HBb := Lib.hid hb
  have HRr := Lib.hid hr
  have HLT := Lib.hid hR2.lt
  clear hR2 hb2 hb hr RS RV
  go_wp2_with fail
  refine VR.out.mono ?_
  rintro q w3 ⟨y, rfl, hy1, hy2, hy3, hR3, hF3⟩
  dsimp only at hy1 hR3
  have hs1 := lt_of_rowK N1.out
  have hs2 := HB2.out.size
  have hg2b : g2 < b := by have := HBb.out; omega
  have hb3 : Below w1.heap.size w1 w3 := fr_new HB2.out HB2.out.size hF3 HBb.out (fun g hg => by cases hg)
  have n3 := (hb3.block g2 hs1).trans N1.out
  obtain ⟨w4, hw4⟩ : ∃ w4, w4 = w3.alloc (.cells y.cells.toArray 28) := ⟨_, rfl⟩
  obtain ⟨g5, hg5⟩ : ∃ g, g = w3.heap.size := ⟨_, rfl⟩
  have hb4 : Below w3.heap.size w3 w4 := by rw [hw4]; exact (Below.refl _ _).alloc (Nat.le_refl _) _
  have n5 : w4.heap[g5]? = some (.cells y.cells.toArray 28 (0, 0)) := by rw [hw4, hg5]; exact heap_alloc_new _ _
  have n4 := (hb4.block g2 (lt_of_rowK n3)).trans n3
  have hR4 : Rd w4 b r xs vk ve := hR3.below (B := 0) hb4
  have hat4 : y.At w4.heap.size w4 := (hy2.below hb4).mono hb4.size
  have EN := Lib.hid (end_any hR4 HSZ.out)
  rw [← HER.out] at EN
  have HB4 := Lib.hid (show Below w.heap.size w w4 from HB1.out.trans ((hb3.mono HB1.out.size).trans (hb4.mono (Nat.le_trans HB1.out.size hb3.size))))
  have HY := Lib.hid hy1
  have HIN := Lib.hid hy3
  have HAT4 := Lib.hid hat4
  have N4 := Lib.hid n4
  have K5 := Lib.hid (rowE n5)
  have HW4 := Lib.hid hw4
  have HG5 := Lib.hid hg5
  have HL := Lib.hid (show w.heap.size ≤ g2 ∧ g2 < w2.heap.size ∧ w.heap.size ≤ w2.heap.size from ⟨by have := HG2.out; omega, by omega, by have := HB1.out.size; omega⟩)
  clear hy1 hy2 hy3 hR3 hF3 hs1 hs2 hg2b hb3 n3 hw4 hg5 hb4 n5 n4 hR4 hat4
  go_upto_region 3 with (with_reducible show wpList _ _ _ _ _ _; refine wpList_store_newW rfl 28 (.tmp 5) (.tmp 10) rfl 28 _ y.cells.toArray rfl rfl (Tryz.evSize' y) (by with_unfolding_all exact Ev.eleven y) y.cells_one ?_; rw [← HW4.out, ← HG5.out])
  go_wp2_with fail
  refine EN.out.mono ?_
  rintro q w5 ⟨rfl, nn, hw5⟩
  have HB5 := Lib.hid (show Below w.heap.size w w5 by rw [hw5]; exact below_drewG HB4.out nn)
  have HAT5 := Lib.hid (show y.At w5.heap.size w5 by rw [hw5]; exact HAT4.out.keep fun _ _ => rfl)
  have N5 := Lib.hid (show w5.heap[g2]? = some (.cells z11.toArray 28 (0, 0)) by rw [hw5]; exact N4.out)
  have K6 := Lib.hid (show ∀ (j : Nat) u, y.cells[j]? = some u → w5.cell? ((⟨g5, 0, none⟩ : Addr).add j) = some u by rw [hw5]; exact K5.out)
  clear hw5 K5 EN
  by_cases he : er = 0
  · subst he
    have hl := HL.out
    have hdc := HDC.out
    rw [if_pos rfl] at hdc
    subst hdc
    have RL := Lib.hid (dce_end (X := (v1, 0)) HY.out.symm HB5.out HAT5.out HIN.out hl.2.1 hl.2.2 hl.1)
    clear hl
    go_wp2_with (first
      | (with_reducible show wpList _ _ _ _ _ _; refine wpList_load_allW rfl 28 (.tmp 5) rfl ⟨g5,0,none⟩ rfl y.cells _ K6.out Tryz.underlying28 rfl (Tryz.evSize y) ?_)
      | (with_reducible show wpList _ _ _ _ _ _; refine wpList_store_whole rfl 28 (.tmp 2) (.tmp 17) rfl g2 28 z11.toArray y.cells.toArray rfl rfl N5.out (Tryz.evSize' y) (Ev.elevenZ y) y.cells_one ?_))
    refine bodyPost_ret (results_row_tmp rfl _ _ g2 28 y.cells (0, 0) _ _ rfl rfl (setRow_heap _ g2 _ _ _ _ N5.out) Tryz.underlying28 rfl (Tryz.evSize y)) rfl ?_
    exact RL.out
  · have hl := HL.out
    have hdc := HDC.out
    rw [if_neg he] at hdc
    subst hdc
    have he2 : (er != 0) = true := by simpa using he
    have RL := Lib.hid (dce_end (X := (zE, er)) (y := zE) zE_nz.symm HB5.out (zE_at _ _) mk0_in hl.2.1 hl.2.2 hl.1)
    have SB := Lib.hid (show (Tryz.prog.info? 28).map (·.size) = some (lit11 0).size by kernel_rfl)
    have ON := Lib.hid (show (lit11 0).all (·.oneCell') = true by rw [← kE_cells]; exact (kE 0).cells_one)
    clear hl
    go_wp2_with (with_reducible show wpList _ _ _ _ _ _; refine wpList_store_whole rfl 28 (.tmp 2) (.tmp 15) rfl g2 28 z11.toArray (lit11 0) rfl rfl N5.out SB.out rfl ON.out ?_)
    refine bodyPost_ret (results_row_tmp rfl _ _ g2 28 z11 (0, 0) _ _ rfl rfl (setRow_heap _ g2 _ _ _ _ N5.out) Tryz.underlying28 rfl SB.out) rfl ?_
    exact RL.out
end Go.Proofs.YtnfobnnbeefeeaaGreatDoor.Wi
