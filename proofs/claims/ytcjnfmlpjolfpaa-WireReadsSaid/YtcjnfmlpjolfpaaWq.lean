/- The law WireReads: its walk. -/
import Derived.Test.YtcjnfmlpjolfpaaWv
import Derived.Test.YtcjnfmlpjolfpaaLf
import Derived.Test.YtcjnfmlpjolfpaaRs
import Derived.Deep.CutBlock
import Derived.Deep.DeepCutAuto
import Derived.Deep.RegionHeld3
import Derived.BigQuiet
namespace Go.Proofs.Ytcjnfmlpjolfpaa
open Go Go.RowKit
set_option linter.unusedVariables false
set_option linter.unusedSimpArgs false
/-- The reader and the reference's state side by side. -/
def WvSt (w0 : World) (b : Nat) (r : Option Nat) (xs : List UInt8) (g6 pos : Nat) (err : Int) (wr : World) : Prop :=
  Rd wr b r xs pos err ∧ wr.heap[g6]? = some (.cells #[.string (str (lf xs pos err)), .int .i64 err] 57 (0, 0)) ∧ Below w0.heap.size w0 wr
def WvRel (w0 : World) (b : Nat) (r : Option Nat) (xs : List UInt8) (g6 n : Nat) (u : Value) (wr : World) : Prop :=
  ∃ (k pos : Nat) (err : Int), u = .int .i64 (k : Int) ∧ k ≤ n ∧ WvSt w0 b r xs g6 pos err wr
/-- Where the reader and the state lie. -/
def WvAt (w0 : World) (b : Nat) (r : Option Nat) (g6 : Nat) : Prop := w0.heap.size ≤ b ∧ (∀ g, r = some g → w0.heap.size ≤ g) ∧ w0.heap.size ≤ g6 ∧ g6 ≠ b ∧ r ≠ some g6
theorem wv_step {w0 w9 wA wB : World} {b : Nat} {r : Option Nat} {xs : List UInt8} {g6 pos pos' : Nat} {err err' : Int} (ha : WvAt w0 b r g6) (h : WvSt w0 b r xs g6 pos err w9) (hR : Rd wA b r xs pos' err') (hF : Fr w9 wA b none) (hB : Below wA.heap.size wA wB) :
    (∃ l t f, wB.heap[g6]? = some (.cells l t f) ∧ l = #[.string (str (lf xs pos err)), .int .i64 err] ∧ t = 57 ∧ f = (0, 0)) ∧ WvSt w0 b r xs g6 pos' err' (wB.setRow g6 #[.string (str (lf xs pos' err')), .int .i64 err']) := by
  obtain ⟨h1, h2, h3, h4, h5⟩ := ha
  obtain ⟨hr, hg, hb⟩ := h
  have q1 : wA.heap[g6]? = _ := (hF.block g6 (lt_of_rowW hg) h4 (by simp)).trans hg
  have q2 := (hB.block g6 (lt_of_rowW q1)).trans q1
  have hRB : Rd wB b r xs pos' err' := Rd.below (B := wA.heap.size) hR hB
  refine ⟨⟨_, _, _, q2, rfl, rfl, rfl⟩, hRB.keep (setRow_other wB g6 b _ (fun e => h4 e.symm)) (fun g e => setRow_other wB g6 g _ (fun e2 => h5 (e.trans (by rw [e2])))), setRow_heap wB g6 _ _ _ _ q2, ?_⟩
  exact below_setRow ((hb.trans (hF.below hb.size h1 (fun g e => by cases e))).trans (hB.mono (Nat.le_trans hb.size hF.size))) h3 _
/-- Reader and the row of the state, whatever the row holds. -/
def WvMid (w0 : World) (b : Nat) (r : Option Nat) (xs : List UInt8) (g6 pos : Nat) (err : Int) (row : Array Value) (wr : World) : Prop :=
  Rd wr b r xs pos err ∧ wr.heap[g6]? = some (.cells row 57 (0, 0)) ∧ Below w0.heap.size w0 wr
theorem wv_mid {w0 w9 wA wB : World} {b : Nat} {r : Option Nat} {xs : List UInt8} {g6 pos pos' : Nat} {err err' : Int} (ha : WvAt w0 b r g6) (h : WvSt w0 b r xs g6 pos err w9) (hR : Rd wA b r xs pos' err') (hF : Fr w9 wA b none) (hB : Below wA.heap.size wA wB) :
    WvMid w0 b r xs g6 pos' err' #[.string (str (lf xs pos err)), .int .i64 err] wB := by
  obtain ⟨h1, h2, h3, h4, h5⟩ := ha
  obtain ⟨hr, hg, hb⟩ := h
  have q1 : wA.heap[g6]? = _ := (hF.block g6 (lt_of_rowW hg) h4 (by simp)).trans hg
  have q2 := (hB.block g6 (lt_of_rowW q1)).trans q1
  exact ⟨Rd.below (B := wA.heap.size) hR hB, q2, (hb.trans (hF.below hb.size h1 (fun g e => by cases e))).trans (hB.mono (Nat.le_trans hb.size hF.size))⟩
theorem WvMid.set {w0 wr : World} {b : Nat} {r : Option Nat} {xs : List UInt8} {g6 pos : Nat} {err : Int} {row : Array Value} (h : WvMid w0 b r xs g6 pos err row wr) (ha : WvAt w0 b r g6) (row' : Array Value) : WvMid w0 b r xs g6 pos err row' (wr.setRow g6 row') := by
  obtain ⟨h1, h2, h3, h4, h5⟩ := ha
  obtain ⟨hr, hg, hb⟩ := h
  refine ⟨hr.keep (setRow_other wr g6 b _ (fun e => h4 e.symm)) (fun g e => setRow_other wr g6 g _ (fun e2 => h5 (e.trans (by rw [e2])))), setRow_heap wr g6 _ _ _ _ hg, below_setRow hb h3 _⟩
theorem WvMid.below {w0 wr w' : World} {b : Nat} {r : Option Nat} {xs : List UInt8} {g6 pos : Nat} {err : Int} {row : Array Value} (h : WvMid w0 b r xs g6 pos err row wr) (hB : Below wr.heap.size wr w') : WvMid w0 b r xs g6 pos err row w' :=
  ⟨Rd.below (B := wr.heap.size) h.1 hB, (hB.block g6 (lt_of_rowW h.2.1)).trans h.2.1, h.2.2.trans (hB.mono h.2.2.size)⟩
theorem nx_pos (xs : List UInt8) (k : Nat) (err : Int) (n : Nat) : k ≤ (nx xs k err n).2.1 := by
  unfold nx
  split
  · exact Nat.le_refl _
  · split
    · exact Nat.le_add_right _ _
    · exact Nat.le_refl _
section
variable {P : Program}
theorem wpList_runWanted {ops : Array Oper} {rest : List Oper} {op : Oper} {a : Act} {w : World} {Q : Exit → Act → World → Prop} (hw : Region.wanted op (yielded ops a.tmps) = true) (v : Value)
    (hrun : (execOp a.eval op).run P w = .ok (.value v) w) (h : wpList P ops Q rest (a.put op.dst v) w) : wpList P ops Q (op :: rest) a w :=
  wpList_step fun K hK => by
    rw [if_pos hw]
    unfold Oper.wp
    rw [hrun, Oper.upon_value]
    exact hK _ _ h
theorem wpList_loadWanted {ops : Array Oper} {rest : List Oper} {op : Oper} {a : Act} {w : World} {Q : Exit → Act → World → Prop} (hw : Region.wanted op (yielded ops a.tmps) = true) (ty : TypeId) (x : Operand) (ho : op.op = .load ty x)
    (p : Addr) (hx : a.eval x = .pointer (some p)) (cs : List Value) (d : TypeDesc) (hc : ∀ j v, cs[j]? = some v → w.cell? (p.add j) = some v)
    (hu : P.underlying ty = some d) (hd : d.isRow = true) (hi : (P.info? ty).map (·.size) = some cs.length)
    (h : wpList P ops Q rest (a.put op.dst (.agg cs.toArray)) w) : wpList P ops Q (op :: rest) a w :=
  wpList_step fun K hK => by
    rw [if_pos hw]
    unfold Oper.wp execOp
    simp only [ho, hx, Instr.loadAt, Instr.sureAddr, Sem.run_bind, Sem.run_pure, Result.andThen_ok, run_loadVar_allW w p ty cs d hc hu hd hi]
    exact hK _ _ h
end
set_option maxRecDepth 100000 in
set_option maxHeartbeats 8000000 in
theorem wreads_any (aob : Option Addr) (cb : Nat) (XS : List UInt8) (ao : Option Addr) (c : Nat) (L : List PartD) (w : World) (hS : Sl w (.slice aob XS.length cb) XS) (hP : Prts w (.slice ao L.length c) L) (hlx : XS.length ≤ 9223372036854775807) (hlen : L.length ≤ 9223372036854775807) :
    Calls Try.prog 4 #[.slice aob XS.length cb, .slice ao L.length c] w fun e w' => e = .returned (.bool true) ∧ Below w.heap.size w w' := by
  have HP := Lib.hid hP
  have HS := Lib.hid hS
  clear hP hS
  by_cases hout : 1000 < XS.length ∨ 40 < L.length
  · rcases Nat.lt_or_ge 1000 XS.length with h1 | h1
    · have hi : (1000 : Int) < (XS.length : Int) := by omega
      clear hout
      go_enter Try.func4, Try.ntmps4
      go_wp2_with fail
      refine (writes_any w).mono ?_
      rintro e w0 ⟨rfl, hB0⟩
      have HB0 := Lib.hid hB0
      clear hB0
      go_wp2_with fail
      go_ret
      exact ⟨rfl, HB0.out⟩
    · have hi : ¬ (1000 : Int) < (XS.length : Int) := by omega
      have hi2 : (40 : Int) < (L.length : Int) := by omega
      clear hout
      go_enter Try.func4, Try.ntmps4
      go_wp2_with fail
      refine (writes_any w).mono ?_
      rintro e w0 ⟨rfl, hB0⟩
      have HB0 := Lib.hid hB0
      clear hB0
      go_wp2_with fail
      go_ret
      exact ⟨rfl, HB0.out⟩
  have hx : XS.length ≤ 1000 := by omega
  have hl40 : L.length ≤ 40 := by omega
  have hi : ¬ (1000 : Int) < (XS.length : Int) := by omega
  have hi2 : ¬ (40 : Int) < (L.length : Int) := by omega
  clear hout
  go_enter Try.func4, Try.ntmps4
  go_wp2_with fail
  refine (writes_any w).mono ?_
  rintro e w0 ⟨rfl, hB0⟩
  have HB0 := Lib.hid hB0
  have HP0 := Lib.hid (HP.out.below hB0 (Nat.le_refl _))
  have hS0 := HS.out.below' hB0 (Nat.le_refl _)
  have HS0 := Lib.hid hS0
  obtain ⟨ao', c', e5, hno, hs⟩ := hS0
  injection e5 with e1 e2 e3
  subst e1
  have HXL := Lib.hid (show XS.length ≤ 140737488355328 by omega)
  have HX6 := Lib.hid (show XS.length ≤ 1000000 by omega)
  have RD := Lib.hid (read_any (w := w0) aob XS.length cb XS rfl (fun e => by rw [hno e]; rfl) hs HXL.out)
  clear hB0 hno hs e2 e3 hi hi2
  go_wp2_with fail
  refine RD.out.mono ?_
  rintro e w2 ⟨b, r, rfl, hRd, hb2, hbl, hrl⟩
  obtain ⟨ao', c', e5, hno, hs⟩ := HS0.out.below' hb2 (Nat.le_refl _)
  injection e5 with e1 e2 e3
  subst e1
  have hcv := run_convert_sl (n := XS.length) (c := cb) rfl hno hs
  obtain ⟨SX, hSX⟩ : ∃ SX, SX = str XS := ⟨_, rfl⟩
  rw [← hSX] at hcv
  obtain ⟨g6, hg6⟩ : ∃ g, g = w2.heap.size := ⟨_, rfl⟩
  obtain ⟨w3, hw3⟩ : ∃ w3, w3 = w2.alloc (.cells #[.string SX, .int .i64 0] 57) := ⟨_, rfl⟩
  have hb3 : Below w2.heap.size w2 w3 := by rw [hw3]; exact (Below.refl _ _).alloc (Nat.le_refl _) _
  have n6 : w3.heap[g6]? = some (.cells #[.string (str (lf XS 0 0)), .int .i64 0] 57 (0, 0)) := by rw [hw3, hg6, lf_ok, List.drop_zero, ← hSX]; exact heap_alloc_new _ _
  have AT := Lib.hid (show WvAt w0 b r g6 from ⟨hbl, hrl, by rw [hg6]; exact hb2.size, by have := hRd.lt; omega, fun e => by have := hRd.rlt g6 e; omega⟩)
  have R0 := Lib.hid (show WvRel w0 b r XS g6 L.length (.int .i64 0) w3 from ⟨0, 0, 0, rfl, Nat.zero_le _, Rd.below (B := w2.heap.size) hRd hb3, n6, hb2.trans (hb3.mono hb2.size)⟩)
  have HG6 := Lib.hid hg6
  have HW3 := Lib.hid hw3
  clear hno hs e2 e3 hRd hb2 hbl hrl hSX hw3 hg6 hb3 n6 RD
  go_upto_region 7 with fail
  rw [← HW3.out, ← HG6.out]
  clear hcv
  go_wp2_with fail
  go_loopw [36] (fun u wr => WvRel w0 b r XS g6 L.length u wr) (fun u _ => L.length - (intOf u).toNat)
  case atStart => exact R0.out
  case round =>
    obtain ⟨wq, rfl⟩ : ∃ wq : World, wq = wr := ⟨_, rfl⟩
    obtain ⟨k, pos, err, rfl, hk, hst⟩ := hrel
    have HST := Lib.hid hst
    clear hst R0
    by_cases hkl : k < L.length
    · have hkk : (k : Int) < (L.length : Int) := by omega
      obtain ⟨a, rfl, hcell, hg⟩ := HP0.out.at hkl
      obtain ⟨p, hp⟩ : ∃ p, p = L.getD k default := ⟨_, rfl⟩
      rw [← hp] at hcell hg
      have HC := Lib.hid (show ∀ i u, p.cells[i]? = some u → wq.cell? ((a.add (k * 36)).add i) = some u from fun i u hu => by
        have h := hcell i u hu
        rw [HST.out.2.2.cell (World.block_lt_of_cell? w0 _ h)]
        exact h)
      have HZ := Lib.hid (Try.partSize hg)
      have HZ' := Lib.hid (show (Try.prog.info? 31).map (·.size) = some p.cells.toArray.size by rw [List.size_toArray]; exact Try.partSize hg)
      have HO1 := Lib.hid p.cells_one
      obtain ⟨w9, hw9⟩ : ∃ w9, w9 = wq.alloc (.cells p.cells.toArray 31) := ⟨_, rfl⟩
      obtain ⟨k9, hk9⟩ : ∃ k9, k9 = wq.heap.size := ⟨_, rfl⟩
      have hb9 : Below wq.heap.size wq w9 := by rw [hw9]; exact (Below.refl _ _).alloc (Nat.le_refl _) _
      have HK9 := Lib.hid (show w9.heap[k9]? = some (.cells p.cells.toArray 31 (0, 0)) by rw [hw9, hk9]; exact heap_alloc_new _ _)
      have ST9 := Lib.hid (show WvSt w0 b r XS g6 pos err w9 from ⟨Rd.below (B := wq.heap.size) HST.out.1 hb9, (hb9.block g6 (lt_of_rowW HST.out.2.1)).trans HST.out.2.1, HST.out.2.2.trans (hb9.mono HST.out.2.2.size)⟩)
      have HNE := Lib.hid (show k9 ≠ b ∧ k9 ≠ g6 from ⟨by have := HST.out.1.lt; omega, by have := lt_of_rowW HST.out.2.1; omega⟩)
      have HGD := Lib.hid hg
      have HW9 := Lib.hid hw9
      have HKE := Lib.hid hk9
      have HSZX := Lib.hid (show 36 = p.cells.toArray.size by have := PartD.cells_length hg; simp [this])
      have e0 : w9.cell? ⟨k9, 0, none⟩ = some (.int .i64 p.kind) := by rw [cell_of_rowW w9 k9 0 _ _ _ HK9.out]; rfl
      have HPOS := Lib.hid (show pos ≤ XS.length from HST.out.1.1)
      have HLF := Lib.hid (show (lf XS pos err).length ≤ 1000000 by have := HX6.out; unfold lf; split <;> simp <;> omega)
      obtain ⟨kd, hkd⟩ : ∃ kd, kd = p.kind := ⟨_, rfl⟩
      rw [← hkd] at e0
      have HKD := Lib.hid hkd
      clear hcell hp hg hw9 hk9 hb9 hk hkd HST
      go_upto_block 1 with fail
      go_cut [] (fun wx => ∃ pos err, WvSt w0 b r XS g6 pos err wx)
      case first =>
        go_upto_block 2 with (first
          | (with_reducible show wpList _ _ _ _ _ _; refine wpList_load_allW rfl 31 (.tmp 38) rfl (a.add (k * 36)) rfl p.cells _ HC.out Try.underlying31 rfl HZ.out ?_)
          | (with_reducible show wpList _ _ _ _ _ _; refine wpList_store_newW rfl 31 (.tmp 8) (.tmp 39) rfl 31 _ p.cells.toArray rfl rfl HZ'.out (by with_unfolding_all exact HSZX.out) HO1.out ?_; rw [← HW9.out, ← HKE.out]))
        go_cut [] (fun wx => ∃ pos err, WvSt w0 b r XS g6 pos err wx)
        case first =>
          obtain rfl | rfl | rfl | rfl | rfl | rfl | rfl | ⟨n0, n1, n2, n3, n4, n5, n6⟩ : kd = 0 ∨ kd = 1 ∨ kd = 2 ∨ kd = 3 ∨ kd = 4 ∨ kd = 5 ∨ kd = 6 ∨ (¬ kd = 0 ∧ ¬ kd = 1 ∧ ¬ kd = 2 ∧ ¬ kd = 3 ∧ ¬ kd = 4 ∧ ¬ kd = 5 ∧ ¬ kd = 6) := by omega
          · as_aux_lemma =>
              have CA := rbyte_any ST9.out.1 HXL.out
              have CB := fun W => refTake_any (lf XS pos err) err 1 (by decide) HLF.out W
              simp only [tk_eq XS pos err 1 HPOS.out] at CB
              have hrb := rb_nx XS pos err
              obtain ⟨X, hX⟩ : ∃ X, X = nx XS pos err 1 := ⟨_, rfl⟩
              obtain ⟨Y, hY⟩ : ∃ Y, Y = rb XS pos err := ⟨_, rfl⟩
              rw [← hX, ← hY] at hrb
              simp only [← hX] at CB
              rw [← hY] at CA
              obtain ⟨x1, pos2, err2⟩ := X
              obtain ⟨y, pos1, err1⟩ := Y
              dsimp only at CA CB hrb
              obtain ⟨hr1, hr2⟩ := hrb
              injection hr1 with h1 h2
              subst h1
              subst h2
              unfold stv at CB
              unfold bv at CA
              rw [show ((1 : Nat) : Int) = 1 from rfl] at CB
              clear hX hY
              rcases hr2 with ⟨rfl, rfl⟩ | rfl
              · rw [show str [] = (⟨#[]⟩ : ByteArray) from rfl] at CB
                rw [show (((0 : UInt8).toNat : Nat) : Int) = 0 from rfl] at CA
                replace CA := Lib.hid CA
                replace CB := Lib.hid CB
                go_wp2_with fail
                refine CA.out.mono ?_
                rintro e wA ⟨rfl, hR, hF⟩
                have q6 := fr_row hF ST9.out.2.1 AT.out.2.2.2.1 (by simp)
                have k0 : wA.cell? ⟨g6, 0, none⟩ = some (.string (str (lf XS pos err))) := by rw [cell_of_rowW wA g6 0 _ _ _ q6]; rfl
                have k1 : wA.cell? ⟨g6, 1, none⟩ = some (.int .i64 err) := by rw [cell_of_rowW wA g6 1 _ _ _ q6]; rfl
                have HR := Lib.hid hR
                have HF := Lib.hid hF
                clear hR hF q6
                go_wp2_with fail
                refine (CB.out wA).mono ?_
                rintro e wB ⟨rfl, hB⟩
                obtain ⟨⟨_, _, _, z6, rfl, rfl, rfl⟩, hst⟩ := wv_step AT.out ST9.out HR.out HF.out hB
                obtain ⟨wD, hwD⟩ : ∃ wD, wD = wB.setRow g6 #[.string (str (lf XS pos1 err1)), .int .i64 err1] := ⟨_, rfl⟩
                rw [← hwD] at hst
                have Z6 := Lib.hid z6
                have ST := Lib.hid hst
                have HWD := Lib.hid hwD
                have SZ := Lib.hid (show (Try.prog.info? 57).map (·.size) = some (#[.string (str (lf XS pos1 err1)), .int .i64 err1] : Array Value).size by kernel_rfl)
                clear z6 hst hwD hB
                go_wp2_with (with_reducible show wpList _ _ _ _ _ _; refine wpList_store_whole rfl 57 (.tmp 6) (.tmp 50) rfl g6 57 _ #[.string (str (lf XS pos1 err1)), .int .i64 err1] rfl rfl Z6.out SZ.out rfl (by kernel_rfl) ?_; rw [← HWD.out])
                go_meet
                exact ⟨pos1, err1, ST.out⟩
              · obtain ⟨S1, hS1⟩ : ∃ S1, S1 = str [y] := ⟨_, rfl⟩
                have hat : ∀ h' : 0 < S1.size, S1[0]'h' = y := by subst hS1; intro h'; simpa using str_at [y] (k := 0) (by simp) h'
                have hs1 : S1.size = 1 := by rw [hS1]; exact wstr_size [y]
                have hne : S1.toList.isEmpty = false := by rw [hS1, ByteArray.toList_eq]; rfl
                rw [← hS1] at CB
                clear hS1
                replace CA := Lib.hid CA
                replace CB := Lib.hid CB
                go_wp2_with fail
                refine CA.out.mono ?_
                rintro e wA ⟨rfl, hR, hF⟩
                have q6 := fr_row hF ST9.out.2.1 AT.out.2.2.2.1 (by simp)
                have k0 : wA.cell? ⟨g6, 0, none⟩ = some (.string (str (lf XS pos err))) := by rw [cell_of_rowW wA g6 0 _ _ _ q6]; rfl
                have k1 : wA.cell? ⟨g6, 1, none⟩ = some (.int .i64 err) := by rw [cell_of_rowW wA g6 1 _ _ _ q6]; rfl
                have HR := Lib.hid hR
                have HF := Lib.hid hF
                clear hR hF q6
                go_wp2_with fail
                refine (CB.out wA).mono ?_
                rintro e wB ⟨rfl, hB⟩
                obtain ⟨⟨_, _, _, z6, rfl, rfl, rfl⟩, hst⟩ := wv_step AT.out ST9.out HR.out HF.out hB
                obtain ⟨wD, hwD⟩ : ∃ wD, wD = wB.setRow g6 #[.string (str (lf XS pos1 err1)), .int .i64 err1] := ⟨_, rfl⟩
                rw [← hwD] at hst
                have Z6 := Lib.hid z6
                have ST := Lib.hid hst
                have HWD := Lib.hid hwD
                have SZ := Lib.hid (show (Try.prog.info? 57).map (·.size) = some (#[.string (str (lf XS pos1 err1)), .int .i64 err1] : Array Value).size by kernel_rfl)
                clear z6 hst hwD hB
                go_wp2_with (with_reducible show wpList _ _ _ _ _ _; refine wpList_store_whole rfl 57 (.tmp 6) (.tmp 50) rfl g6 57 _ #[.string (str (lf XS pos1 err1)), .int .i64 err1] rfl rfl Z6.out SZ.out rfl (by kernel_rfl) ?_; rw [← HWD.out])
                go_meet
                exact ⟨pos1, err1, ST.out⟩
          · as_aux_lemma =>
              obtain ⟨mo, hmo⟩ : ∃ mo : Nat, p.most = (mo : Int) := ⟨p.most.toNat, by have := HGD.out.most; omega⟩
              have hm64 : mo < 18446744073709551616 := by have := HGD.out.most; omega
              have CA := rnum_any ST9.out.1 HXL.out mo hm64
              unfold NumPost at CA
              have CB := fun W => refNumber_any (lf XS pos err) err mo hm64 HLF.out W
              simp only [rn_eq] at CB
              have hn := rn_le XS pos err mo
              obtain ⟨X, hX⟩ : ∃ X, X = rn XS pos err mo := ⟨_, rfl⟩
              rw [← hX] at CA hn
              simp only [← hX] at CB
              obtain ⟨n1, pos1, err1⟩ := X
              dsimp only at CA CB hn
              unfold stv at CB
              replace CA := Lib.hid CA
              replace CB := Lib.hid CB
              have c2 : w9.cell? ⟨k9, 2, none⟩ = some (.int .u64 (mo : Int)) := by rw [cell_of_rowW w9 k9 2 _ _ _ HK9.out, ← hmo]; rfl
              have HMO := Lib.hid hmo
              clear hm64 hX hmo hn
              go_wp2_with fail
              refine CA.out.mono ?_
              rintro e wA ⟨rfl, hR, hF⟩
              have q6 := fr_row hF ST9.out.2.1 AT.out.2.2.2.1 (by simp)
              have k0 : wA.cell? ⟨g6, 0, none⟩ = some (.string (str (lf XS pos err))) := by rw [cell_of_rowW wA g6 0 _ _ _ q6]; rfl
              have k1 : wA.cell? ⟨g6, 1, none⟩ = some (.int .i64 err) := by rw [cell_of_rowW wA g6 1 _ _ _ q6]; rfl
              have d2 : wA.cell? ⟨k9, 2, none⟩ = some (.int .u64 (mo : Int)) := by rw [cell_of_rowW wA k9 2 _ _ _ (fr_row hF HK9.out HNE.out.1 (by simp)), ← HMO.out]; rfl
              have HR := Lib.hid hR
              have HF := Lib.hid hF
              clear hR hF q6
              go_wp2_with fail
              refine (CB.out wA).mono ?_
              rintro e wB ⟨rfl, hB⟩
              obtain ⟨⟨_, _, _, z6, rfl, rfl, rfl⟩, hst⟩ := wv_step AT.out ST9.out HR.out HF.out hB
              obtain ⟨wD, hwD⟩ : ∃ wD, wD = wB.setRow g6 #[.string (str (lf XS pos1 err1)), .int .i64 err1] := ⟨_, rfl⟩
              rw [← hwD] at hst
              have Z6 := Lib.hid z6
              have ST := Lib.hid hst
              have HWD := Lib.hid hwD
              have SZ := Lib.hid (show (Try.prog.info? 57).map (·.size) = some (#[.string (str (lf XS pos1 err1)), .int .i64 err1] : Array Value).size by kernel_rfl)
              clear z6 hst hwD hB
              go_wp2_with (with_reducible show wpList _ _ _ _ _ _; refine wpList_store_whole rfl 57 (.tmp 6) (.tmp 79) rfl g6 57 _ #[.string (str (lf XS pos1 err1)), .int .i64 err1] rfl rfl Z6.out SZ.out rfl (by kernel_rfl) ?_; rw [← HWD.out])
              go_meet
              exact ⟨pos1, err1, ST.out⟩
          · as_aux_lemma =>
              have CA := rint_any ST9.out.1 HXL.out
              unfold IntPost at CA
              have CB := fun W => refNumber_any (lf XS pos err) err 18446744073709551615 (by decide) HLF.out W
              simp only [rn_eq] at CB
              have hn := rn_le XS pos err 18446744073709551615
              obtain ⟨X, hX⟩ : ∃ X, X = rn XS pos err 18446744073709551615 := ⟨_, rfl⟩
              rw [← hX] at CA hn
              simp only [← hX] at CB
              obtain ⟨n1, pos1, err1⟩ := X
              dsimp only at CA CB hn
              unfold stv at CB
              have SG := Lib.hid (fun W => refSigned_any n1 (by omega) W)
              rw [show ((18446744073709551615 : Nat) : Int) = 18446744073709551615 from rfl] at CB
              replace CA := Lib.hid CA
              replace CB := Lib.hid CB
              clear hX hn
              go_wp2_with fail
              refine CA.out.mono ?_
              rintro e wA ⟨rfl, hR, hF⟩
              have q6 := fr_row hF ST9.out.2.1 AT.out.2.2.2.1 (by simp)
              have k0 : wA.cell? ⟨g6, 0, none⟩ = some (.string (str (lf XS pos err))) := by rw [cell_of_rowW wA g6 0 _ _ _ q6]; rfl
              have k1 : wA.cell? ⟨g6, 1, none⟩ = some (.int .i64 err) := by rw [cell_of_rowW wA g6 1 _ _ _ q6]; rfl
              have HR := Lib.hid hR
              have HF := Lib.hid hF
              clear hR hF q6
              go_wp2_with fail
              refine (CB.out wA).mono ?_
              rintro e wB ⟨rfl, hB⟩
              obtain ⟨⟨_, _, _, z6, rfl, rfl, rfl⟩, hst⟩ := wv_step AT.out ST9.out HR.out HF.out hB
              obtain ⟨wD, hwD⟩ : ∃ wD, wD = wB.setRow g6 #[.string (str (lf XS pos1 err1)), .int .i64 err1] := ⟨_, rfl⟩
              rw [← hwD] at hst
              have Z6 := Lib.hid z6
              have ST := Lib.hid hst
              have HWD := Lib.hid hwD
              have SZ := Lib.hid (show (Try.prog.info? 57).map (·.size) = some (#[.string (str (lf XS pos1 err1)), .int .i64 err1] : Array Value).size by kernel_rfl)
              clear z6 hst hwD hB
              go_wp2_with (with_reducible show wpList _ _ _ _ _ _; refine wpList_store_whole rfl 57 (.tmp 6) (.tmp 91) rfl g6 57 _ #[.string (str (lf XS pos1 err1)), .int .i64 err1] rfl rfl Z6.out SZ.out rfl (by kernel_rfl) ?_; rw [← HWD.out])
              refine (SG.out _).mono ?_
              rintro e w' ⟨rfl, h⟩
              subst h
              go_wp2_with fail
              go_meet
              exact ⟨pos1, err1, ST.out⟩
          · as_aux_lemma =>
              have CA := rfixed_any ST9.out.1 HXL.out
              unfold FixPost at CA
              have hl4 : (nx XS pos err 4).1 = [] ∨ (nx XS pos err 4).1.length = 4 := by
                unfold nx
                split
                · exact Or.inl rfl
                · split
                  · exact Or.inr (by simp; omega)
                  · exact Or.inl rfl
              have CB := fun W => refTake_any (lf XS pos err) err 4 (by decide) HLF.out W
              simp only [tk_eq XS pos err 4 HPOS.out] at CB
              obtain ⟨X, hX⟩ : ∃ X, X = nx XS pos err 4 := ⟨_, rfl⟩
              rw [← hX] at CA
              simp only [← hX] at CB
              rw [← hX] at hl4
              obtain ⟨x1, pos1, err1⟩ := X
              dsimp only at CA CB hl4
              unfold stv at CB
              rw [show ((4 : Nat) : Int) = 4 from rfl] at CB
              have hrf : rfN x1 x1.length = lwN x1 := by
                rcases hl4 with h | h
                · subst h; rfl
                · rw [h]; exact rfN_lwN x1 h
              rw [hrf] at CA
              have LO := Lib.hid (fun W => refLow_any x1 (by rcases hl4 with h | h <;> simp [h]) W)
              replace CA := Lib.hid CA
              replace CB := Lib.hid CB
              clear hX hrf hl4
              go_wp2_with fail
              refine CA.out.mono ?_
              rintro e wA ⟨rfl, hR, hF⟩
              have q6 := fr_row hF ST9.out.2.1 AT.out.2.2.2.1 (by simp)
              have k0 : wA.cell? ⟨g6, 0, none⟩ = some (.string (str (lf XS pos err))) := by rw [cell_of_rowW wA g6 0 _ _ _ q6]; rfl
              have k1 : wA.cell? ⟨g6, 1, none⟩ = some (.int .i64 err) := by rw [cell_of_rowW wA g6 1 _ _ _ q6]; rfl
              have HR := Lib.hid hR
              have HF := Lib.hid hF
              clear hR hF q6
              go_wp2_with fail
              refine (CB.out wA).mono ?_
              rintro e wB ⟨rfl, hB⟩
              obtain ⟨⟨_, _, _, z6, rfl, rfl, rfl⟩, hst⟩ := wv_step AT.out ST9.out HR.out HF.out hB
              obtain ⟨wD, hwD⟩ : ∃ wD, wD = wB.setRow g6 #[.string (str (lf XS pos1 err1)), .int .i64 err1] := ⟨_, rfl⟩
              rw [← hwD] at hst
              have Z6 := Lib.hid z6
              have ST := Lib.hid hst
              have HWD := Lib.hid hwD
              have SZ := Lib.hid (show (Try.prog.info? 57).map (·.size) = some (#[.string (str (lf XS pos1 err1)), .int .i64 err1] : Array Value).size by kernel_rfl)
              clear z6 hst hwD hB
              go_wp2_with (with_reducible show wpList _ _ _ _ _ _; refine wpList_store_whole rfl 57 (.tmp 6) (.tmp 104) rfl g6 57 _ #[.string (str (lf XS pos1 err1)), .int .i64 err1] rfl rfl Z6.out SZ.out rfl (by kernel_rfl) ?_; rw [← HWD.out])
              refine (LO.out _).mono ?_
              rintro e w' ⟨rfl, h⟩
              subst h
              go_wp2_with fail
              go_meet
              exact ⟨pos1, err1, ST.out⟩
          · as_aux_lemma =>
              have CA := rtext_any ST9.out.1 HXL.out
              unfold TextPost rt at CA
              have CB := fun W => refNumber_any (lf XS pos err) err 4096 (by decide) HLF.out W
              simp only [rn_eq] at CB
              have hn := rn_le XS pos err 4096
              obtain ⟨X, hX⟩ : ∃ X, X = rn XS pos err 4096 := ⟨_, rfl⟩
              rw [← hX] at CA hn
              simp only [← hX] at CB
              obtain ⟨n1, pos1, err1⟩ := X
              dsimp only at CA CB hn
              unfold stv at CB
              rw [show ((4096 : Nat) : Int) = 4096 from rfl] at CB
              obtain ⟨Y, hY⟩ : ∃ Y, Y = nx XS pos1 err1 n1 := ⟨_, rfl⟩
              rw [← hY] at CA
              obtain ⟨x1, pos2, err2⟩ := Y
              dsimp only at CA
              have HY := Lib.hid hY
              replace CA := Lib.hid CA
              replace CB := Lib.hid CB
              have hn4 : (n1 : Int) < 4097 := by omega
              have HN4 := Lib.hid hn
              clear hX hn hY
              go_wp2_with fail
              refine CA.out.mono ?_
              rintro e wA ⟨rfl, hR, hF⟩
              have q6 := fr_row hF ST9.out.2.1 AT.out.2.2.2.1 (by simp)
              have k0 : wA.cell? ⟨g6, 0, none⟩ = some (.string (str (lf XS pos err))) := by rw [cell_of_rowW wA g6 0 _ _ _ q6]; rfl
              have k1 : wA.cell? ⟨g6, 1, none⟩ = some (.int .i64 err) := by rw [cell_of_rowW wA g6 1 _ _ _ q6]; rfl
              have HR := Lib.hid hR
              have HF := Lib.hid hF
              clear hR hF q6
              go_wp2_with fail
              refine (CB.out wA).mono ?_
              rintro e wB ⟨rfl, hB⟩
              have M1 := wv_mid AT.out ST9.out HR.out HF.out hB
              obtain ⟨wC, hwC⟩ : ∃ wC, wC = wB.setRow g6 #[.string (str (lf XS pos1 err1)), .int .i64 err1] := ⟨_, rfl⟩
              have M2 := M1.set AT.out #[.string (str (lf XS pos1 err1)), .int .i64 err1]
              rw [← hwC] at M2
              clear k0 k1
              have k0 : wC.cell? ⟨g6, 0, none⟩ = some (.string (str (lf XS pos1 err1))) := by rw [cell_of_rowW wC g6 0 _ _ _ M2.2.1]; rfl
              have k1 : wC.cell? ⟨g6, 1, none⟩ = some (.int .i64 err1) := by rw [cell_of_rowW wC g6 1 _ _ _ M2.2.1]; rfl
              have Z6 := Lib.hid M1.2.1
              have HM2 := Lib.hid M2
              have HWC := Lib.hid hwC
              have SZ := Lib.hid (show (Try.prog.info? 57).map (·.size) = some (#[.string (str (lf XS pos1 err1)), .int .i64 err1] : Array Value).size by kernel_rfl)
              have hp1 : pos1 ≤ XS.length := by
                have h5 := nx_pos XS pos1 err1 n1
                rw [← HY.out] at h5
                have h6 : pos2 ≤ XS.length := HR.out.1
                exact Nat.le_trans h5 h6
              have hlf1 : (lf XS pos1 err1).length ≤ 1000000 := by have := HX6.out; unfold lf; split <;> simp <;> omega
              have CT := fun W => refTake_any (lf XS pos1 err1) err1 n1 (by have := HN4.out; omega) hlf1 W
              simp only [tk_eq XS pos1 err1 n1 hp1, ← HY.out] at CT
              unfold stv at CT
              replace CT := Lib.hid CT
              clear M1 M2 hwC hB hp1 hlf1
              go_wp2_with (with_reducible show wpList _ _ _ _ _ _; refine wpList_store_whole rfl 57 (.tmp 6) (.tmp 117) rfl g6 57 _ #[.string (str (lf XS pos1 err1)), .int .i64 err1] rfl rfl Z6.out SZ.out rfl (by kernel_rfl) ?_; rw [← HWC.out])
              refine (CT.out wC).mono ?_
              rintro e wD ⟨rfl, hD⟩
              have M3 := HM2.out.below hD
              obtain ⟨wE, hwE⟩ : ∃ wE, wE = wD.setRow g6 #[.string (str (lf XS pos2 err2)), .int .i64 err2] := ⟨_, rfl⟩
              have M4 := M3.set AT.out #[.string (str (lf XS pos2 err2)), .int .i64 err2]
              rw [← hwE] at M4
              have Z7 := Lib.hid M3.2.1
              have ST := Lib.hid (show WvSt w0 b r XS g6 pos2 err2 wE from M4)
              have HWE := Lib.hid hwE
              have SZ2 := Lib.hid (show (Try.prog.info? 57).map (·.size) = some (#[.string (str (lf XS pos2 err2)), .int .i64 err2] : Array Value).size by kernel_rfl)
              clear M3 M4 hwE hD k0 k1
              go_wp2_with (with_reducible show wpList _ _ _ _ _ _; refine wpList_store_whole rfl 57 (.tmp 6) (.tmp 124) rfl g6 57 _ #[.string (str (lf XS pos2 err2)), .int .i64 err2] rfl rfl Z7.out SZ2.out rfl (by kernel_rfl) ?_; rw [← HWE.out])
              go_meet
              exact ⟨pos2, err2, ST.out⟩
          · as_aux_lemma =>
              have CA := rsum_any ST9.out.1 HXL.out
              unfold SumPost at CA
              have h32 := nx32 XS pos err
              have CB := fun W => refTake_any (lf XS pos err) err 32 (by decide) HLF.out W
              simp only [tk_eq XS pos err 32 HPOS.out] at CB
              obtain ⟨X, hX⟩ : ∃ X, X = nx XS pos err 32 := ⟨_, rfl⟩
              rw [← hX] at CA
              simp only [← hX] at CB
              rw [← hX] at h32
              obtain ⟨x1, pos1, err1⟩ := X
              dsimp only at CA CB h32
              unfold stv at CB
              rw [show ((32 : Nat) : Int) = 32 from rfl] at CB
              have hsl := sm_length h32
              clear hX
              rcases h32 with rfl | h32
              · obtain ⟨S, hS⟩ : ∃ S, S = sm [] := ⟨_, rfl⟩
                rw [← hS] at CA hsl
                have HSL := Lib.hid hsl
                have HZ16 := Lib.hid (show (Try.prog.info? 29).map (·.size) = some (bvs S).toArray.size by rw [List.size_toArray, bvs_length, HSL.out]; kernel_rfl)
                have HZ16' := Lib.hid (show (Try.prog.info? 29).map (·.size) = some (bvs S).length by rw [bvs_length, HSL.out]; kernel_rfl)
                have HN16 := Lib.hid (show 32 = (bvs S).toArray.size by rw [List.size_toArray, bvs_length, HSL.out])
                have HO16 := Lib.hid (show (bvs S).toArray.all (·.oneCell') = true from all_oneCell_toArray (bvs_one S))
                have HSM := Lib.hid hS
                have HZL := Lib.hid (show (#[.int .u8 0, .int .u8 0, .int .u8 0, .int .u8 0, .int .u8 0, .int .u8 0, .int .u8 0, .int .u8 0, .int .u8 0, .int .u8 0, .int .u8 0, .int .u8 0, .int .u8 0, .int .u8 0, .int .u8 0, .int .u8 0, .int .u8 0, .int .u8 0, .int .u8 0, .int .u8 0, .int .u8 0, .int .u8 0, .int .u8 0, .int .u8 0, .int .u8 0, .int .u8 0, .int .u8 0, .int .u8 0, .int .u8 0, .int .u8 0, .int .u8 0, .int .u8 0] : Array Value) = (bvs S).toArray by rw [HSM.out]; exact Z32_eq.symm)
                rw [show str [] = (⟨#[]⟩ : ByteArray) from rfl] at CB
                replace CA := Lib.hid CA
                replace CB := Lib.hid CB
                clear hsl hS
                go_wp2_with fail
                refine CA.out.mono ?_
                rintro e wA ⟨rfl, hR, hF⟩
                obtain ⟨wS, hwS⟩ : ∃ wS, wS = wA.alloc (.cells (bvs S).toArray 29) := ⟨_, rfl⟩
                obtain ⟨k16, hk16⟩ : ∃ k, k = wA.heap.size := ⟨_, rfl⟩
                have hbS : Below wA.heap.size wA wS := by rw [hwS]; exact (Below.refl _ _).alloc (Nat.le_refl _) _
                have K16 : wS.heap[k16]? = some (.cells (bvs S).toArray 29 (0, 0)) := by rw [hwS, hk16]; exact heap_alloc_new _ _
                have q6 := (hbS.block g6 (lt_of_rowW (fr_row hF ST9.out.2.1 AT.out.2.2.2.1 (by simp)))).trans (fr_row hF ST9.out.2.1 AT.out.2.2.2.1 (by simp))
                have N16 := Lib.hid (show k16 ≠ g6 from by have := lt_of_rowW (fr_row hF ST9.out.2.1 AT.out.2.2.2.1 (by simp)); omega)
                have HR := Lib.hid (show Rd wS b r XS pos1 err1 from Rd.below (B := wA.heap.size) hR hbS)
                have HF := Lib.hid (show Fr w9 wS b none from hF.later hbS hF.size)
                have k0 : wS.cell? ⟨g6, 0, none⟩ = some (.string (str (lf XS pos err))) := by rw [cell_of_rowW wS g6 0 _ _ _ q6]; rfl
                have k1 : wS.cell? ⟨g6, 1, none⟩ = some (.int .i64 err) := by rw [cell_of_rowW wS g6 1 _ _ _ q6]; rfl
                have HWS := Lib.hid hwS
                have HK16 := Lib.hid hk16
                have HKS := Lib.hid K16
                clear hR hF q6 hwS hk16 hbS K16
                go_wp2_with (with_reducible show wpList _ _ _ _ _ _; refine wpList_store_newW rfl 29 (.tmp 16) (.tmp 131) rfl 29 _ (bvs S).toArray rfl rfl HZ16.out (by with_unfolding_all exact HN16.out) HO16.out ?_; rw [← HWS.out, ← HK16.out])
                refine (CB.out wS).mono ?_
                rintro e wB ⟨rfl, hB⟩
                obtain ⟨⟨_, _, _, z6, rfl, rfl, rfl⟩, hst⟩ := wv_step AT.out ST9.out HR.out HF.out hB
                obtain ⟨wD, hwD⟩ : ∃ wD, wD = wB.setRow g6 #[.string (str (lf XS pos1 err1)), .int .i64 err1] := ⟨_, rfl⟩
                rw [← hwD] at hst
                have KD : wD.heap[k16]? = some (.cells (bvs S).toArray 29 (0, 0)) := by rw [hwD, setRow_other wB g6 k16 _ N16.out, hB.block k16 (lt_of_rowW HKS.out)]; exact HKS.out
                have HKD := Lib.hid KD
                have Z6 := Lib.hid z6
                have ST := Lib.hid hst
                have HWD := Lib.hid hwD
                have SZ := Lib.hid (show (Try.prog.info? 57).map (·.size) = some (#[.string (str (lf XS pos1 err1)), .int .i64 err1] : Array Value).size by kernel_rfl)
                have HCD := Lib.hid (show ∀ j u, (bvs S)[j]? = some u → wD.cell? ((⟨k16, 0, none⟩ : Addr).add j) = some u from fun j u hu => by
                  rw [Addr.add_mid, cell_of_rowW wD k16 (0 + j) _ _ _ HKD.out]
                  simpa using hu)
                clear z6 hst hwD hB KD k0 k1
                go_wp2_with (first
                  | (with_reducible show wpList _ _ _ _ _ _; refine wpList_store_whole rfl 57 (.tmp 6) (.tmp 136) rfl g6 57 _ #[.string (str (lf XS pos1 err1)), .int .i64 err1] rfl rfl Z6.out SZ.out rfl (by kernel_rfl) ?_; rw [← HWD.out])
                  | (with_reducible show wpList _ _ _ _ _ _; refine wpList_loadWanted (by with_unfolding_all rfl) 29 (.tmp 16) rfl ⟨k16, 0, none⟩ (by with_unfolding_all rfl) (bvs S) _ HCD.out Try.underlying29 rfl HZ16'.out ?_)
                  | (with_reducible show wpList _ _ _ _ _ _; refine wpList_runWanted (by with_unfolding_all rfl) (.bool false) (exec_neq rfl S HSL.out (by with_unfolding_all rfl) (by with_unfolding_all exact congrArg Value.agg HZL.out) _) ?_))
                go_meet
                exact ⟨pos1, err1, ST.out⟩
              · obtain ⟨S, hS⟩ : ∃ S, S = sm x1 := ⟨_, rfl⟩
                rw [← hS] at CA hsl
                have HSL := Lib.hid hsl
                have HZ16 := Lib.hid (show (Try.prog.info? 29).map (·.size) = some (bvs S).toArray.size by rw [List.size_toArray, bvs_length, HSL.out]; kernel_rfl)
                have HZ16' := Lib.hid (show (Try.prog.info? 29).map (·.size) = some (bvs S).length by rw [bvs_length, HSL.out]; kernel_rfl)
                have HN16 := Lib.hid (show 32 = (bvs S).toArray.size by rw [List.size_toArray, bvs_length, HSL.out])
                have HO16 := Lib.hid (show (bvs S).toArray.all (·.oneCell') = true from all_oneCell_toArray (bvs_one S))
                have HSM := Lib.hid hS
                obtain ⟨S1, hS1⟩ : ∃ S1, S1 = str x1 := ⟨_, rfl⟩
                have hs1 : S1.size = 32 := by rw [hS1, wstr_size]; exact h32
                have hne : S1.toList.isEmpty = false := by
                  rw [ByteArray.toList_eq]
                  cases hq : S1.data.toList with
                  | nil =>
                    exfalso
                    have h3 : S1.size = S1.data.toList.length := by simp
                    rw [hq] at h3
                    have h5 : S1.size = 0 := h3
                    omega
                  | cons a l => rfl
                have HE1 := Lib.hid (show S = x1 by rw [HSM.out]; unfold sm; rw [if_neg (fun h => by rw [h] at h32; simp at h32)])
                have HS1 := Lib.hid hS1
                rw [← hS1] at CB
                clear hS1 h32
                replace CA := Lib.hid CA
                replace CB := Lib.hid CB
                clear hsl hS
                go_wp2_with fail
                refine CA.out.mono ?_
                rintro e wA ⟨rfl, hR, hF⟩
                obtain ⟨wS, hwS⟩ : ∃ wS, wS = wA.alloc (.cells (bvs S).toArray 29) := ⟨_, rfl⟩
                obtain ⟨k16, hk16⟩ : ∃ k, k = wA.heap.size := ⟨_, rfl⟩
                have hbS : Below wA.heap.size wA wS := by rw [hwS]; exact (Below.refl _ _).alloc (Nat.le_refl _) _
                have K16 : wS.heap[k16]? = some (.cells (bvs S).toArray 29 (0, 0)) := by rw [hwS, hk16]; exact heap_alloc_new _ _
                have q6 := (hbS.block g6 (lt_of_rowW (fr_row hF ST9.out.2.1 AT.out.2.2.2.1 (by simp)))).trans (fr_row hF ST9.out.2.1 AT.out.2.2.2.1 (by simp))
                have N16 := Lib.hid (show k16 ≠ g6 from by have := lt_of_rowW (fr_row hF ST9.out.2.1 AT.out.2.2.2.1 (by simp)); omega)
                have HR := Lib.hid (show Rd wS b r XS pos1 err1 from Rd.below (B := wA.heap.size) hR hbS)
                have HF := Lib.hid (show Fr w9 wS b none from hF.later hbS hF.size)
                have k0 : wS.cell? ⟨g6, 0, none⟩ = some (.string (str (lf XS pos err))) := by rw [cell_of_rowW wS g6 0 _ _ _ q6]; rfl
                have k1 : wS.cell? ⟨g6, 1, none⟩ = some (.int .i64 err) := by rw [cell_of_rowW wS g6 1 _ _ _ q6]; rfl
                have HWS := Lib.hid hwS
                have HK16 := Lib.hid hk16
                have HKS := Lib.hid K16
                clear hR hF q6 hwS hk16 hbS K16
                go_wp2_with (with_reducible show wpList _ _ _ _ _ _; refine wpList_store_newW rfl 29 (.tmp 16) (.tmp 131) rfl 29 _ (bvs S).toArray rfl rfl HZ16.out (by with_unfolding_all exact HN16.out) HO16.out ?_; rw [← HWS.out, ← HK16.out])
                refine (CB.out wS).mono ?_
                rintro e wB ⟨rfl, hB⟩
                obtain ⟨⟨_, _, _, z6, rfl, rfl, rfl⟩, hst⟩ := wv_step AT.out ST9.out HR.out HF.out hB
                obtain ⟨wD, hwD⟩ : ∃ wD, wD = wB.setRow g6 #[.string (str (lf XS pos1 err1)), .int .i64 err1] := ⟨_, rfl⟩
                rw [← hwD] at hst
                have KD : wD.heap[k16]? = some (.cells (bvs S).toArray 29 (0, 0)) := by rw [hwD, setRow_other wB g6 k16 _ N16.out, hB.block k16 (lt_of_rowW HKS.out)]; exact HKS.out
                have HKD := Lib.hid KD
                have Z6 := Lib.hid z6
                have ST := Lib.hid hst
                have HWD := Lib.hid hwD
                have SZ := Lib.hid (show (Try.prog.info? 57).map (·.size) = some (#[.string (str (lf XS pos1 err1)), .int .i64 err1] : Array Value).size by kernel_rfl)
                have HCD := Lib.hid (show ∀ j u, (bvs S)[j]? = some u → wD.cell? ((⟨k16, 0, none⟩ : Addr).add j) = some u from fun j u hu => by
                  rw [Addr.add_mid, cell_of_rowW wD k16 (0 + j) _ _ _ HKD.out]
                  simpa using hu)
                have hcv := run_convert_sl (w := wD) (ao := some ⟨k16, 0, none⟩) (n := 32) (c := 32) (ys := S) HSL.out (fun e => by cases e) (fun a e j u hu => by cases e; exact HCD.out j u hu)
                rw [HE1.out, ← HS1.out] at hcv
                clear z6 hst hwD hB KD k0 k1
                go_wp2_with (first
                  | (with_reducible show wpList _ _ _ _ _ _; refine wpList_store_whole rfl 57 (.tmp 6) (.tmp 136) rfl g6 57 _ #[.string (str (lf XS pos1 err1)), .int .i64 err1] rfl rfl Z6.out SZ.out rfl (by kernel_rfl) ?_; rw [← HWD.out]))
                go_meet
                exact ⟨pos1, err1, ST.out⟩
          · as_aux_lemma =>
              have CA := rcount_any ST9.out.1 HXL.out
              unfold CountPost at CA
              have CB := fun W => refNumber_any (lf XS pos err) err 4096 (by decide) HLF.out W
              simp only [rn_eq] at CB
              have hn := rn_le XS pos err 4096
              obtain ⟨X, hX⟩ : ∃ X, X = rn XS pos err 4096 := ⟨_, rfl⟩
              rw [← hX] at CA hn
              simp only [← hX] at CB
              obtain ⟨n1, pos1, err1⟩ := X
              dsimp only at CA CB hn
              unfold stv at CB
              rw [show ((4096 : Nat) : Int) = 4096 from rfl] at CB
              replace CA := Lib.hid CA
              replace CB := Lib.hid CB
              have hn1 : (n1 : Int) < 4097 := by omega
              clear hX hn
              go_wp2_with fail
              refine CA.out.mono ?_
              rintro e wA ⟨rfl, hR, hF⟩
              have q6 := fr_row hF ST9.out.2.1 AT.out.2.2.2.1 (by simp)
              have k0 : wA.cell? ⟨g6, 0, none⟩ = some (.string (str (lf XS pos err))) := by rw [cell_of_rowW wA g6 0 _ _ _ q6]; rfl
              have k1 : wA.cell? ⟨g6, 1, none⟩ = some (.int .i64 err) := by rw [cell_of_rowW wA g6 1 _ _ _ q6]; rfl
              have HR := Lib.hid hR
              have HF := Lib.hid hF
              clear hR hF q6
              go_wp2_with fail
              refine (CB.out wA).mono ?_
              rintro e wB ⟨rfl, hB⟩
              obtain ⟨⟨_, _, _, z6, rfl, rfl, rfl⟩, hst⟩ := wv_step AT.out ST9.out HR.out HF.out hB
              obtain ⟨wD, hwD⟩ : ∃ wD, wD = wB.setRow g6 #[.string (str (lf XS pos1 err1)), .int .i64 err1] := ⟨_, rfl⟩
              rw [← hwD] at hst
              have Z6 := Lib.hid z6
              have ST := Lib.hid hst
              have HWD := Lib.hid hwD
              have SZ := Lib.hid (show (Try.prog.info? 57).map (·.size) = some (#[.string (str (lf XS pos1 err1)), .int .i64 err1] : Array Value).size by kernel_rfl)
              clear z6 hst hwD hB
              go_wp2_with (with_reducible show wpList _ _ _ _ _ _; refine wpList_store_whole rfl 57 (.tmp 6) (.tmp 162) rfl g6 57 _ #[.string (str (lf XS pos1 err1)), .int .i64 err1] rfl rfl Z6.out SZ.out rfl (by kernel_rfl) ?_; rw [← HWD.out])
              go_meet
              exact ⟨pos1, err1, ST.out⟩
          · go_wp2_with fail
            go_meet
            exact ⟨pos, err, ST9.out⟩
        case rest =>
          obtain ⟨pos2, err2, hst⟩ := hcut
          have EC := Lib.hid (fun i => err_any (hst.1.drewN i))
          have LC := Lib.hid (fun i => left_any (hst.1.drewN i) HXL.out)
          have AC := Lib.hid (fun i => at_any (hst.1.drewN i))
          have ST2 := Lib.hid hst
          have hp2 := hst.1.1
          have k0 : wc.cell? ⟨g6, 0, none⟩ = some (.string (str (lf XS pos2 err2))) := by rw [cell_of_rowW wc g6 0 _ _ _ hst.2.1]; rfl
          have k1 : wc.cell? ⟨g6, 1, none⟩ = some (.int .i64 err2) := by rw [cell_of_rowW wc g6 1 _ _ _ hst.2.1]; rfl
          have hsz := wstr_size (lf XS pos2 err2)
          clear hst
          by_cases he : err2 = 0
          · subst he
            obtain ⟨m, hm⟩ : ∃ m, m = XS.length - pos2 := ⟨_, rfl⟩
            have hrl : rl XS pos2 0 = m := by rw [hm]; unfold rl; simp
            have hll : (lf XS pos2 0).length = m := by rw [lf_ok, List.length_drop, hm]
            rw [hrl] at LC
            rw [hll] at hsz
            have hsub : (XS.length : Int) - (m : Int) = (pos2 : Int) := by omega
            have hmm : m ≤ 1000 := by omega
            have hpp : pos2 ≤ 1000 := by omega
            generalize str (lf XS pos2 0) = SL at k0 hsz
            clear hm hrl hll
            go_upto_region 49 with fail
            go_quiet (first
              | (go_at_call 33; refine Calls.quiet_of_same ((EC.out _).mono fun _ _ h => ⟨h.1, h.2.symm⟩))
              | (go_at_call 26; refine Calls.quiet_of ((LC.out _).mono fun _ _ h => h))
              | (go_at_call 27; refine Calls.quiet_of_same ((AC.out _).mono fun _ _ h => ⟨h.1, h.2.symm⟩)))
            have ST3 := Lib.hid (show WvSt w0 b r XS g6 pos2 0 (wc.drewN nq) from ⟨ST2.out.1.drewN nq, ST2.out.2.1, below_drewN ST2.out.2.2 nq⟩)
            clear k0 k1
            go_wp2_with fail
            go_meet
            exact ⟨pos2, 0, ST3.out⟩
          · have hrl : rl XS pos2 err2 = 0 := by unfold rl; simp [he]
            have hll : (lf XS pos2 err2).length = 0 := by rw [lf_err he]; rfl
            rw [hrl] at LC
            rw [hll] at hsz
            generalize str (lf XS pos2 err2) = SL at k0 hsz
            clear hrl hll
            go_upto_region 49 with fail
            go_quiet (first
              | (go_at_call 33; refine Calls.quiet_of_same ((EC.out _).mono fun _ _ h => ⟨h.1, h.2.symm⟩))
              | (go_at_call 26; refine Calls.quiet_of ((LC.out _).mono fun _ _ h => h)))
            have ST3 := Lib.hid (show WvSt w0 b r XS g6 pos2 err2 (wc.drewN nq) from ⟨ST2.out.1.drewN nq, ST2.out.2.1, below_drewN ST2.out.2.2 nq⟩)
            clear k0 k1
            go_wp2_with fail
            go_meet
            exact ⟨pos2, err2, ST3.out⟩
      case rest =>
        obtain ⟨pos', err', hst⟩ := hcut
        have RL := Lib.hid (show WvRel w0 b r XS g6 L.length (.int .i64 ((k + 1 : Nat) : Int)) wc from ⟨k + 1, pos', err', rfl, by omega, hst⟩)
        clear hst
        go_wp2_with fail
        exact ⟨RL.out, by simp [intOf]; omega⟩
    · obtain rfl : k = L.length := by omega
      have hkk : ¬ (L.length : Int) < (L.length : Int) := by omega
      obtain ⟨SL, hSL⟩ : ∃ SL, SL = str (lf XS pos err) := ⟨_, rfl⟩
      have k0 : wq.cell? ⟨g6, 0, none⟩ = some (.string SL) := by rw [cell_of_rowW wq g6 0 _ _ _ HST.out.2.1, hSL]; rfl
      have k1 : wq.cell? ⟨g6, 1, none⟩ = some (.int .i64 err) := by rw [cell_of_rowW wq g6 1 _ _ _ HST.out.2.1]; rfl
      have EN := Lib.hid (end_any HST.out.1 HXL.out)
      have HBZ := Lib.hid (HB0.out.trans (HST.out.2.2.mono HB0.out.size))
      by_cases he : err = 0
      · subst he
        by_cases hm : pos < XS.length
        · have hre : rend XS pos 0 = 8 := by unfold rend rl; simp; omega
          rw [hre] at EN
          have hne : SL.toList.isEmpty = false := by
            have h4 : SL.size = XS.length - pos := by rw [hSL, wstr_size, lf_ok, List.length_drop]
            rw [ByteArray.toList_eq]
            cases hq : SL.data.toList with
            | nil =>
              exfalso
              have h3 : SL.size = SL.data.toList.length := by simp
              rw [hq] at h3
              have h5 : SL.size = 0 := h3
              omega
            | cons a l => rfl
          clear hSL hre
          go_wp2_with fail
          refine EN.out.mono ?_
          rintro e w' ⟨rfl, i1, rfl⟩
          have HBZ2 := Lib.hid (below_drewN HBZ.out i1)
          go_wp2_with fail
          go_ret
          exact ⟨rfl, HBZ2.out⟩
        · have hre : rend XS pos 0 = 0 := by unfold rend rl; simp; omega
          rw [hre] at EN
          obtain rfl : SL = ⟨#[]⟩ := by rw [hSL, lf_ok, List.drop_eq_nil_of_le (by omega)]; rfl
          clear hSL hre
          go_wp2_with fail
          refine EN.out.mono ?_
          rintro e w' ⟨rfl, i1, rfl⟩
          have HBZ2 := Lib.hid (below_drewN HBZ.out i1)
          go_wp2_with fail
          go_ret
          exact ⟨rfl, HBZ2.out⟩
      · have hre : rend XS pos err = err := by unfold rend rl; simp [he]
        rw [hre] at EN
        have hb : (err == 0) = false := by simpa using he
        clear hSL hre
        go_wp2_with fail
        refine EN.out.mono ?_
        rintro e w' ⟨rfl, i1, rfl⟩
        have HBZ2 := Lib.hid (below_drewN HBZ.out i1)
        go_wp2_with fail
        go_ret
        exact ⟨rfl, HBZ2.out⟩
end Go.Proofs.Ytcjnfmlpjolfpaa
