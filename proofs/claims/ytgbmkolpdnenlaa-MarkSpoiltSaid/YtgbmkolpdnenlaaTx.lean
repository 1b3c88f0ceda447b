/- The reference's text of a mark (foliotref06.Text). -/
import Derived.Test.YtgbmkolpdnenlaaTr
import Derived.Test.YtgbmkolpdnenlaaEi
namespace Go.Proofs.Ytgbmkolpdnenlaa.Dk
open Go Go.RowKit
set_option linter.unusedVariables false
set_option linter.unusedSimpArgs false
/-- The mark of these numbers, noughts behind them. -/
def padM (seq : Nat) (ws : List Nat) : MkD := ⟨seq, ws ++ List.replicate (6 - ws.length) 0⟩
theorem padM_ok {seq : Nat} {ws : List Nat} (h6 : ws.length ≤ 6) (hws : ∀ u ∈ ws, u < 18446744073709551616) (hs : seq < 18446744073709551616) : (padM seq ws).Ok := by
  refine ⟨hs, ?_, fun u hu => ?_⟩
  · show (ws ++ List.replicate (6 - ws.length) 0).length = 6
    simp
    omega
  · rcases List.mem_append.1 hu with h | h
    · exact hws u h
    · rw [(List.mem_replicate.1 h).2]; decide
theorem padM_get {seq : Nat} {ws : List Nat} (i : Nat) : (padM seq ws).W.getD i 0 = ws.getD i 0 := by
  show (ws ++ List.replicate (6 - ws.length) 0).getD i 0 = _
  simp only [List.getD_eq_getElem?_getD]
  by_cases h : i < ws.length
  · rw [List.getElem?_append_left h]
  · rw [List.getElem?_append_right (by omega), List.getElem?_eq_none (l := ws) (by omega), List.getElem?_replicate]
    split <;> rfl
def TxRel (mk : MkD) (w : World) (u v : Value) (wr : World) : Prop := ∃ i : Nat, u = .string (str (bodyM mk i)) ∧ v = .int .i64 (i : Int) ∧ i ≤ 6 ∧ Below w.heap.size w wr
def TyRel (b : List UInt8) (w : World) (u : Value) (wr : World) : Prop := ∃ i : Nat, u = .string (str (b ++ List.replicate i 0)) ∧ i ≤ 16 ∧ wr = w
set_option maxRecDepth 100000 in
set_option maxHeartbeats 3200000 in
theorem text6_any {w : World} {ao : Option Addr} {c : Nat} {ws : List Nat} (seq : Nat) (hU : U64s w (.slice ao ws.length c) ws) (hws : ∀ u ∈ ws, u < 18446744073709551616) (h6 : ws.length ≤ 6) (hs : seq < 18446744073709551616) :
    Calls Try.prog 15 #[.agg #[.int .u64 (seq : Int), .slice ao ws.length c]] w fun e w' => e = .returned (.string (str (layM (padM seq ws)))) ∧ Below w.heap.size w w' := by
  have HOK := Lib.hid (padM_ok (seq := seq) h6 hws hs)
  have HU := Lib.hid hU
  have HWS := Lib.hid hws
  obtain ⟨mk, hmk⟩ : ∃ mk, mk = padM seq ws := ⟨_, rfl⟩
  have HG := Lib.hid (fun i => padM_get (seq := seq) (ws := ws) i)
  rw [← hmk] at HOK HG ⊢
  have hq : mk.seq = seq := by rw [hmk]; rfl
  have HQ := Lib.hid hq
  clear hU hws hmk hq
  obtain ⟨w1, hw1⟩ : ∃ w1, w1 = w.alloc (.cells #[.int .u64 (seq : Int), .slice ao ws.length c] 31 (0, 0)) := ⟨_, rfl⟩
  obtain ⟨k1, hk1⟩ : ∃ k, k = w.heap.size := ⟨_, rfl⟩
  have HR1 := Lib.hid (show w1.heap[k1]? = some (.cells #[.int .u64 (seq : Int), .slice ao ws.length c] 31 (0, 0)) by rw [hw1, hk1]; exact heap_alloc_new _ _)
  have HB1 := Lib.hid (show Below w.heap.size w w1 by rw [hw1]; exact (Below.refl _ _).alloc (Nat.le_refl _) _)
  have c0 : w1.cell? ⟨k1, 0, none⟩ = some (.int .u64 (seq : Int)) := by rw [cell_of_row w1 k1 0 _ _ _ HR1.out]; rfl
  have HW1 := Lib.hid hw1
  have HK1 := Lib.hid hk1
  clear hw1 hk1
  have E0 := Lib.hid (eight_any seq hs w1)
  go_enter Try.func15, Try.ntmps15
  go_wp2_with fail
  rw [← HW1.out, ← HK1.out]
  go_wp2_with fail
  refine E0.out.mono ?_
  rintro e w2 ⟨rfl, hb2⟩
  have HB2 := Lib.hid hb2
  have HX0 := Lib.hid (show TxRel mk w2 (.string (str (leTo seq 8))) (.int .i64 0) w2 from ⟨0, by simp [bodyM, HQ.out], rfl, Nat.zero_le _, Below.refl _ _⟩)
  clear hb2 E0 c0
  go_wp2_with fail
  go_loopw [3, 4] (fun u v wr => TxRel mk w2 u v wr) (fun _ v _ => 6 - (intOf v).toNat)
  case atStart => exact HX0.out
  case round =>
    obtain ⟨wo, rfl⟩ : ∃ wo : World, wo = wr := ⟨_, rfl⟩
    obtain ⟨i, rfl, rfl, hi, hBr⟩ := hrel
    have HBR := Lib.hid hBr
    have HRr := Lib.hid ((hBr.block k1 (by have := lt_of_row HR1.out; have := HB2.out.size; omega)).trans ((HB2.out.block k1 (lt_of_row HR1.out)).trans HR1.out))
    clear hBr HX0
    by_cases hil : i < 6
    · have ii6 : (i : Int) < 6 := by omega
      have c1 : wo.cell? ⟨k1, 1, none⟩ = some (.slice ao ws.length c) := by rw [cell_of_row wo k1 1 _ _ _ HRr.out]; rfl
      have hbs : (str (bodyM mk i)).size = 8 * (1 + i) := by rw [wstr_size, bodyM_length HOK.out.len (by omega)]
      have hsz : (str (bodyM mk i)).size ≤ 64 := by omega
      obtain ⟨x, hx⟩ : ∃ x, x = mk.W.getD i 0 := ⟨_, rfl⟩
      have hxl : x < 18446744073709551616 := by
        rw [hx]
        have : i < mk.W.length := by rw [HOK.out.len]; exact hil
        rw [List.getD_eq_getElem?_getD, List.getElem?_eq_getElem this]
        exact HOK.out.W _ (List.getElem_mem this)
      have hsucc : str (bodyM mk i) ++ str (leTo x 8) = str (bodyM mk (i + 1)) := by rw [wstr_app, hx, bodyM_succ (by rw [HOK.out.len]; exact hil)]
      have he8 : (str (leTo x 8)).size = 8 := by rw [wstr_size, leTo_length]
      have EI := Lib.hid (eight_any x hxl wo)
      have hxw : x = ws.getD i 0 := by rw [hx, HG.out]
      have HSU := Lib.hid hsucc
      generalize str (bodyM mk i) = B at *
      clear hx hsucc hxl
      by_cases hiw : i < ws.length
      · have iiw : (i : Int) < (ws.length : Int) := by omega
        obtain ⟨ad, rfl, hcell⟩ : ∃ ad, ao = some ad ∧ wo.cell? (ad.add i) = some (.int .u64 (x : Int)) := by
          obtain ⟨ao', c', e, hno, hc⟩ := HU.out
          injection e with e1 e2 e3
          subst e1
          cases ao with
          | none => have := hno rfl; omega
          | some ad =>
            refine ⟨ad, rfl, ?_⟩
            have h1 := hc ad rfl i (uv (ws.getD i 0)) (by simp [List.getD, hiw])
            rw [← hxw] at h1
            have hlt := World.block_lt_of_cell? w _ h1
            have h2 := HB1.out.trans ((HB2.out.mono HB1.out.size).trans (HBR.out.mono (by have := HB1.out.size; have := HB2.out.size; omega)))
            rw [h2.cell hlt]
            exact h1
        clear hxw
        go_wp2_with fail
        refine EI.out.mono ?_
        rintro e w3 ⟨rfl, hb3⟩
        have RL := Lib.hid (show TxRel mk w2 (.string (B ++ str (leTo x 8))) (.int .i64 ((i + 1 : Nat) : Int)) w3 from ⟨i + 1, by rw [HSU.out], rfl, by omega, HBR.out.trans (hb3.mono HBR.out.size)⟩)
        clear hb3 EI
        go_wp2_with fail
        exact ⟨RL.out, by simp [intOf]; omega⟩
      · have iiw : ¬ (i : Int) < (ws.length : Int) := by omega
        have hx0 : x = 0 := by rw [hxw, List.getD_eq_getElem?_getD, List.getElem?_eq_none (by omega)]; rfl
        subst hx0
        clear hxw
        go_wp2_with fail
        refine EI.out.mono ?_
        rintro e w3 ⟨rfl, hb3⟩
        have RL := Lib.hid (show TxRel mk w2 (.string (B ++ str (leTo 0 8))) (.int .i64 ((i + 1 : Nat) : Int)) w3 from ⟨i + 1, by rw [HSU.out], rfl, by omega, HBR.out.trans (hb3.mono HBR.out.size)⟩)
        clear hb3 EI
        go_wp2_with fail
        exact ⟨RL.out, by simp [intOf]; omega⟩
    · obtain rfl : i = 6 := by omega
      rw [show ((6 : Nat) : Int) = 6 from rfl]
      have hbl := bodyM_length (m := mk) HOK.out.len (Nat.le_refl 6)
      have hbs : (str (bodyM mk 6)).size = 56 := by rw [wstr_size, hbl]
      have h2 : str (bodyM mk 6) ++ str (bodyM mk 6) = str (bodyM mk 6 ++ bodyM mk 6) := wstr_app _ _
      obtain ⟨b, hb⟩ : ∃ b, b = bodyM mk 6 ++ bodyM mk 6 := ⟨_, rfl⟩
      have hbl2 : b.length = 112 := by rw [hb, List.length_append, hbl]
      have hlay : layM mk = b ++ List.replicate 16 0 := by rw [hb]; rfl
      rw [← hb] at h2
      have HX1 := Lib.hid (show TyRel b wo (.string (str (bodyM mk 6) ++ str (bodyM mk 6))) wo from ⟨0, by rw [h2]; simp, Nat.zero_le _, rfl⟩)
      have HLY := Lib.hid hlay
      have HBW := Lib.hid (HB1.out.trans ((HB2.out.mono HB1.out.size).trans (HBR.out.mono (by have := HB1.out.size; have := HB2.out.size; omega))))
      clear hb h2 hlay hbl
      go_wp2_with fail
      go_loopw [3] (fun u wr => TyRel b wo u wr) (fun u _ => 128 - (match u with | .string s => s.size | _ => 0))
      case atStart => exact HX1.out
      case round =>
        obtain ⟨j, rfl, hj, rfl⟩ := hrel
        have hjs : (str (b ++ List.replicate j 0)).size = 112 + j := by rw [wstr_size, List.length_append, List.length_replicate, hbl2]
        clear HX1
        by_cases hjl : j < 16
        · have hji : ((112 + j : Nat) : Int) < 128 := by omega
          have happ : str (b ++ List.replicate j 0) ++ ⟨#[0]⟩ = str (b ++ List.replicate (j + 1) 0) := by
            rw [List.replicate_succ', ← List.append_assoc, ← wstr_app]
            rfl
          have hjs2 : (str (b ++ List.replicate (j + 1) 0)).size = 113 + j := by rw [wstr_size, List.length_append, List.length_replicate, hbl2]; omega
          have RL := Lib.hid (show TyRel b wr (.string (str (b ++ List.replicate j 0) ++ ⟨#[0]⟩)) wr from ⟨j + 1, by rw [happ], by omega, rfl⟩)
          rw [← happ] at hjs2
          generalize str (b ++ List.replicate j 0) = B at *
          have HJ2 := Lib.hid hjs2
          clear hjs2 happ
          go_wp2_with fail
          exact ⟨RL.out, by have := HJ2.out; show 128 - (B ++ _).size < 128 - B.size; omega⟩
        · obtain rfl : j = 16 := by omega
          have hji : ¬ ((112 + 16 : Nat) : Int) < 128 := by omega
          rw [← HLY.out] at hjs ⊢
          obtain ⟨B, hB⟩ : ∃ B, B = str (layM mk) := ⟨_, rfl⟩
          rw [← hB] at hjs ⊢
          have HBE := Lib.hid hB
          clear hB
          go_wp2_with fail
          go_ret
          exact ⟨by rw [← HBE.out]; rfl, HBW.out⟩
end Go.Proofs.Ytgbmkolpdnenlaa.Dk
