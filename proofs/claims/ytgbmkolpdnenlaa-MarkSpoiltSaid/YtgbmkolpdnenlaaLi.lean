/- The statements' own like and sure. -/
import Derived.Test.YtgbmkolpdnenlaaTx
import Derived.Deep.DeepCutAuto
namespace Go.Proofs.Ytgbmkolpdnenlaa.Dk
open Go Go.RowKit
set_option linter.unusedVariables false
set_option linter.unusedSimpArgs false
def LiRel (w : World) (u : Value) (wr : World) : Prop := ∃ i : Nat, u = .int .i64 (i : Int) ∧ i ≤ 6 ∧ wr = w
set_option maxRecDepth 100000 in
set_option maxHeartbeats 3200000 in
theorem like_any {w : World} {ao : Option Addr} {c : Nat} {ws : List Nat} {m : MkD} (seq : Nat) (hU : U64s w (.slice ao ws.length c) ws) (hm : m = padM seq ws) (hok : m.Ok) (h6 : ws.length ≤ 6) :
    Calls Try.prog 13 #[.agg m.cells.toArray, .agg #[.int .u64 (seq : Int), .slice ao ws.length c]] w fun e w' => e = .returned (.bool true) ∧ Below w.heap.size w w' := by
  obtain ⟨w1, hw1⟩ : ∃ w1, w1 = w.alloc (.cells m.cells.toArray 34 (0, 0)) := ⟨_, rfl⟩
  obtain ⟨k1, hk1⟩ : ∃ k, k = w.heap.size := ⟨_, rfl⟩
  obtain ⟨w2, hw2⟩ : ∃ w2, w2 = w1.alloc (.cells #[.int .u64 (seq : Int), .slice ao ws.length c] 31 (0, 0)) := ⟨_, rfl⟩
  obtain ⟨k2, hk2⟩ : ∃ k, k = k1 + 1 := ⟨_, rfl⟩
  have hs1 : w1.heap.size = w.heap.size + 1 := by rw [hw1]; exact Array.size_push _
  have b1 : Below w.heap.size w w1 := by rw [hw1]; exact (Below.refl _ _).alloc (Nat.le_refl _) _
  have b2 : Below w1.heap.size w1 w2 := by rw [hw2]; exact (Below.refl _ _).alloc (Nat.le_refl _) _
  have r1 : w1.heap[k1]? = some (.cells m.cells.toArray 34 (0, 0)) := by rw [hw1, hk1]; exact heap_alloc_new _ _
  have r1' := (b2.block k1 (lt_of_row r1)).trans r1
  have r2 : w2.heap[k2]? = some (.cells #[.int .u64 (seq : Int), .slice ao ws.length c] 31 (0, 0)) := by rw [hw2, hk2, hk1, ← hs1]; exact heap_alloc_new _ _
  have b02 := b1.trans (b2.mono b1.size)
  have hU2 := hU.below b02 (Nat.le_refl _)
  have HW1 := Lib.hid hw1
  have HW2 := Lib.hid hw2
  have HK1 := Lib.hid hk1
  have HK2 := Lib.hid hk2
  have c10 : w2.cell? ⟨k1, 0, none⟩ = some (.int .u64 (seq : Int)) := by
    rw [cell_of_row w2 k1 0 _ _ _ r1', hm]
    rfl
  have c20 : w2.cell? ⟨k2, 0, none⟩ = some (.int .u64 (seq : Int)) := by rw [cell_of_row w2 k2 0 _ _ _ r2]; rfl
  have c21 : w2.cell? ⟨k2, 1, none⟩ = some (.slice ao ws.length c) := by rw [cell_of_row w2 k2 1 _ _ _ r2]; rfl
  have HC := Lib.hid (show ∀ j v, (m.W.map uv)[j]? = some v → w2.cell? ((⟨k1, 1, none⟩ : Addr).add j) = some v from fun j v hv => by
    rw [Addr.add_mid, cell_of_row w2 k1 (1 + j) _ _ _ r1']
    simpa [MkD.cells, Nat.add_comm 1 j] using hv)
  have HZ := Lib.hid (show (Try.prog.info? 32).map (·.size) = some (m.W.map uv).length by rw [List.length_map, hok.len]; kernel_rfl)
  have HB := Lib.hid b02
  have HU := Lib.hid hU2
  have HOK := Lib.hid hok
  have HMG := Lib.hid (show ∀ i, m.W.getD i 0 = ws.getD i 0 from fun i => by rw [hm]; exact padM_get i)
  have HX0 := Lib.hid (show LiRel w2 (.int .i64 0) w2 from ⟨0, rfl, Nat.zero_le _, rfl⟩)
  clear hU hok hm hw1 hw2 hk1 hk2 hs1 b1 b2 r1 r1' r2 b02 hU2
  go_enter Try.func13, Try.ntmps13
  go_upto_region 1 with fail
  rw [← HW1.out, ← HW2.out, ← HK1.out, ← HK2.out]
  go_wp2_with (with_reducible show wpList _ _ _ _ _ _; refine wpList_load_all rfl 32 (.tmp 13) rfl ⟨k1, 1, none⟩ rfl (m.W.map uv) _ HC.out Try.underlying32 rfl HZ.out ?_)
  go_loopw [15] (fun u wr => LiRel w2 u wr) (fun u _ => 6 - (intOf u).toNat)
  case atStart => exact HX0.out
  case round =>
    obtain ⟨i, rfl, hi, rfl⟩ := hrel
    clear HX0
    by_cases hil : i < 6
    · have hii : (i : Int) < 6 := by omega
      have hiw : i < m.W.length := by rw [HOK.out.len]; exact hil
      obtain ⟨x, hx⟩ : ∃ x, x = m.W.getD i 0 := ⟨_, rfl⟩
      have hidx : (m.W.map uv)[i]? = some (.int .u64 (x : Int)) := by rw [hx]; simp [uv, List.getD, hiw]
      have hix := index_a6 (m.W.map uv).toArray i (.int .u64 (x : Int)) hil (by simp [HOK.out.len]) (by simpa using hidx) .i64 wr
      have hxw : x = ws.getD i 0 := by rw [hx, HMG.out]
      have RL := Lib.hid (show LiRel wr (.int .i64 ((i + 1 : Nat) : Int)) wr from ⟨i + 1, rfl, by omega, rfl⟩)
      clear hx hidx hiw
      by_cases hiw : i < ws.length
      · have iiw : (i : Int) < (ws.length : Int) := by omega
        obtain ⟨ad, rfl, hcell⟩ : ∃ ad, ao = some ad ∧ wr.cell? (ad.add i) = some (.int .u64 (x : Int)) := by
          obtain ⟨ao', c', e, hno, hc⟩ := HU.out
          injection e with e1 e2 e3
          subst e1
          cases ao with
          | none => have := hno rfl; omega
          | some ad =>
            refine ⟨ad, rfl, ?_⟩
            have h1 := hc ad rfl i (uv (ws.getD i 0)) (by simp [List.getD, hiw])
            rw [← hxw] at h1
            exact h1
        clear hxw
        go_wp2_with fail
        exact ⟨RL.out, by simp [intOf]; omega⟩
      · have iiw : ¬ (i : Int) < (ws.length : Int) := by omega
        have hx0 : x = 0 := by rw [hxw, List.getD_eq_getElem?_getD, List.getElem?_eq_none (by omega)]; rfl
        subst hx0
        clear hxw
        go_wp2_with fail
        exact ⟨RL.out, by simp [intOf]; omega⟩
    · obtain rfl : i = 6 := by omega
      rw [show ((6 : Nat) : Int) = 6 from rfl]
      go_wp2_with fail
      go_ret
      exact ⟨rfl, HB.out⟩
theorem sec_convert {w0 w : World} {v : Value} {l : List UInt8} (h : Sec w0 w v l) : (Go.convert 44 9 v).run Try.prog w = .ok (.string (str l)) w := by
  obtain ⟨g, rfl, _, hr, hl⟩ := h
  refine (Sl.convert (ys := l) ⟨some ⟨g, 0, none⟩, 128, by rw [hl], (fun e => by cases e), fun a ha j u hu => ?_⟩).1
  cases ha
  rw [Addr.add_mid, cell_of_row w g (0 + j) _ _ _ hr, Nat.zero_add]
  simpa using hu
set_option maxRecDepth 100000 in
theorem lsure_any {w : World} {d g m n : Nat} {x : DS} (h : DiskAt Try.prog w d g m n x) (i : Int) (hh : x.has i = true) :
    Calls Try.prog 14 #[.pointer (some ⟨d, 0, none⟩), .int .i64 i] w fun e w' => e = .returned (.string (str (x.s.getD i.toNat []))) ∧ Below w.heap.size w w' := by
  have hsu : x.sure i = (x.s.getD i.toNat [], 0) := by unfold DS.sure; rw [if_neg (by rw [hh]; decide)]
  have su := sure_any h i
  rw [hsu] at su
  have SU := Lib.hid su
  clear h hsu su
  go_enter Try.func14, Try.ntmps14
  go_wp2_with fail
  refine SU.out.mono ?_
  rintro e w' ⟨v, rfl, hA, hb⟩
  have hs : Sec w w' v (x.s.getD i.toNat []) := by unfold Ans at hA; rw [if_pos rfl] at hA; exact hA
  have cv := sec_convert hs
  have HB := Lib.hid hb
  clear hA hb hs
  go_wp2_with fail
  go_ret
  exact ⟨rfl, HB.out⟩
end Go.Proofs.Ytgbmkolpdnenlaa.Dk
