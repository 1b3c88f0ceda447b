/- Wal's sums and heads of frames; whether no frame begins somewhere. -/
import Derived.Test.YtdjpeebekpjiiaaJ0F
import Derived.Test.YtdjpeebekpjiiaaJ0G
import Derived.Deep.MidRow
import Derived.Test.YtdjpeebekpjiiaaJ0E
import Derived.Deep.RegionHeld3
namespace Go.Proofs.Ytdjpeebekpjiiaa.Dk
open Go Go.RowKit
set_option linter.unusedVariables false
set_option linter.unusedSimpArgs false
/-- A frame's sum. -/
def smW (p k : Nat) (d : List UInt8) : Nat := crcOf (w8le p 8 ++ (w8le d.length 4 ++ ([UInt8.ofNat k] ++ d)))
theorem smW_lt (p k : Nat) (d : List UInt8) : smW p k d < 4294967296 := by
  unfold smW crcOf
  omega
theorem row_sl {w : World} {g n c : Nat} {l : List UInt8} {t : TypeId} (hn : l.length = n) (h : w.heap[g]? = some (.cells (bvs l).toArray t (0, 0))) : Sl w (.slice (some ⟨g, 0, none⟩) n c) l := by
  subst hn
  refine ⟨_, _, rfl, (fun e => by cases e), ?_⟩
  intro a ha j u hu
  cases ha
  rw [Addr.add_mid, cell_of_row w g (0 + j) _ _ _ h, Nat.zero_add]
  simpa using hu
theorem range_sl {w : World} {g off n c : Nat} {l : List UInt8} (hn : l.length = n) (h : w.rangeAt g off (bvs l)) : Sl w (.slice (some ⟨g, off, none⟩) n c) l := by
  subst hn
  refine ⟨_, _, rfl, (fun e => by cases e), ?_⟩
  intro a ha j u hu
  cases ha
  rw [Addr.add_mid]
  exact h j u hu
/-- A row of slices. -/
theorem parts_of {w : World} {g n c : Nat} {vs : List Value} {L : List (List UInt8)} {t : TypeId} (h : w.heap[g]? = some (.cells vs.toArray t (0, 0))) (hn : n = L.length) (hl : vs.length = L.length)
    (hv : ∀ j, j < L.length → ∃ aj cj, vs[j]? = some (.slice aj (L.getD j []).length cj) ∧ Sl w (.slice aj (L.getD j []).length cj) (L.getD j [])) : Parts w (.slice (some ⟨g, 0, none⟩) n c) L := by
  subst hn
  refine ⟨_, _, rfl, fun j hj => ⟨_, rfl, ?_⟩⟩
  obtain ⟨aj, cj, h1, h2⟩ := hv j hj
  refine ⟨aj, cj, ?_, h2⟩
  rw [Addr.add_mid, cell_of_row w g (0 + j) _ _ _ h, Nat.zero_add]
  simpa using h1
set_option maxRecDepth 100000 in
set_option maxHeartbeats 4000000 in
theorem wsum_any (p k : Nat) (hp : p < 18446744073709551616) (hk : k < 256) {d : List UInt8} (hd : d.length ≤ 1000000) {ao : Option Addr} {c : Nat} {w : World} (h : Sl w (.slice ao d.length c) d) :
    Calls Try.prog 84 #[.int .u64 (p : Int), .int .i64 (k : Int), .slice ao d.length c] w fun e w' => e = .returned (.int .u32 ((smW p k d : Nat) : Int)) ∧ Below w.heap.size w w' := by
  have HS := Lib.hid h
  have N1 := Lib.hid (wnumber_any p 8 hp (by decide) w)
  obtain ⟨R, hR⟩ : ∃ R, R = smW p k d := ⟨_, rfl⟩
  rw [← hR]
  have HR := Lib.hid hR
  clear h hR
  go_enter Try.func84, Try.ntmps84
  go_wp2_with fail
  refine N1.out.mono ?_
  rintro e w1 ⟨k1, rfl, hr1, hk1, hb1⟩
  have N2 := Lib.hid (wnumber_any d.length 4 (by omega) (by decide) w1)
  have R1 := Lib.hid hr1
  have B1 := Lib.hid hb1
  have K1 := Lib.hid hk1
  clear hr1 hb1 hk1
  go_wp2_with fail
  refine N2.out.mono ?_
  rintro e w2 ⟨k2, rfl, hr2, hk2, hb2⟩
  have R2 := Lib.hid hr2
  have B2 := Lib.hid (B1.out.trans (hb2.mono B1.out.size))
  have K2 := Lib.hid hk2
  have R12 := Lib.hid ((hb2.block k1 (lt_of_row R1.out)).trans R1.out)
  clear hr2 hb2 hk2
  have e8 : (#[Value.int .u8 (k : Int)] : Array Value) = (bvs [UInt8.ofNat k]).toArray := by
    have : (UInt8.ofNat k).toNat = k := by rw [UInt8.toNat_ofNat']; omega
    simp only [bvs, List.map_cons, List.map_nil, bv, this]
  have E8 := Lib.hid e8
  clear e8
  go_wp2_with fail
  obtain ⟨w3, hw3⟩ : ∃ w3, w3 = w2.alloc (.cells #[.int .u8 (k : Int)] 5) := ⟨_, rfl⟩
  obtain ⟨w4, hw4⟩ : ∃ w4, w4 = w3.alloc (.cells #[.slice (some ⟨k1, 0, none⟩) 8 8, .slice (some ⟨k2, 0, none⟩) 4 4, .slice (some ⟨w2.heap.size, 0, none⟩) 1 1, .slice ao d.length c] 37) := ⟨_, rfl⟩
  rw [← hw3, ← hw4]
  have b3 : Below w2.heap.size w2 w3 := by rw [hw3]; exact (Below.refl _ _).alloc (Nat.le_refl _) _
  have b4 : Below w2.heap.size w2 w4 := by rw [hw4]; exact b3.alloc (by rw [hw3]; simp) _
  have r3 : w3.heap[w2.heap.size]? = some (.cells (bvs [UInt8.ofNat k]).toArray 5 (0, 0)) := by rw [hw3, E8.out]; exact heap_alloc_new _ _
  have s3 : w3.heap.size = w2.heap.size + 1 := by rw [hw3]; simp
  have r34 : w4.heap[w2.heap.size]? = some (.cells (bvs [UInt8.ofNat k]).toArray 5 (0, 0)) := by rw [hw4]; exact (Below.heap_alloc w3 _ _ (by omega)).trans r3
  have r4 : w4.heap[w2.heap.size + 1]? = some (.cells #[.slice (some ⟨k1, 0, none⟩) 8 8, .slice (some ⟨k2, 0, none⟩) 4 4, .slice (some ⟨w2.heap.size, 0, none⟩) 1 1, .slice ao d.length c] 37 (0, 0)) := by rw [hw4, ← s3]; exact heap_alloc_new _ _
  have B4 := Lib.hid (B2.out.trans (b4.mono B2.out.size))
  have P4 : Parts w4 (.slice (some ⟨w2.heap.size + 1, 0, none⟩) 4 4) [w8le p 8, w8le d.length 4, [UInt8.ofNat k], d] := by
    refine parts_of (vs := [.slice (some ⟨k1, 0, none⟩) 8 8, .slice (some ⟨k2, 0, none⟩) 4 4, .slice (some ⟨w2.heap.size, 0, none⟩) 1 1, .slice ao d.length c]) r4 rfl rfl ?_
    intro j hj
    have l1 := w8le_length p 8
    have l2 := w8le_length d.length 4
    match j, hj with
    | 0, _ => exact ⟨_, 8, by rw [show ([w8le p 8, w8le d.length 4, [UInt8.ofNat k], d].getD 0 []).length = 8 from l1]; rfl, row_sl rfl (by have := (b4.block k1 (lt_of_row R12.out)).trans R12.out; exact this)⟩
    | 1, _ => exact ⟨_, 4, by rw [show ([w8le p 8, w8le d.length 4, [UInt8.ofNat k], d].getD 1 []).length = 4 from l2]; rfl, row_sl rfl (by have := (b4.block k2 (lt_of_row R2.out)).trans R2.out; exact this)⟩
    | 2, _ => exact ⟨_, 1, rfl, row_sl rfl r34⟩
    | 3, _ => exact ⟨_, c, rfl, by
        obtain ⟨ao', c', e, hno, hs⟩ := HS.out
        injection e with e1 e2 e3
        subst e1
        exact ⟨_, _, rfl, hno, fun a ha j u hu => by
          have h := hs a ha j u hu
          rw [B4.out.cell (World.block_lt_of_cell? w _ h)]
          exact h⟩⟩
  have hfl : crcOf ([w8le p 8, w8le d.length 4, [UInt8.ofNat k], d] : List (List UInt8)).flatten = R := by
    rw [HR.out, smW]
    simp [List.flatten_cons, List.flatten_nil, List.append_assoc]
  have CR := crc_any (L := [w8le p 8, w8le d.length 4, [UInt8.ofNat k], d]) P4 (by simp) (by
    intro q hq
    simp only [List.mem_cons, List.not_mem_nil, or_false] at hq
    rcases hq with rfl | rfl | rfl | rfl
    · rw [w8le_length]; decide
    · rw [w8le_length]; decide
    · simp
    · omega)
  rw [hfl] at CR
  have HCR := Lib.hid CR
  clear CR P4 r3 r34 r4 b3 b4 s3 hw3 hw4 hfl
  refine HCR.out.mono ?_
  rintro e w5 ⟨rfl, hw5⟩
  obtain rfl := hw5
  go_wp2_with fail
  go_ret
  exact ⟨rfl, B4.out⟩
set_option maxRecDepth 100000 in
set_option maxHeartbeats 4000000 in
theorem whead_any (p k : Nat) (hp : p < 18446744073709551616) (hk : k < 256) {d : List UInt8} (hd : d.length ≤ 1000000) {ao : Option Addr} {c : Nat} {w : World} (h : Sl w (.slice ao d.length c) d) :
    Calls Try.prog 70 #[.int .u64 (p : Int), .int .i64 (k : Int), .slice ao d.length c] w fun e w' => ∃ v, e = .returned v ∧ w'.ownsRow w.heap.size 5 1 v 9 (bvs (headW smW p ⟨k, d⟩)) ∧ Below w.heap.size w w' := by
  have HS := Lib.hid h
  have N1 := Lib.hid (wnumber_any d.length 4 (by omega) (by decide) w)
  have e8 : (#[Value.int .u8 (k : Int)] : Array Value) = (bvs [UInt8.ofNat k]).toArray := by
    have : (UInt8.ofNat k).toNat = k := by rw [UInt8.toNat_ofNat']; omega
    simp only [bvs, List.map_cons, List.map_nil, bv, this]
  have E8 := Lib.hid e8
  have slt := smW_lt p k d
  obtain ⟨sm, hsm⟩ : ∃ sm, sm = smW p k d := ⟨_, rfl⟩
  rw [← hsm] at slt
  have HSM := Lib.hid hsm
  clear h e8 hsm
  go_enter Try.func70, Try.ntmps70
  go_wp2_with fail
  refine N1.out.mono ?_
  rintro e w1 ⟨k1, rfl, hr1, hk1, hb1⟩
  have S1 := wsum_any p k hp hk hd (w := w1) (c := c) (ao := ao) (by
    obtain ⟨ao', c', e, hno, hs⟩ := HS.out
    injection e with e1 e2 e3
    subst e1
    exact ⟨_, _, rfl, hno, fun a ha j u hu => by
      have h := hs a ha j u hu
      rw [hb1.cell (World.block_lt_of_cell? w _ h)]
      exact h⟩)
  rw [← HSM.out] at S1
  have HS1 := Lib.hid S1
  have R1 := Lib.hid hr1
  have B1 := Lib.hid hb1
  have K1 := Lib.hid hk1
  clear hr1 hb1 hk1 S1
  go_wp2_with fail
  refine HS1.out.mono ?_
  rintro e w2 ⟨rfl, hb2⟩
  have B2 := Lib.hid (B1.out.trans (hb2.mono B1.out.size))
  have R12 := Lib.hid ((hb2.block k1 (lt_of_row R1.out)).trans R1.out)
  have N2 := Lib.hid (wnumber_any sm 4 (by omega) (by decide) w2)
  clear hb2
  go_wp2_with fail
  refine N2.out.mono ?_
  rintro e w3 ⟨k2, rfl, hr2, hk2, hb3⟩
  have R2 := Lib.hid hr2
  have B3 := Lib.hid (B2.out.trans (hb3.mono B2.out.size))
  have R13 := Lib.hid ((hb3.block k1 (lt_of_row R12.out)).trans R12.out)
  clear hr2 hb3 hk2
  go_wp2_with fail
  obtain ⟨w4, hw4⟩ : ∃ w4, w4 = w3.alloc (.cells #[.int .u8 (k : Int)] 5) := ⟨_, rfl⟩
  obtain ⟨w5, hw5⟩ : ∃ w5, w5 = w4.alloc (.cells #[.slice (some ⟨k1, 0, none⟩) 4 4, .slice (some ⟨k2, 0, none⟩) 4 4, .slice (some ⟨w3.heap.size, 0, none⟩) 1 1] 37) := ⟨_, rfl⟩
  rw [← hw4, ← hw5]
  have b4 : Below w3.heap.size w3 w4 := by rw [hw4]; exact (Below.refl _ _).alloc (Nat.le_refl _) _
  have b5 : Below w3.heap.size w3 w5 := by rw [hw5]; exact b4.alloc (by rw [hw4]; simp) _
  have r4 : w4.heap[w3.heap.size]? = some (.cells (bvs [UInt8.ofNat k]).toArray 5 (0, 0)) := by rw [hw4, E8.out]; exact heap_alloc_new _ _
  have s4 : w4.heap.size = w3.heap.size + 1 := by rw [hw4]; simp
  have r45 : w5.heap[w3.heap.size]? = some (.cells (bvs [UInt8.ofNat k]).toArray 5 (0, 0)) := by rw [hw5]; exact (Below.heap_alloc w4 _ _ (by omega)).trans r4
  have r5 : w5.heap[w3.heap.size + 1]? = some (.cells #[.slice (some ⟨k1, 0, none⟩) 4 4, .slice (some ⟨k2, 0, none⟩) 4 4, .slice (some ⟨w3.heap.size, 0, none⟩) 1 1] 37 (0, 0)) := by rw [hw5, ← s4]; exact heap_alloc_new _ _
  have B5 := Lib.hid (B3.out.trans (b5.mono B3.out.size))
  have P5 : Parts w5 (.slice (some ⟨w3.heap.size + 1, 0, none⟩) 3 3) [w8le d.length 4, w8le sm 4, [UInt8.ofNat k]] := by
    refine parts_of (vs := [.slice (some ⟨k1, 0, none⟩) 4 4, .slice (some ⟨k2, 0, none⟩) 4 4, .slice (some ⟨w3.heap.size, 0, none⟩) 1 1]) r5 rfl rfl ?_
    intro j hj
    have l1 := w8le_length d.length 4
    have l2 := w8le_length sm 4
    match j, hj with
    | 0, _ => exact ⟨_, 4, by rw [show ([w8le d.length 4, w8le sm 4, [UInt8.ofNat k]].getD 0 []).length = 4 from l1]; rfl, row_sl rfl (by have := (b5.block k1 (lt_of_row R13.out)).trans R13.out; exact this)⟩
    | 1, _ => exact ⟨_, 4, by rw [show ([w8le d.length 4, w8le sm 4, [UInt8.ofNat k]].getD 1 []).length = 4 from l2]; rfl, row_sl rfl (by have := (b5.block k2 (lt_of_row R2.out)).trans R2.out; exact this)⟩
    | 2, _ => exact ⟨_, 1, rfl, row_sl rfl r45⟩
  have hfl : ([w8le d.length 4, w8le sm 4, [UInt8.ofNat k]] : List (List UInt8)).flatten = headW smW p ⟨k, d⟩ := by
    unfold headW
    rw [← HSM.out]
    simp [List.flatten_cons, List.flatten_nil, List.append_assoc]
  have hln : sumLen [w8le d.length 4, w8le sm 4, [UInt8.ofNat k]] = 9 := by
    unfold sumLen
    rw [hfl, headW_length]
  have CR := wconcat_any (L := [w8le d.length 4, w8le sm 4, [UInt8.ofNat k]]) P5 (by simp) (by rw [hln]; decide) (by rw [hln]; decide)
  rw [hln, hfl] at CR
  have HCR := Lib.hid CR
  clear CR P5 r4 r45 r5 b4 b5 s4 hw4 hw5 hfl hln
  refine HCR.out.mono ?_
  rintro e w6 ⟨v, rfl, hown, hb6⟩
  have HO := Lib.hid (show w6.ownsRow w.heap.size 5 1 v 9 (bvs (headW smW p ⟨k, d⟩)) from by
    refine ⟨hown.1, ?_⟩
    rcases hown.2 with h | ⟨g, cap, cur, e, hb, rest⟩
    · exact .inl h
    · exact .inr ⟨g, cap, cur, e, Nat.le_trans B5.out.size hb, rest⟩)
  have B6 := Lib.hid (B5.out.trans (hb6.mono B5.out.size))
  clear hb6 hown
  go_wp2_with fail
  go_ret
  exact ⟨v, rfl, HO.out, B6.out⟩
/-- Does no frame begin here? -/
theorem wisRest_any {p : Nat} (hp : p < 18446744073709551616) {w : World} {g off c : Nat} {b : List UInt8} (hl : b.length ≤ 1000000) (hc : b.length ≤ c) (h : w.rangeAt g off (bvs b)) :
    Calls Try.prog 64 #[.int .u64 (p : Int), .slice (some ⟨g, off, none⟩) b.length c] w fun e w' => e = .returned (.bool (isRestW p b)) ∧ ∃ q, w' = w.drewN q := by
  have S := Lib.hid (wseg_any p hp w)
  by_cases h1 : toSeg p < 9
  · rw [show isRestW p b = true by simp [isRestW, h1]]
    obtain ⟨t, ht⟩ : ∃ t, t = toSeg p := ⟨_, rfl⟩
    rw [← ht] at S h1
    clear ht
    have h2 : (t : Int) < 9 := by omega
    go_enter Try.func64, Try.ntmps64
    go_wp2_with (with_reducible refine S.out.mono ?_; rintro e w2 ⟨rfl, rfl⟩)
    go_ret
    exact ⟨rfl, 0, rfl⟩
  · by_cases h3 : 9 ≤ b.length
    · have hN := wnone_any (w := w) (g := g) (off := off) (c := c) (l := b.take 9) (by rw [List.length_take]; omega) (fun j u hj => h j u (by
        rw [bvs, List.map_take, List.getElem?_take] at hj
        split at hj
        · exact hj
        · cases hj))
      rw [show (b.take 9).length = 9 by rw [List.length_take]; omega] at hN
      have e9 : isRestW p b = !((b.take 9).any fun x => x != 0) := by
        simp only [isRestW, h1, decide_false, Bool.false_or, h3, decide_true, Bool.true_and]
        rw [List.not_any_eq_all_not]
        congr 1
        funext x
        simp [bne]
      rw [e9]
      obtain ⟨t, ht⟩ : ∃ t, t = toSeg p := ⟨_, rfl⟩
      rw [← ht] at S h1
      obtain ⟨B, hB⟩ : ∃ B, B = (b.take 9).any fun x => x != 0 := ⟨_, rfl⟩
      rw [← hB] at hN ⊢
      clear ht hB e9
      have HN := Lib.hid hN
      have h2 : ¬ (t : Int) < 9 := by omega
      have h4 : ¬ ((b.length : Int) < 9) := by omega
      have h5 : (9 : Int) ≤ (c : Int) := by omega
      clear hN h
      go_enter Try.func64, Try.ntmps64
      go_wp2_with (first | (with_reducible refine S.out.mono ?_; rintro e w2 ⟨rfl, rfl⟩) | (with_reducible refine HN.out.mono ?_; rintro e w2 ⟨rfl, q, rfl⟩))
      go_ret
      exact ⟨rfl, q, rfl⟩
    · rw [show isRestW p b = false by simp [isRestW, h1, h3]]
      obtain ⟨t, ht⟩ : ∃ t, t = toSeg p := ⟨_, rfl⟩
      rw [← ht] at S h1
      clear ht
      have h2 : ¬ (t : Int) < 9 := by omega
      have h4 : ((b.length : Int) < 9) := by omega
      clear h
      go_enter Try.func64, Try.ntmps64
      go_wp2_with (with_reducible refine S.out.mono ?_; rintro e w2 ⟨rfl, rfl⟩)
      go_ret
      exact ⟨rfl, 0, rfl⟩
end Go.Proofs.Ytdjpeebekpjiiaa.Dk
/- An owned slice that grows, in short words: nothing of a program's text. -/
namespace Go.Proofs.Ytdjpeebekpjiiaa
open Go Go.RowKit
set_option linter.unusedVariables false
set_option linter.unusedSimpArgs false
section
variable {P : Program}
theorem own_slK {w : World} {base : Nat} {e : TypeId} {size : Nat} {v : Value} {n : Nat} {xs : List Value} (h : w.ownsRow base e size v n xs) : ∃ ao c, v = .slice ao n c := by
  rcases h.2 with ⟨rfl, rfl⟩ | ⟨g, cap, cur, rfl, _⟩
  · exact ⟨_, _, rfl⟩
  · exact ⟨_, _, rfl⟩
theorem own_keepK {w w' : World} {base : Nat} {e : TypeId} {size n : Nat} {v : Value} {xs : List Value} (h : w.ownsRow base e size v n xs) (hb : ∀ b, v.ownBlock = some b → b < w.heap.size → w'.heap[b]? = w.heap[b]?) : w'.ownsRow base e size v n xs := by
  have hl := h.lt
  refine ⟨h.1, ?_⟩
  rcases h.2 with h0 | ⟨g, cap, cur, rfl, hB, hh, r⟩
  · exact .inl h0
  · exact .inr ⟨g, cap, cur, rfl, hB, (hb g rfl (hl g rfl).2).trans hh, r⟩
theorem own_belowK {w w' : World} {base : Nat} {e : TypeId} {size n : Nat} {v : Value} {xs : List Value} (h : w.ownsRow base e size v n xs) (hb : Below w.heap.size w w') : w'.ownsRow base e size v n xs :=
  own_keepK h fun b _ h => hb.block b h
theorem alloc_keepK (w : World) (o : Obj) (k : Nat) (hk : k < w.heap.size) : (w.alloc o).heap[k]? = w.heap[k]? := Below.heap_alloc w o k hk
/-- What one more leaves, behind the memory that it is handed in. -/
theorem grew_oneK {w w' : World} {o : Obj} {B C : Nat} {e : TypeId} {size n m : Nat} {v v' : Value} {xs ys : List Value} (own : w.ownsRow B e size v n xs) (hBw : B ≤ w.heap.size) (hC : C ≤ B)
    (g : Grew (w.alloc o) w' B e size v v' m ys) : ∃ ao c, v' = .slice ao m c ∧ w'.ownsRow B e size (.slice ao m c) m ys ∧ Below C w w' ∧ ∀ k, k < w.heap.size → some k ≠ v.ownBlock → w'.heap[k]? = w.heap[k]? := by
  obtain ⟨own', gr, hat⟩ := g
  obtain ⟨ao, c, rfl⟩ := own_slK own'
  have hl := own.lt
  have blk : ∀ k, k < w.heap.size → some k ≠ v.ownBlock → w'.heap[k]? = w.heap[k]? := fun k hk hne => (gr.block k (by simp; omega) hne).trans (alloc_keepK w o k hk)
  refine ⟨ao, c, rfl, own', ⟨gr.os, gr.tape, gr.output, ?_, fun k hk => blk k (by omega) (fun e => ?_)⟩, blk⟩
  · have := gr.size; simp at this; omega
  · have := hl k e.symm; omega
theorem grew_zeroK {w w' : World} {B C : Nat} {e : TypeId} {size n m : Nat} {v v' : Value} {xs ys : List Value} (own : w.ownsRow B e size v n xs) (hBw : B ≤ w.heap.size) (hC : C ≤ B)
    (g : Grew w w' B e size v v' m ys) : ∃ ao c, v' = .slice ao m c ∧ w'.ownsRow B e size (.slice ao m c) m ys ∧ Below C w w' ∧ ∀ k, k < w.heap.size → some k ≠ v.ownBlock → w'.heap[k]? = w.heap[k]? := by
  obtain ⟨own', gr, hat⟩ := g
  obtain ⟨ao, c, rfl⟩ := own_slK own'
  have hl := own.lt
  refine ⟨ao, c, rfl, own', ⟨gr.os, gr.tape, gr.output, gr.size, fun k hk => gr.block k (by omega) (fun e => ?_)⟩, fun k hk hne => gr.block k hk hne⟩
  have := hl k e.symm; omega
/-- The source that a list of one element is. -/
theorem src_oneK {tx e : TypeId} {size : Nat} (hk : P.underlying tx = some (.slice e)) (w : World) (cs : List Value) (hl : cs.length = size) (h1 : ∀ u ∈ cs, u.oneCell' = true) : Go.Src P size tx (.slice (some ⟨w.heap.size, 0, none⟩) 1 1) 1 cs (w.alloc (.cells cs.toArray e)) :=
  Src.any _ (e' := e) hk _ 1 1 cs (by omega) (fun h => by cases h) (fun a ha j u hu => by
    cases ha
    rw [Addr.add_mid, Nat.zero_add, cell_of_row _ _ j _ _ _ (heap_alloc_new w _)]
    simpa using hu) h1
/-- The cells of an owned row. -/
theorem own_cellK {w : World} {base : Nat} {e : TypeId} {size n c : Nat} {ao : Option Addr} {xs : List Value} (h : w.ownsRow base e size (.slice ao n c) n xs) {j : Nat} {u : Value} (hj : xs[j]? = some u) : ∃ g, ao = some ⟨g, 0, none⟩ ∧ base ≤ g ∧ g < w.heap.size ∧ w.cell? ⟨g, j, none⟩ = some u := by
  have hl := h.lt
  rcases h.2 with ⟨e1, e0⟩ | ⟨g, cap', cur, e1, hb, hh, _⟩
  · have hx := h.1
    subst e0
    obtain rfl : xs = [] := List.eq_nil_of_length_eq_zero (by omega)
    simp at hj
  · injection e1 with e1 e2 e3
    subst e1
    refine ⟨g, rfl, hb, (hl g rfl).2, ?_⟩
    have := h.cells rfl j u hj
    rwa [Addr.add_mid, Nat.zero_add] at this
theorem lt_of_rowK {w : World} {k : Nat} {o : Obj} (h : w.heap[k]? = some o) : k < w.heap.size := by
  rcases Nat.lt_or_ge k w.heap.size with h1 | h1
  · exact h1
  · rw [Array.getElem?_eq_none h1] at h; cases h
/-- What lies in a block of its own kind, from its beginning on. -/
def Blk (t : TypeId) (w : World) (ao : Option Addr) (vs : List Value) : Prop :=
  vs = [] ∨ ∃ gp cur, ao = some ⟨gp, 0, none⟩ ∧ w.heap[gp]? = some (.cells cur t (0, 0)) ∧ ∀ (j : Nat) v, vs[j]? = some v → cur[j]? = some v
theorem Blk.nil (t : TypeId) (w : World) (ao : Option Addr) : Blk t w ao [] := .inl rfl
theorem Blk.own {w : World} {t : TypeId} {base size n c : Nat} {ao : Option Addr} {xs : List Value} (h : w.ownsRow base t size (.slice ao n c) n xs) : Blk t w ao xs := by
  rcases h.2 with ⟨e1, e0⟩ | ⟨g, cap', cur, e1, hb, hh, h1, h2, h3, h4⟩
  · have hx := h.1
    subst e0
    exact .inl (List.eq_nil_of_length_eq_zero (by omega))
  · injection e1 with e1 e2 e3
    subst e1
    refine .inr ⟨g, cur, rfl, hh, fun j v hj => ?_⟩
    rw [← h4, List.getElem?_take] at hj
    split at hj
    · rw [← Array.getElem?_toList]; exact hj
    · cases hj
theorem Blk.cell {t : TypeId} {w : World} {ao : Option Addr} {vs : List Value} (h : Blk t w ao vs) {j : Nat} {v : Value} (hj : vs[j]? = some v) : ∃ gp, ao = some ⟨gp, 0, none⟩ ∧ gp < w.heap.size ∧ w.cell? ⟨gp, j, none⟩ = some v := by
  rcases h with rfl | ⟨gp, cur, h1, h2, h3⟩
  · simp at hj
  · exact ⟨gp, h1, lt_of_rowK h2, by rw [cell_of_row w gp j _ _ _ h2]; exact h3 j v hj⟩
theorem Blk.at {t : TypeId} {w : World} {gp : Nat} {vs : List Value} (h : Blk t w (some ⟨gp, 0, none⟩) vs) {j : Nat} {v : Value} (hj : vs[j]? = some v) : w.cell? ⟨gp, j, none⟩ = some v := by
  obtain ⟨g, h1, h2, h3⟩ := h.cell hj
  injection h1 with h1
  injection h1 with h1
  rw [h1]
  exact h3
theorem Blk.keep {t : TypeId} {w w' : World} {ao : Option Addr} {vs : List Value} (h : Blk t w ao vs) (hk : ∀ (gp : Nat) (cur : Array Value), w.heap[gp]? = some (Obj.cells cur t (0, 0)) → w'.heap[gp]? = w.heap[gp]?) : Blk t w' ao vs := by
  rcases h with h | ⟨gp, cur, h1, h2, h3⟩
  · exact .inl h
  · exact .inr ⟨gp, cur, h1, (hk gp cur h2).trans h2, h3⟩
theorem Blk.below {t : TypeId} {w w' : World} {ao : Option Addr} {vs : List Value} (h : Blk t w ao vs) (hb : Below w.heap.size w w') : Blk t w' ao vs := h.keep fun gp cur e => hb.block gp (lt_of_rowK e)
theorem own_neK {w : World} {base : Nat} {e t : TypeId} {size n : Nat} {v : Value} {xs : List Value} (h : w.ownsRow base e size v n xs) {k : Nat} {cs : Array Value} {fr : Nat × Nat} (hk : w.heap[k]? = some (.cells cs t fr)) (hte : t ≠ e) : some k ≠ v.ownBlock := by
  rcases h.2 with ⟨rfl, e0⟩ | ⟨g, cap', cur, rfl, hb, hh, h1, h2, h3, h4⟩
  · intro h; cases h
  · intro h
    have h : k = g := by simpa [Value.ownBlock] using h
    subst h
    rw [hk] at hh
    injection hh with hh
    injection hh with _ hh _
    exact hte hh
/-- A source out of such a block. -/
theorem Blk.src {t tx : TypeId} {w : World} {ao : Option Addr} {vs : List Value} {c size n : Nat} (h : Blk t w ao vs) (hk : P.underlying tx = some (.slice t)) (hl : vs.length = n * size) (hs : 0 < size) (h1 : ∀ u ∈ vs, u.oneCell' = true) : Go.Src P size tx (.slice ao n c) n vs w := by
  refine Src.any _ (e' := t) hk ao n c vs hl (fun hno => ?_) (fun a ha j u hu => ?_) h1
  · rcases h with rfl | ⟨gp, cur, e1, _⟩
    · have h0 : n * size = 0 := by simpa using hl.symm
      rcases Nat.mul_eq_zero.1 h0 with h0 | h0
      · exact h0
      · omega
    · rw [e1] at hno; cases hno
  · obtain ⟨gp, e1, e2, e3⟩ := h.cell hu
    rw [ha] at e1
    injection e1 with e1
    rw [e1, Addr.add_mid, Nat.zero_add]
    exact e3
end
end Go.Proofs.Ytdjpeebekpjiiaa
/- A frame is read. -/
namespace Go.Proofs.Ytdjpeebekpjiiaa.Dk
open Go Go.RowKit
set_option linter.unusedVariables false
set_option linter.unusedSimpArgs false
theorem range_sub {w : World} {g off : Nat} {l : List UInt8} (h : w.rangeAt g off (bvs l)) (i n : Nat) : w.rangeAt g (off + i) (bvs ((l.drop i).take n)) := by
  intro j u hj
  rw [bvs, List.map_take, List.map_drop, List.getElem?_take] at hj
  split at hj
  · rw [List.getElem?_drop] at hj
    rw [show off + i + j = off + (i + j) by omega]
    exact h (i + j) u hj
  · cases hj
theorem range_drewN {w : World} {g off : Nat} {l : List UInt8} (h : w.rangeAt g off (bvs l)) (q : Nat) : (w.drewN q).rangeAt g off (bvs l) := h
theorem range_below {w w' : World} {g off B : Nat} {l : List UInt8} (h : w.rangeAt g off (bvs l)) (hb : Below B w w') (hB : w.heap.size ≤ B) : w'.rangeAt g off (bvs l) := by
  intro j u hj
  have h1 := h j u hj
  have h2 := World.block_lt_of_cell? w _ h1
  rw [World.cell?_of_block (w := w) (hb.block g (Nat.lt_of_lt_of_le h2 hB))]
  exact h1
theorem wnumR_any {w : World} {g off n c : Nat} {l : List UInt8} (hn : l.length = n) (h8 : n ≤ 8) (h : w.rangeAt g off (bvs l)) :
    Calls Try.prog 83 #[.slice (some ⟨g, off, none⟩) n c] w fun e w' => e = .returned (.int .u64 ((w8num l : Nat) : Int)) ∧ w = w' := by
  subst hn
  exact wnumOf_any (range_sl rfl h) h8
theorem wsumR_any (p k : Nat) (hp : p < 18446744073709551616) (hk : k < 256) {d : List UInt8} {n : Nat} (hn : d.length = n) (hd : n ≤ 1000000) {g off c : Nat} {w : World} (h : w.rangeAt g off (bvs d)) :
    Calls Try.prog 84 #[.int .u64 (p : Int), .int .i64 (k : Int), .slice (some ⟨g, off, none⟩) n c] w fun e w' => e = .returned (.int .u32 ((smW p k d : Nat) : Int)) ∧ Below w.heap.size w w' := by
  subst hn
  exact wsum_any p k hp hk hd (range_sl rfl h)
theorem frmSize (k : Int) (v : Value) : (Try.prog.info? 75).map (·.size) = some ([.int .i64 k, v] : List Value).length := by
  show _ = some 2
  kernel_rfl
set_option maxRecDepth 100000 in
set_option maxHeartbeats 4000000 in
theorem wread_short {p : Nat} {w : World} {ao : Option Addr} {n c : Nat} (hl : n < 9) :
    Calls Try.prog 65 #[.int .u64 (p : Int), .slice ao n c] w fun e w' => e = .returned (.tuple #[.agg #[.int .i64 0, .slice none 0 0], .int .i64 8]) ∧ Below w.heap.size w w' := by
  have h1 : (n : Int) < 9 := by omega
  go_enter Try.func65, Try.ntmps65
  go_wp2_with fail
  refine bodyPost_ret (results_row_tmp rfl _ _ w.heap.size 75 [.int .i64 0, .slice none 0 0] (0, 0) _ _ rfl rfl (heap_alloc_new _ _) Try.underlying75 rfl (frmSize _ _)) rfl ?_
  exact ⟨rfl, (Below.refl _ _).alloc (Nat.le_refl _) _⟩
/-- What stands at the answer of a frame that is read. -/
def RdPost (w : World) (f : Fm) (code : Int) (e : Ending) (w' : World) : Prop :=
  (code ≠ 0 ∧ e = .returned (.tuple #[.agg #[.int .i64 0, .slice none 0 0], .int .i64 code]) ∧ Below w.heap.size w w') ∨
  (code = 0 ∧ ∃ v, e = .returned (.tuple #[.agg #[.int .i64 (f.kind : Int), v], .int .i64 0]) ∧ w'.ownsRow w.heap.size 5 1 v f.data.length (bvs f.data) ∧ Below w.heap.size w w')
set_option maxRecDepth 100000 in
set_option maxHeartbeats 4000000 in
theorem wread_long {p : Nat} (hp : p < 18446744073709551616) {w : World} {g off c : Nat} {b : List UInt8} (hl : b.length ≤ 1000000) (hl9 : 9 ≤ b.length) (hc : b.length ≤ c) (h : w.rangeAt g off (bvs b)) :
    Calls Try.prog 65 #[.int .u64 (p : Int), .slice (some ⟨g, off, none⟩) b.length c] w fun e w' => RdPost w (readF smW p b).1 (readF smW p b).2 e w' := by
  have h1 : ¬ (b.length : Int) < 9 := by omega
  have h2 : (4 : Int) ≤ (c : Int) := by omega
  have h3 : (8 : Int) < (b.length : Int) := by omega
  obtain ⟨w1, hw1⟩ : ∃ w1, w1 = w.alloc (.cells #[.int .i64 0, .slice none 0 0] 75) := ⟨_, rfl⟩
  obtain ⟨g4, hg4⟩ : ∃ g4, g4 = w.heap.size := ⟨_, rfl⟩
  have b1 : Below w.heap.size w w1 := by rw [hw1]; exact (Below.refl _ _).alloc (Nat.le_refl _) _
  have n4 : w1.heap[g4]? = some (.cells #[.int .i64 0, .slice none 0 0] 75 (0, 0)) := by rw [hw1, hg4]; exact heap_alloc_new _ _
  have hR := range_below h b1 (Nat.le_refl _)
  have c8 := hR 8 (bv (b.getD 8 0)) (by simp [bvs, List.getD, show 8 < b.length by omega])
  unfold bv at c8
  have R4 := range_sub hR 0 4
  rw [List.drop_zero, Nat.add_zero] at R4
  have N4 := Lib.hid (fun q => wnumR_any (w := w1.drewN q) (c := c) (n := 4) (l := b.take 4) (g := g) (off := off) (by rw [List.length_take]; omega) (by decide) (range_drewN R4 q))
  obtain ⟨n0, hn0⟩ : ∃ n0, n0 = w8num (b.take 4) := ⟨_, rfl⟩
  obtain ⟨kd, hkd⟩ : ∃ kd, kd = (b.getD 8 0).toNat := ⟨_, rfl⟩
  have hkb : kd < 256 := by rw [hkd]; exact (b.getD 8 0).toNat_lt
  have hnb : n0 < 4294967296 := by
    have h1 := numTo_lt (b.take 4) (b.take 4).length
    rw [numTo_all, ← hn0] at h1
    have h2 : (b.take 4).length = 4 := by rw [List.length_take]; omega
    rw [h2] at h1
    exact h1
  rw [← hn0] at N4
  rw [← hkd] at c8
  have HW1 := Lib.hid hw1
  have HG4 := Lib.hid hg4
  have HR := Lib.hid hR
  have B1 := Lib.hid b1
  have HN4 := Lib.hid n4
  have hF : readF smW p b = if b.length - 9 < n0 ∨ kd < 1 ∨ 3 < kd then (⟨0, []⟩, 8) else if w8num ((b.drop 4).take 4) ≠ smW p kd ((b.drop 9).take n0) then (⟨0, []⟩, 80) else (⟨kd, (b.drop 9).take n0⟩, 0) := by
    unfold readF
    rw [if_neg (by omega), ← hn0, ← hkd]
  obtain ⟨F, hFF⟩ : ∃ F, F = readF smW p b := ⟨_, rfl⟩
  rw [← hFF] at hF ⊢
  have HF := Lib.hid hF
  clear hw1 hg4 hR b1 n4 hn0 hkd hF hFF h R4
  go_enter Try.func65, Try.ntmps65
  go_upto_region 3 with fail
  rw [← HW1.out, ← HG4.out]
  go_quiet (first | (go_at_call 83; refine Calls.quiet_of_same ((N4.out _).mono fun _ _ h => ⟨h.1, h.2.symm⟩)))
  obtain ⟨w2, hw2⟩ : ∃ w2, w2 = w1.drewN nq := ⟨_, rfl⟩
  rw [← hw2]
  have N4B := Lib.hid (show w2.heap[g4]? = some (.cells #[.int .i64 0, .slice none 0 0] 75 (0, 0)) by rw [hw2]; exact HN4.out)
  have hB2 : Below w.heap.size w w2 := by rw [hw2]; exact below_drewN B1.out _
  have HR2 := Lib.hid (show w2.rangeAt g off (bvs b) by rw [hw2]; exact range_drewN HR.out _)
  have B2 := Lib.hid hB2
  have FS := Lib.hid (fun (k : Int) (v : Value) => (show (Try.prog.info? 75).map (·.size) = some (#[.int .i64 k, v] : Array Value).size from frmSize k v))
  have SB := Lib.hid (show Below w.heap.size w (w2.setRow g4 #[.int .i64 0, .slice none 0 0]) from ⟨hB2.os, hB2.tape, hB2.output, by simpa using hB2.size, fun q hq => (setRow_other _ g4 q _ (by have := HG4.out; omega)).trans (hB2.block q hq)⟩)
  clear hw2 hB2 c8
  have hl9i : (9 : Int) ≤ (b.length : Int) := by omega
  by_cases g1 : b.length - 9 < n0
  · obtain rfl : F = (⟨0, []⟩, 8) := by rw [HF.out, if_pos (.inl g1)]
    have g1i : (b.length : Int) - 9 < (n0 : Int) := by omega
    go_wp2_with (with_reducible show wpList _ _ _ _ _ _; refine wpList_store_whole rfl 75 (.tmp 4) (.tmp 34) rfl g4 75 _ #[.int .i64 0, .slice none 0 0] rfl rfl N4B.out (FS.out _ _) (by with_unfolding_all rfl) (by with_unfolding_all rfl) ?_)
    refine bodyPost_ret (results_row_tmp rfl _ _ g4 75 [.int .i64 0, .slice none 0 0] (0, 0) _ _ rfl rfl (setRow_heap _ g4 _ _ _ _ N4B.out) Try.underlying75 rfl (frmSize _ _)) rfl ?_
    exact .inl ⟨by decide, rfl, SB.out⟩
  have g1i : ¬ (b.length : Int) - 9 < (n0 : Int) := by omega
  by_cases g2 : kd < 1
  · obtain rfl : F = (⟨0, []⟩, 8) := by rw [HF.out, if_pos (.inr (.inl g2))]
    have g2i : (kd : Int) < 1 := by omega
    go_wp2_with (with_reducible show wpList _ _ _ _ _ _; refine wpList_store_whole rfl 75 (.tmp 4) (.tmp 34) rfl g4 75 _ #[.int .i64 0, .slice none 0 0] rfl rfl N4B.out (FS.out _ _) (by with_unfolding_all rfl) (by with_unfolding_all rfl) ?_)
    refine bodyPost_ret (results_row_tmp rfl _ _ g4 75 [.int .i64 0, .slice none 0 0] (0, 0) _ _ rfl rfl (setRow_heap _ g4 _ _ _ _ N4B.out) Try.underlying75 rfl (frmSize _ _)) rfl ?_
    exact .inl ⟨by decide, rfl, SB.out⟩
  have g2i : ¬ (kd : Int) < 1 := by omega
  by_cases g3 : 3 < kd
  · obtain rfl : F = (⟨0, []⟩, 8) := by rw [HF.out, if_pos (.inr (.inr g3))]
    have g3i : (3 : Int) < (kd : Int) := by omega
    go_wp2_with (with_reducible show wpList _ _ _ _ _ _; refine wpList_store_whole rfl 75 (.tmp 4) (.tmp 34) rfl g4 75 _ #[.int .i64 0, .slice none 0 0] rfl rfl N4B.out (FS.out _ _) (by with_unfolding_all rfl) (by with_unfolding_all rfl) ?_)
    refine bodyPost_ret (results_row_tmp rfl _ _ g4 75 [.int .i64 0, .slice none 0 0] (0, 0) _ _ rfl rfl (setRow_heap _ g4 _ _ _ _ N4B.out) Try.underlying75 rfl (frmSize _ _)) rfl ?_
    exact .inl ⟨by decide, rfl, SB.out⟩
  have g3i : ¬ (3 : Int) < (kd : Int) := by omega
  have hF2 := HF.out
  rw [if_neg (by omega)] at hF2
  have h4 : (9 : Int) + (n0 : Int) ≤ (c : Int) := by omega
  have dl : ((b.drop 9).take n0).length = n0 := by rw [List.length_take, List.length_drop]; omega
  obtain ⟨dd, hdd⟩ : ∃ dd, dd = (b.drop 9).take n0 := ⟨_, rfl⟩
  by_cases hc9 : c = 9
  · obtain rfl : n0 = 0 := by omega
    subst hc9
    have z0 : ((0 : Nat) : Int) = 0 := rfl
    simp only [z0] at h4 g1i N4
    clear z0
    have RD : w2.rangeAt g off (bvs dd) := by
      have : dd = [] := List.length_eq_zero_iff.1 (by rw [hdd]; exact dl)
      rw [this]
      intro j u hj
      simp [bvs] at hj
    rw [← hdd] at dl hF2
    have SM := wsumR_any p kd hp (by omega) (n := 0) (c := 0) dl (by omega) RD
    have N8 := wnumR_any (w := w2) (c := 9 - 4) (n := 4) (l := (b.drop 4).take 4) (g := g) (off := off + 4) (by rw [List.length_take, List.length_drop]; omega) (by decide) (range_sub HR2.out 4 4)
    have slt := smW_lt p kd dd
    obtain ⟨sm, hsm⟩ : ∃ sm, sm = smW p kd dd := ⟨_, rfl⟩
    obtain ⟨s4, hs4⟩ : ∃ s4, s4 = w8num ((b.drop 4).take 4) := ⟨_, rfl⟩
    rw [← hsm] at SM hF2 slt
    rw [← hs4] at N8 hF2
    have HSM := Lib.hid SM
    have HN8 := Lib.hid N8
    have HF2 := Lib.hid hF2
    have HRD := Lib.hid RD
    have HDL := Lib.hid dl
    clear SM N8 hF2 RD dl hsm hs4 hdd HF
    go_wp2_with fail
    refine HN8.out.mono ?_
    rintro e w3 ⟨rfl, hw3⟩
    obtain rfl := hw3
    go_wp2_with fail
    refine HSM.out.mono ?_
    rintro e w4 ⟨rfl, hb4⟩
    have N44 := Lib.hid ((hb4.block g4 (lt_of_row N4B.out)).trans N4B.out)
    have B4 := Lib.hid (B2.out.trans (hb4.mono B2.out.size))
    have RD4 := Lib.hid (range_below HRD.out hb4 (Nat.le_refl _))
    have G4L := Lib.hid (show w.heap.size ≤ g4 from by have := HG4.out; omega)
    clear hb4
    by_cases e5 : s4 = sm
    · have hF3 := HF2.out
      rw [if_neg (by simp [e5])] at hF3
      have e6 : (s4 : Int) = (sm : Int) := by omega
      have CL := wclone_any (w := w4) (c := 0) HDL.out (by omega) RD4.out
      have HCL := Lib.hid CL
      have HF3 := Lib.hid hF3
      clear CL hF3
      go_wp2_with fail
      refine HCL.out.mono ?_
      rintro e w5 ⟨v, rfl, hown, hne, hb5⟩
      have N45 := Lib.hid ((hb5.block g4 (lt_of_row N44.out)).trans N44.out)
      have B5 := B4.out.trans (hb5.mono B4.out.size)
      have hnv := hown.lt
      obtain ⟨aoV, cV, rfl⟩ : ∃ ao c, v = .slice ao 0 c := by
        rcases hown.2 with ⟨rfl, hz⟩ | ⟨g, cap, cur, rfl, _⟩
        · exact ⟨_, _, by rw [hz]⟩
        · exact ⟨_, _, rfl⟩
      have SB5 := Lib.hid (show Below w.heap.size w (w5.setRow g4 #[.int .i64 (kd : Int), .slice aoV 0 cV]) from ⟨B5.os, B5.tape, B5.output, by simpa using B5.size, fun q hq => (setRow_other _ g4 q _ (by have := G4L.out; omega)).trans (B5.block q hq)⟩)
      have OW := Lib.hid (show (w5.setRow g4 #[.int .i64 (kd : Int), .slice aoV 0 cV]).ownsRow w.heap.size 5 1 (.slice aoV 0 cV) 0 (bvs dd) from by
        have h1 : w5.ownsRow w.heap.size 5 1 (.slice aoV 0 cV) 0 (bvs dd) := ⟨hown.1, by
          rcases hown.2 with h | ⟨g, cap, cur, e, hb, rest⟩
          · exact .inl h
          · exact .inr ⟨g, cap, cur, e, Nat.le_trans B4.out.size hb, rest⟩⟩
        refine own_keepK h1 fun q hq hlt => setRow_other _ g4 q _ ?_
        have h2 := (hown.lt q hq).1
        have h3 := lt_of_row N44.out
        omega)
      clear hown hne hb5 B5 hnv
      go_wp2_with (with_reducible show wpList _ _ _ _ _ _; refine wpList_store_whole rfl 75 (.tmp 4) (.tmp 53) rfl g4 75 _ #[.int .i64 (kd : Int), .slice aoV 0 cV] rfl rfl N45.out (FS.out _ _) (by with_unfolding_all rfl) (by with_unfolding_all rfl) ?_)
      refine bodyPost_ret (results_row_tmp rfl _ _ g4 75 [.int .i64 (kd : Int), .slice aoV 0 cV] (0, 0) _ _ rfl rfl (setRow_heap _ g4 _ _ _ _ N45.out) Try.underlying75 rfl (frmSize _ _)) rfl ?_
      rw [HF3.out]
      exact .inr ⟨rfl, _, rfl, by rw [show (Fm.mk kd dd).data.length = 0 from HDL.out]; exact OW.out, SB5.out⟩
    · have hF3 := HF2.out
      rw [if_pos e5] at hF3
      have e6 : ¬ (s4 : Int) = (sm : Int) := by omega
      have SB4 := Lib.hid (show Below w.heap.size w (w4.setRow g4 #[.int .i64 0, .slice none 0 0]) from ⟨B4.out.os, B4.out.tape, B4.out.output, by simpa using B4.out.size, fun q hq => (setRow_other _ g4 q _ (by have := G4L.out; omega)).trans (B4.out.block q hq)⟩)
      have HF3 := Lib.hid hF3
      clear hF3
      go_wp2_with (with_reducible show wpList _ _ _ _ _ _; refine wpList_store_whole rfl 75 (.tmp 4) (.tmp 49) rfl g4 75 _ #[.int .i64 0, .slice none 0 0] rfl rfl N44.out (FS.out _ _) (by with_unfolding_all rfl) (by with_unfolding_all rfl) ?_)
      refine bodyPost_ret (results_row_tmp rfl _ _ g4 75 [.int .i64 0, .slice none 0 0] (0, 0) _ _ rfl rfl (setRow_heap _ g4 _ _ _ _ N44.out) Try.underlying75 rfl (frmSize _ _)) rfl ?_
      rw [HF3.out]
      exact .inl ⟨by decide, rfl, SB4.out⟩
  · have h9 : ¬ c = 9 := hc9
    have h9i : ¬ (c : Int) = 9 := by omega
    have h9l : (9 : Int) < (c : Int) := by omega
    have RD := range_sub HR2.out 9 n0
    rw [← hdd] at RD dl hF2
    have SM := wsumR_any p kd hp (by omega) (n := n0) (c := c - 9) dl (by omega) RD
    have N8 := wnumR_any (w := w2) (c := c - 4) (n := 4) (l := (b.drop 4).take 4) (g := g) (off := off + 4) (by rw [List.length_take, List.length_drop]; omega) (by decide) (range_sub HR2.out 4 4)
    have slt := smW_lt p kd dd
    obtain ⟨sm, hsm⟩ : ∃ sm, sm = smW p kd dd := ⟨_, rfl⟩
    obtain ⟨s4, hs4⟩ : ∃ s4, s4 = w8num ((b.drop 4).take 4) := ⟨_, rfl⟩
    rw [← hsm] at SM hF2 slt
    rw [← hs4] at N8 hF2
    have HSM := Lib.hid SM
    have HN8 := Lib.hid N8
    have HF2 := Lib.hid hF2
    have HRD := Lib.hid RD
    have HDL := Lib.hid dl
    clear SM N8 hF2 RD dl hsm hs4 hdd HF
    go_wp2_with fail
    refine HN8.out.mono ?_
    rintro e w3 ⟨rfl, hw3⟩
    obtain rfl := hw3
    go_wp2_with fail
    refine HSM.out.mono ?_
    rintro e w4 ⟨rfl, hb4⟩
    have N44 := Lib.hid ((hb4.block g4 (lt_of_row N4B.out)).trans N4B.out)
    have B4 := Lib.hid (B2.out.trans (hb4.mono B2.out.size))
    have RD4 := Lib.hid (range_below HRD.out hb4 (Nat.le_refl _))
    have G4L := Lib.hid (show w.heap.size ≤ g4 from by have := HG4.out; omega)
    clear hb4
    by_cases e5 : s4 = sm
    · have hF3 := HF2.out
      rw [if_neg (by simp [e5])] at hF3
      have e6 : (s4 : Int) = (sm : Int) := by omega
      have CL := wclone_any (w := w4) (c := (c - 9)) HDL.out (by omega) RD4.out
      have HCL := Lib.hid CL
      have HF3 := Lib.hid hF3
      clear CL hF3
      go_wp2_with fail
      refine HCL.out.mono ?_
      rintro e w5 ⟨v, rfl, hown, hne, hb5⟩
      have N45 := Lib.hid ((hb5.block g4 (lt_of_row N44.out)).trans N44.out)
      have B5 := B4.out.trans (hb5.mono B4.out.size)
      have hnv := hown.lt
      obtain ⟨aoV, cV, rfl⟩ : ∃ ao c, v = .slice ao n0 c := by
        rcases hown.2 with ⟨rfl, hz⟩ | ⟨g, cap, cur, rfl, _⟩
        · exact ⟨_, _, by rw [hz]⟩
        · exact ⟨_, _, rfl⟩
      have SB5 := Lib.hid (show Below w.heap.size w (w5.setRow g4 #[.int .i64 (kd : Int), .slice aoV n0 cV]) from ⟨B5.os, B5.tape, B5.output, by simpa using B5.size, fun q hq => (setRow_other _ g4 q _ (by have := G4L.out; omega)).trans (B5.block q hq)⟩)
      have OW := Lib.hid (show (w5.setRow g4 #[.int .i64 (kd : Int), .slice aoV n0 cV]).ownsRow w.heap.size 5 1 (.slice aoV n0 cV) n0 (bvs dd) from by
        have h1 : w5.ownsRow w.heap.size 5 1 (.slice aoV n0 cV) n0 (bvs dd) := ⟨hown.1, by
          rcases hown.2 with h | ⟨g, cap, cur, e, hb, rest⟩
          · exact .inl h
          · exact .inr ⟨g, cap, cur, e, Nat.le_trans B4.out.size hb, rest⟩⟩
        refine own_keepK h1 fun q hq hlt => setRow_other _ g4 q _ ?_
        have h2 := (hown.lt q hq).1
        have h3 := lt_of_row N44.out
        omega)
      clear hown hne hb5 B5 hnv
      go_wp2_with (with_reducible show wpList _ _ _ _ _ _; refine wpList_store_whole rfl 75 (.tmp 4) (.tmp 53) rfl g4 75 _ #[.int .i64 (kd : Int), .slice aoV n0 cV] rfl rfl N45.out (FS.out _ _) (by with_unfolding_all rfl) (by with_unfolding_all rfl) ?_)
      refine bodyPost_ret (results_row_tmp rfl _ _ g4 75 [.int .i64 (kd : Int), .slice aoV n0 cV] (0, 0) _ _ rfl rfl (setRow_heap _ g4 _ _ _ _ N45.out) Try.underlying75 rfl (frmSize _ _)) rfl ?_
      rw [HF3.out]
      exact .inr ⟨rfl, _, rfl, by rw [show (Fm.mk kd dd).data.length = n0 from HDL.out]; exact OW.out, SB5.out⟩
    · have hF3 := HF2.out
      rw [if_pos e5] at hF3
      have e6 : ¬ (s4 : Int) = (sm : Int) := by omega
      have SB4 := Lib.hid (show Below w.heap.size w (w4.setRow g4 #[.int .i64 0, .slice none 0 0]) from ⟨B4.out.os, B4.out.tape, B4.out.output, by simpa using B4.out.size, fun q hq => (setRow_other _ g4 q _ (by have := G4L.out; omega)).trans (B4.out.block q hq)⟩)
      have HF3 := Lib.hid hF3
      clear hF3
      go_wp2_with (with_reducible show wpList _ _ _ _ _ _; refine wpList_store_whole rfl 75 (.tmp 4) (.tmp 49) rfl g4 75 _ #[.int .i64 0, .slice none 0 0] rfl rfl N44.out (FS.out _ _) (by with_unfolding_all rfl) (by with_unfolding_all rfl) ?_)
      refine bodyPost_ret (results_row_tmp rfl _ _ g4 75 [.int .i64 0, .slice none 0 0] (0, 0) _ _ rfl rfl (setRow_heap _ g4 _ _ _ _ N44.out) Try.underlying75 rfl (frmSize _ _)) rfl ?_
      rw [HF3.out]
      exact .inl ⟨by decide, rfl, SB4.out⟩
end Go.Proofs.Ytdjpeebekpjiiaa.Dk
/- What a ring's call Read leaves. -/
namespace Go.Proofs.Ytdjpeebekpjiiaa.Dk
open Go Go.RowKit
set_option linter.unusedVariables false
set_option linter.unusedSimpArgs false

variable {w : World} {r d k first count tail : Nat} {S : List UInt8} {t : TypeId}
/-- How many bytes ahead of the tail are there. -/
def thereN (tail count : Nat) : Nat := if 0 < tail % 128 then count * 128 - 128 + tail % 128 else count * 128
theorem there_any (h : RingAt w r d k first count tail S t) : Calls Try.prog 59 #[.pointer (some ⟨r, 0, none⟩)] w fun e w' => e = .returned (.int .i64 ((thereN tail count : Nat) : Int)) ∧ w = w' := by
  have q3 := h.q3
  have hf := h.few
  have hc := h.cnt
  have SZ := Lib.hid (size_any h)
  have IS := Lib.hid (inSector_any tail h.tl w)
  obtain ⟨sz, hsz⟩ : ∃ sz, sz = count * 128 := ⟨_, rfl⟩
  rw [← hsz] at SZ
  unfold thereN
  have hm := Nat.mod_lt tail (show 0 < 128 by decide)
  generalize tail % 128 = q at *
  rw [← hsz]
  have b1 : 128 ≤ sz := by omega
  have b2 : sz ≤ 524288 := by omega
  clear h hsz hf hc
  by_cases h0 : 0 < q
  · have h0i : (0 : Int) < (q : Int) := by omega
    rw [if_pos h0]
    clear h0
    go_enter Try.func59, Try.ntmps59
    go_wp2_with (first | (go_at_call 62; refine IS.out.mono ?_; rintro e w' ⟨rfl, rfl⟩) | (go_at_call 67; refine SZ.out.mono ?_; rintro e w' ⟨rfl, rfl⟩))
    go_ret
    exact ⟨ret_i64 (by omega), rfl⟩
  · have h0i : ¬ (0 : Int) < (q : Int) := by omega
    rw [if_neg h0]
    clear h0
    go_enter Try.func59, Try.ntmps59
    go_wp2_with (first | (go_at_call 62; refine IS.out.mono ?_; rintro e w' ⟨rfl, rfl⟩) | (go_at_call 67; refine SZ.out.mono ?_; rintro e w' ⟨rfl, rfl⟩))
    go_ret
    exact ⟨rfl, rfl⟩
/-- The byte of that number, as the disk has it. -/
def byteAt (first count : Nat) (x : DS) (i : Nat) : UInt8 := (x.read (sec first count i : Nat)).1.getD (i % 128) 0
def bytesAt (first count : Nat) (x : DS) (at_ n : Nat) : List UInt8 := (List.range n).map fun i => byteAt first count x (at_ + i)
theorem bytesAt_length (first count : Nat) (x : DS) (at_ n : Nat) : (bytesAt first count x at_ n).length = n := by simp [bytesAt]
/-- Where the loop of Read stands. -/
structure RdRel (w : World) (r d k g m first count tail n0 at_ n ko : Nat) (S : List UInt8) (t : TypeId) (x : DS) (va vr : Value) (wr : World) (o : Nat) : Prop where
  le : o ≤ n
  ha : va = .int .u64 ((at_ + o : Nat) : Int)
  hr : ∃ ao c', vr = .slice ao (n - o) c' ∧ (o < n → ao = some ⟨ko, o, none⟩ ∧ n - o ≤ c')
  row : wr.heap[ko]? = some (.cells (bvs ((bytesAt first count x at_ n).take o ++ List.replicate (n - o) 0)).toArray 5 (0, 0))
  dk : DiskAt Try.prog wr d g m n0 x
  rg : RingAt wr r d k first count tail S t
  be : Below w.heap.size w wr
theorem chunk_eq {first count at_ n o cn : Nat} {x : DS} {s : List UInt8} (hs : s = (x.read (sec first count (at_ + o) : Nat)).1) (hl : s.length = 128) (hcn : cn = min (n - o) (128 - (at_ + o) % 128)) (ho : o ≤ n) :
    (bytesAt first count x at_ n).take (o + cn) = (bytesAt first count x at_ n).take o ++ (s.drop ((at_ + o) % 128)).take cn := by
  rw [List.take_add]
  congr 1
  apply List.ext_getElem?
  intro j
  rw [List.getElem?_take, List.getElem?_take, List.getElem?_drop, List.getElem?_drop]
  by_cases hj : j < cn
  · rw [if_pos hj, if_pos hj]
    have h1 : o + j < n := by omega
    have h2 : (at_ + o) % 128 + j < 128 := by omega
    have e1 : (at_ + (o + j)) / 128 = (at_ + o) / 128 := by omega
    have e2 : (at_ + (o + j)) % 128 = (at_ + o) % 128 + j := by omega
    have e3 : sec first count (at_ + (o + j)) = sec first count (at_ + o) := by unfold sec; rw [e1]
    rw [List.getElem?_eq_getElem (by rw [bytesAt_length]; exact h1), List.getElem?_eq_getElem (by omega)]
    simp only [bytesAt, List.getElem_map, List.getElem_range, byteAt, e2, e3, ← hs]
    simp [List.getD, hl, h2]
  · rw [if_neg hj, if_neg hj]
theorem splice_step {L s : List UInt8} {n o i cn : Nat} (hL : L.length = n) (hs : s.length = 128) (hi : i < 128) (hcn : cn = min (n - o) (128 - i)) (ho : o ≤ n) :
    splice (bvs (L.take o ++ List.replicate (n - o) 0)) o (bvs ((s.drop i).take cn)) = bvs (L.take o ++ (s.drop i).take cn ++ List.replicate (n - (o + cn)) 0) := by
  have e1 : (L.take o).length = o := by rw [List.length_take]; omega
  have e2 : ((s.drop i).take cn).length = cn := by rw [List.length_take, List.length_drop]; omega
  have e3 : (bvs (L.take o)).drop (o + cn) = [] := List.drop_eq_nil_of_le (by rw [bvs_length, e1]; omega)
  unfold splice
  rw [bvs_append, bvs_length, e2, List.take_left' (by rw [bvs_length, e1]), List.drop_append, bvs_length, e1, e3, List.nil_append, show o + cn - o = cn by omega, bvs_append, bvs_append]
  rw [List.append_assoc]
  congr 2
  simp only [bvs, List.map_replicate, List.drop_replicate]
  congr 1
  omega
def lenOf2 (v : Value) : Nat := match v with | .slice _ n _ => n | _ => 0
set_option maxRecDepth 100000 in
set_option maxHeartbeats 4000000 in
theorem rread_rowC (h : RingAt w r d k first count tail S t) (ht : tail ≤ 4611686018427387904) {g m n0 : Nat} {x : DS} (hD : DiskAt Try.prog w d g m n0 x) (at_ n : Nat) (h1 : at_ + n ≤ tail) (h2 : tail - at_ ≤ thereN tail count)
    (hok : ∀ i, i < n → (x.read (sec first count (at_ + i) : Nat)).2 = 0) (hrow : ∀ i, i < n → (x.read (sec first count (at_ + i) : Nat)).1.length = 128) :
    Calls Try.prog 34 #[.pointer (some ⟨r, 0, none⟩), .int .u64 (at_ : Int), .int .i64 (n : Int)] w fun e w' => ∃ ko, e = .returned (.tuple #[.slice (some ⟨ko, 0, none⟩) n n, .int .i64 0]) ∧ w'.heap[ko]? = some (.cells (bvs (bytesAt first count x at_ n)).toArray 5 (0, 0)) ∧ w.heap.size ≤ ko ∧ Below w.heap.size w w' := by
  obtain ⟨i0, hi, hz0, hz1, hz2⟩ := info_parts Try.infoU8
  have q3 := h.q3
  have TH := Lib.hid (fun n => there_any (w := w.drewN n) (h.keep rfl rfl))
  have hlb : thereN tail count ≤ 1000000 := by have := h.few; unfold thereN; split <;> omega
  generalize hth : thereN tail count = th at *
  have c1 : ¬ (n : Int) < 0 := by omega
  have c2 : ¬ (tail : Int) < (at_ : Int) := by omega
  obtain ⟨df, hdf⟩ : ∃ df, df = tail - at_ := ⟨_, rfl⟩
  have hwr : IntKind.u64.wrap ((tail : Int) - (at_ : Int)) = (df : Int) := by rw [IntKind.wrap_u64]; omega
  have hwt : IntKind.u64.wrap (th : Int) = (th : Int) := by rw [IntKind.wrap_u64]; omega
  have c3 : ¬ (df : Int) < (n : Int) := by omega
  have c4 : ¬ (th : Int) < (df : Int) := by omega
  have hn : n ≤ 1000000 := by omega
  have H := Lib.hid h
  have HD := Lib.hid hD
  have HOK := Lib.hid hok
  have HROW := Lib.hid hrow
  have H1 := Lib.hid h1
  have HT := Lib.hid ht
  clear h hD hok hrow h1 h2 ht hth hlb hdf
  go_enter Try.func34, Try.ntmps34
  go_wp2_with fail
  go_quiet (first | (go_at_call 59; refine Calls.quiet_of_same ((TH.out _).mono fun _ _ h => ⟨h.1, h.2.symm⟩)))
  go_wp2_with (at_make; refine wpList_make_full _ rfl _ _ 37 rfl 0 5 i0 _ 1 Try.underlying37 hi hz0 hz1 _ _ _ _ n rfl rfl rfl rfl (by rw [hz2]; omega) (by unfold maxLen; omega) (by omega) ?_)
  intro w1 hown hgrow
  have hb1 : w1.heap[w.heap.size]? = some (.cells (List.replicate n (Value.int .u8 0)).toArray 5 (0, 0)) := by
    rcases hown.2 with ⟨e, _⟩ | ⟨g, cap, cur, e, _, hb, hc1, hc2, hc3, hc4⟩
    · cases e
    · injection e with e3 e4 e5
      cases e3
      subst e5
      refine hb.trans ?_
      rw [← made_u8 n]
      simp only [Nat.mul_one] at hc3 hc4
      have : cur.toList = (madeCells #[Value.int .u8 0] n).toList := by
        rw [← hc4.trans rfl, List.take_of_length_le (by simp [hc3])]
      rw [← this]
  have b1 : Below w.heap.size w w1 := (Frm.refl (fun _ => False) (w.drewN nq)).grown hgrow (by intro j e; cases e) |>.below (B := w.heap.size) (fun _ _ h => h.elim) (Nat.le_refl _) |> fun h => (below_drewN (Below.refl _ w) nq).trans h
  have R0 := Lib.hid (show RdRel w r d k g m first count tail n0 at_ n w.heap.size S t x (.int .u64 (at_ : Int)) (.slice (some ⟨w.heap.size, 0, none⟩) n n) w1 0 from
    ⟨Nat.zero_le _, rfl, ⟨_, _, rfl, fun _ => ⟨rfl, by omega⟩⟩, by rw [hb1]; simp [bvs, bv], HD.out.below b1 (Nat.le_refl _), H.out.below b1 (Nat.le_refl _), b1⟩)
  have HR0 := Lib.hid (H.out.below b1 (Nat.le_refl _))
  clear hown hgrow hb1 b1
  go_wp2_with fail
  go_loopw [1, 9] (fun va vr wr => ∃ o, RdRel w r d k g m first count tail n0 at_ n w.heap.size S t x va vr wr o) (fun _ vr _ => lenOf2 vr)
  case atStart => exact ⟨0, R0.out⟩
  case round =>
    obtain ⟨wo, rfl⟩ : ∃ wo : World, wo = wr := ⟨_, rfl⟩
    obtain ⟨o, hle, rfl, ⟨ao, c', rfl, hao⟩, hrow2, hDo, hRo, hBo⟩ := hrel
    have HDo := Lib.hid hDo
    have HRo := Lib.hid hRo
    have HBo := Lib.hid hBo
    have HROWo := Lib.hid hrow2
    by_cases hon : o < n
    · obtain ⟨rfl, hc'⟩ := hao hon
      obtain ⟨sc, hsc⟩ : ∃ sc, sc = sec first count (at_ + o) := ⟨_, rfl⟩
      obtain ⟨s, hs⟩ : ∃ s, s = (x.read (sc : Int)).1 := ⟨_, rfl⟩
      have hcode : (x.read (sc : Int)).2 = 0 := by rw [hsc]; exact HOK.out o hon
      have hsl : s.length = 128 := by rw [hs, hsc]; exact HROW.out o hon
      have hao2 : at_ + o < 18446744073709551616 := by have := H1.out; have := HT.out; omega
      have hsb : sc < 4096 := by
        rw [hsc]
        unfold sec
        have := Nat.mod_lt ((at_ + o) / 128) (show 0 < count by have := H.out.cnt; omega)
        have := H.out.few
        omega
      have q0 := hRo.q0
      have RS1 := Lib.hid (show Calls Try.prog 61 #[.pointer (some ⟨r, 0, none⟩), .int .u64 ((at_ : Int) + (o : Int))] wo.drew fun e w' => e = .returned (.int .i64 (sc : Int)) ∧ ∃ m, w' = wo.drew.drewN m from by
        have h1 := rsector_any (hRo.keep (w' := wo.drew) rfl rfl) (at_ + o) hao2
        rw [← hsc] at h1
        rw [← Int.natCast_add]
        exact h1)
      have RDA := Lib.hid (show ∀ m2, Calls Try.prog 60 #[.pointer (some ⟨d, 0, none⟩), .int .i64 (sc : Int)] (wo.drewN m2) fun e w' => ∃ kk, e = .returned (.tuple #[.slice (some ⟨kk, 0, none⟩) 128 128, .int .i64 0]) ∧ wo.heap.size ≤ kk ∧ w'.heap[kk]? = some (.cells (bvs s).toArray 112 (0, 0)) ∧ Below wo.heap.size wo w' from fun m2 => by
        refine (read_any (hDo.keep (w' := wo.drewN m2) rfl rfl rfl) (sc : Int) (WalkArith.wf_i64 (by omega))).mono ?_
        rintro e w3 ⟨v, rfl, ha, hb3⟩
        unfold Ans at ha
        rw [if_pos hcode] at ha
        obtain ⟨kk, rfl, hk3, hr3, _⟩ := ha
        rw [hcode]
        refine ⟨kk, rfl, hk3, by rw [hs]; exact hr3, ?_⟩
        exact (below_drewN (Below.refl wo.heap.size wo) m2).trans hb3)
      have KP := Lib.hid (fun (W : World) (h : W.heap[r]? = wo.heap[r]?) => (show W.cell? ⟨r, 0, none⟩ = some (.pointer (some ⟨d, 0, none⟩)) from (World.cell?_of_block (a := ⟨r, 0, none⟩) h).trans q0))
      have RL := Lib.hid hRo.rlt
      have IS := Lib.hid (show ∀ W, Calls Try.prog 62 #[.int .u64 ((at_ : Int) + (o : Int))] W fun e w' => e = .returned (.int .i64 (((at_ + o) % 128 : Nat) : Int)) ∧ W = w' from fun W => by
        rw [← Int.natCast_add]
        exact inSector_any (at_ + o) hao2 W)
      obtain ⟨ii, hii⟩ : ∃ ii, ii = (at_ + o) % 128 := ⟨_, rfl⟩
      rw [← hii] at IS
      have hi1 : ii < 128 := by rw [hii]; exact Nat.mod_lt _ (by decide)
      have hi2 : (ii : Int) ≤ 128 := by omega
      have hi3 : ¬ 128 = ii := by omega
      have hposi : (0 : Int) < ((n - o : Nat) : Int) := by omega
      have HII := Lib.hid hii
      have HSC := Lib.hid hsc
      have HSS := Lib.hid hs
      have HSL := Lib.hid hsl
      have HI1 := Lib.hid hi1
      clear hrow2 hDo hRo hBo hii hsc hs hcode hsl hao2 hsb R0 hi1
      go_wp2_with fail
      go_region_held3 (fun w' => w'.cell? ⟨r, 0, none⟩ = some (.pointer (some ⟨d, 0, none⟩)))
        (first
          | exact KP.out _ rfl
          | exact KP.out _ K3.out)
        (first
          | (go_at_call 61; (with_reducible refine RS1.out.mono ?_); rintro e w2 ⟨rfl, m2, rfl⟩)
          | (go_at_call 60; (with_reducible refine (RDA.out _).mono ?_); rintro e w3 ⟨kk, rfl, hkk, hrr, hb3⟩; have K3 := Lib.hid (hb3.block r RL.out); have KK := Lib.hid hkk; have RR := Lib.hid hrr; have B3 := Lib.hid hb3; clear hkk hrr hb3))
      all_goals
        have hcl : (bvs ((s.drop ii).take (min (n - o) (128 - ii)))).length = Nat.min (128 - ii) (n - o) := by
          rw [bvs_length, List.length_take, List.length_drop, HSL.out]
          show _ = min (128 - ii) (n - o)
          omega
        have hrow3 := (B3.out.block w.heap.size (lt_of_row HROWo.out)).trans HROWo.out
        have hsrc : 0 < (bvs ((s.drop ii).take (min (n - o) (128 - ii)))).length → ∃ ad, (some ⟨kk, ii, none⟩ : Option Addr) = some ad ∧ ∀ j v, (bvs ((s.drop ii).take (min (n - o) (128 - ii))))[j]? = some v → w3.cell? (ad.add j) = some v := by
          intro _
          refine ⟨_, rfl, fun j v hv => ?_⟩
          rw [Addr.add_mid, cell_of_row w3 kk (ii + j) _ _ _ RR.out]
          simp only [bvs, List.map_take, List.map_drop, List.getElem?_take, List.getElem?_drop] at hv
          split at hv
          · simpa [bvs] using hv
          · cases hv
        have hfit : o + (bvs ((s.drop ii).take (min (n - o) (128 - ii)))).length ≤ (bvs ((bytesAt first count x at_ n).take o ++ List.replicate (n - o) 0)).length := by
          rw [hcl, bvs_length, List.length_append, List.length_take, bytesAt_length, List.length_replicate]
          show o + min (128 - ii) (n - o) ≤ _
          omega
        have HCL := Lib.hid hcl
        have HR3 := Lib.hid hrow3
        have HSR := Lib.hid hsrc
        have HFT := Lib.hid hfit
        have HB3 := Lib.hid (HBo.out.trans (B3.out.mono HBo.out.size))
        clear hcl hrow3 hsrc hfit
        go_wp2_with (first | (go_at_call 62; refine (IS.out _).mono ?_; rintro e w' ⟨rfl, rfl⟩) | (with_reducible show wpList _ _ _ _ _ _; refine wpList_copy_splice rfl (.tmp 64) (.tmp 68) 37 37 rfl 5 Try.underlying37 (by kernel_rfl) (some ⟨w.heap.size, o, none⟩) (some ⟨kk, ii, none⟩) (n - o) c' (128 - ii) (128 - ii) rfl rfl w.heap.size o (bvs ((bytesAt first count x at_ n).take o ++ List.replicate (n - o) 0)) 5 HR3.out (bvs ((s.drop ii).take (min (n - o) (128 - ii)))) HCL.out (fun h => ⟨rfl, HSR.out h⟩) HFT.out (bvs_one _) w.heap.size w HB3.out (Nat.le_refl _) ?_))
        intro w4 HG hb4
        obtain ⟨cn, hcn⟩ : ∃ cn, cn = min (n - o) (128 - ii) := ⟨_, rfl⟩
        have ecn : (bvs ((s.drop ii).take (min (n - o) (128 - ii)))).length = cn := by
          rw [HCL.out, hcn]
          show min (128 - ii) (n - o) = _
          omega
        rw [ecn]
        have hg4 : w4.heap[w.heap.size]? = some (.cells (bvs ((bytesAt first count x at_ n).take (o + cn) ++ List.replicate (n - (o + cn)) 0)).toArray 5 (0, 0)) := by
          have h1 := HG.out
          rw [← hcn, splice_step (bytesAt_length first count x at_ n) HSL.out HI1.out hcn hle] at h1
          rw [h1]
          have h2 := chunk_eq (first := first) (count := count) (at_ := at_) (n := n) (o := o) (cn := cn) (x := x) (s := s) (by rw [HSS.out, HSC.out]) HSL.out (by rw [hcn, HII.out]) hle
          rw [h2, HII.out]
        have cnb := Lib.hid (show 1 ≤ cn ∧ o + cn ≤ n ∧ cn ≤ n - o from by have := HI1.out; omega)
        have hcni : (cn : Int) ≤ ((n - o : Nat) : Int) := by have := cnb.out; omega
        have REL := Lib.hid (show ∀ ao'' c'', (o + cn < n → ao'' = some ⟨w.heap.size, o + cn, none⟩ ∧ n - (o + cn) ≤ c'') → RdRel w r d k g m first count tail n0 at_ n w.heap.size S t x (.int .u64 (IntKind.u64.wrap ((at_ : Int) + (o : Int) + (cn : Int)))) (.slice ao'' (n - o - cn) c'') w4 (o + cn) from fun ao'' c'' hq => by
          refine ⟨cnb.out.2.1, ?_, ⟨ao'', c'', by rw [Nat.sub_sub], hq⟩, hg4, HD.out.below hb4 (Nat.le_refl _), H.out.below hb4 (Nat.le_refl _), hb4⟩
          have := cnb.out; have := H1.out; have := HT.out
          congr 1
          rw [IntKind.wrap_u64]
          omega)
        clear hcn ecn hg4 hb4 HG
        go_wp2_with fail
        all_goals
          have hcb := cnb.out
          refine ⟨⟨o + cn, REL.out _ _ ?_⟩, ?_⟩
          · intro h
            rw [if_neg (by omega)]
            exact ⟨rfl, by omega⟩
          · simp only [lenOf2]
            omega
    · obtain rfl : o = n := by omega
      have hpos : ¬ (0 : Int) < ((o - o : Nat) : Int) := by omega
      have hfin := hrow2
      rw [Nat.sub_self, List.replicate_zero, List.append_nil] at hfin
      have ef : (bytesAt first count x at_ o).take o = bytesAt first count x at_ o := List.take_of_length_le (by rw [bytesAt_length]; exact Nat.le_refl _)
      rw [ef] at hfin
      have HFN := Lib.hid hfin
      clear hrow2 hDo hRo hBo hfin ef hao
      rw [Nat.sub_self] at *
      go_wp2_with fail
      go_ret2
      exact ⟨w.heap.size, rfl, HFN.out, Nat.le_refl _, HBo.out⟩
theorem rread_row (h : RingAt w r d k first count tail S t) (ht : tail ≤ 4611686018427387904) {g m n0 : Nat} {x : DS} (hD : DiskAt Try.prog w d g m n0 x) (at_ n : Nat) (h1 : at_ + n ≤ tail) (h2 : tail - at_ ≤ thereN tail count)
    (hok : ∀ i, i < n → (x.read (sec first count (at_ + i) : Nat)).2 = 0) (hrow : ∀ i, i < n → (x.read (sec first count (at_ + i) : Nat)).1.length = 128) :
    Calls Try.prog 34 #[.pointer (some ⟨r, 0, none⟩), .int .u64 (at_ : Int), .int .i64 (n : Int)] w fun e w' => ∃ ko c, e = .returned (.tuple #[.slice (some ⟨ko, 0, none⟩) n c, .int .i64 0]) ∧ w'.heap[ko]? = some (.cells (bvs (bytesAt first count x at_ n)).toArray 5 (0, 0)) ∧ w.heap.size ≤ ko ∧ Below w.heap.size w w' := by
  refine (rread_rowC h ht hD at_ n h1 h2 hok hrow).mono ?_
  rintro e w' ⟨ko, he, hr, hk, hb⟩
  exact ⟨ko, n, he, hr, hk, hb⟩
theorem rread_ok (h : RingAt w r d k first count tail S t) (ht : tail ≤ 4611686018427387904) {g m n0 : Nat} {x : DS} (hD : DiskAt Try.prog w d g m n0 x) (at_ n : Nat) (h1 : at_ + n ≤ tail) (h2 : tail - at_ ≤ thereN tail count)
    (hok : ∀ i, i < n → (x.read (sec first count (at_ + i) : Nat)).2 = 0) (hrow : ∀ i, i < n → (x.read (sec first count (at_ + i) : Nat)).1.length = 128) :
    Calls Try.prog 34 #[.pointer (some ⟨r, 0, none⟩), .int .u64 (at_ : Int), .int .i64 (n : Int)] w fun e w' => ∃ ko c, e = .returned (.tuple #[.slice (some ⟨ko, 0, none⟩) n c, .int .i64 0]) ∧ w'.rangeAt ko 0 (bvs (bytesAt first count x at_ n)) ∧ w.heap.size ≤ ko ∧ Below w.heap.size w w' := by
  refine (rread_row h ht hD at_ n h1 h2 hok hrow).mono ?_
  rintro e w' ⟨ko, c, he, hr, hk, hb⟩
  refine ⟨ko, c, he, fun j v hv => ?_, hk, hb⟩
  rw [cell_of_row w' ko (0 + j) _ _ _ hr, Nat.zero_add]
  simpa using hv
end Go.Proofs.Ytdjpeebekpjiiaa.Dk
