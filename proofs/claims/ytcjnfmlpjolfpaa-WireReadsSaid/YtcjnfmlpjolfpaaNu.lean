/- The reference's Number: its walk. -/
import Derived.Test.YtcjnfmlpjolfpaaNb
import Derived.Test.YtcjnfmlpjolfpaaWu
import Derived.Deep.CutBlock
import Derived.Deep.DeepCutAuto
namespace Go.Proofs.Ytcjnfmlpjolfpaa
open Go Go.RowKit
set_option linter.unusedVariables false
set_option linter.unusedSimpArgs false
theorem own_keepN {w w' : World} {base : Nat} {e : TypeId} {size n : Nat} {v : Value} {xs : List Value} (h : w.ownsRow base e size v n xs) (hb : ∀ b, v.ownBlock = some b → b < w.heap.size → w'.heap[b]? = w.heap[b]?) : w'.ownsRow base e size v n xs := by
  have hl := h.lt
  refine ⟨h.1, ?_⟩
  rcases h.2 with h0 | ⟨g, cap, cur, rfl, hB, hh, r⟩
  · exact .inl h0
  · exact .inr ⟨g, cap, cur, rfl, hB, (hb g rfl (hl g rfl).2).trans hh, r⟩
theorem own_slN {w : World} {base : Nat} {e : TypeId} {size : Nat} {v : Value} {n : Nat} {xs : List Value} (h : w.ownsRow base e size v n xs) : ∃ ao c, v = .slice ao n c := by
  rcases h.2 with ⟨rfl, rfl⟩ | ⟨g, cap, cur, rfl, _⟩
  · exact ⟨_, _, rfl⟩
  · exact ⟨_, _, rfl⟩
theorem src_oneN {tx e : TypeId} (hk : Try.prog.underlying tx = some (.slice e)) (w : World) (v : Value) (h1 : v.oneCell' = true) : Go.Src Try.prog 1 tx (.slice (some ⟨w.heap.size, 0, none⟩) 1 1) 1 [v] (w.alloc (.cells #[v] e)) :=
  Src.any _ (e' := e) hk _ 1 1 [v] rfl (fun h => by cases h) (fun a ha j u hu => by
    cases ha
    match j, hu with
    | 0, hu =>
      obtain rfl : v = u := by simpa using hu
      rw [Addr.add_mid, Nat.zero_add, cell_of_row _ _ 0 _ _ _ (heap_alloc_new w _)]; rfl
    | j + 1, hu => simp at hu) (fun u hu => by
    obtain rfl : u = v := by simpa using hu
    exact h1)
theorem Try.info27N : (Try.prog.info? 27).map (fun i => (i.zero, i.size, i.bytes)) = some (some (.int .u64 0), 1, 8) := by kernel_rfl
def stc (L : List UInt8) (c : Int) : Array Value := #[.string (str L), .int .i64 c]
def NuRel (w : World) (g0 g1 B : Nat) (X : Nat × List UInt8 × Int) (most : Nat) (v : Value) (wr : World) : Prop :=
  ∃ (f : Nat) (c : Int) (L : List UInt8) (D : List Nat), D.length + f = 9 ∧ L.length ≤ 1000000 ∧ X = nrc c (f + 1) L D most ∧ Below w.heap.size w wr ∧
    B ≤ wr.heap.size ∧ wr.heap[g0]? = some (.cells #[.string (str L), .int .i64 c] 57 (0, 0)) ∧ wr.heap[g1]? = some (.cells #[.string ⟨#[]⟩, .int .i64 0] 57 (0, 0)) ∧
    wr.ownsRow B 27 1 v D.length (u64v D)
def NuEnd (w : World) (g0 g1 B : Nat) (X : Nat × List UInt8 × Int) (most : Nat) (v : Value) (wr : World) : Prop :=
  ∃ (L : List UInt8) (D : List Nat), D.length ≤ 10 ∧ L.length ≤ 1000000 ∧ X = (if most < dv D then (0, [], 2) else (dv D, L, 0)) ∧ Below w.heap.size w wr ∧
    B ≤ wr.heap.size ∧ wr.heap[g0]? = some (.cells #[.string (str L), .int .i64 0] 57 (0, 0)) ∧ wr.heap[g1]? = some (.cells #[.string ⟨#[]⟩, .int .i64 0] 57 (0, 0)) ∧
    wr.ownsRow B 27 1 v D.length (u64v D)
theorem dv_drop (D : List Nat) {k : Nat} (h : k < D.length) : dv (D.drop k) = (dv (D.drop (k + 1)) * 128 % 18446744073709551616 + D.getD k 0) % 18446744073709551616 := by
  rw [List.drop_eq_getElem_cons h]
  simp [dv, List.getD, h]
def NvRel (wc : World) (D : List Nat) (x u : Value) (wr : World) : Prop := ∃ k : Nat, u = .int .i64 ((k : Int) - 1) ∧ k ≤ D.length ∧ x = .int .u64 ((dv (D.drop k) : Nat) : Int) ∧ wr = wc
theorem own_digit {w : World} {B : Nat} {ao : Option Addr} {cap : Nat} {D : List Nat} (h : w.ownsRow B 27 1 (.slice ao D.length cap) D.length (u64v D)) {j : Nat} (hj : j < D.length) : ∃ a, ao = some a ∧ w.cell? (a.add j) = some (.int .u64 ((D.getD j 0 : Nat) : Int)) := by
  have hu : (u64v D)[j]? = some (.int .u64 ((D.getD j 0 : Nat) : Int)) := by simp [u64v, List.getD, hj]
  rcases h.2 with ⟨e, e0⟩ | ⟨g, cap', cur, e, _⟩
  · omega
  · injection e with e1 e2 e3
    subst e1
    exact ⟨_, rfl, h.cells rfl j _ hu⟩
set_option maxRecDepth 100000 in
set_option maxHeartbeats 1600000 in
theorem refNumber_any (L : List UInt8) (c : Int) (most : Nat) (hm : most < 18446744073709551616) (hL : L.length ≤ 1000000) (w : World) : Calls Try.prog 29 #[stv (str L) c, .int .u64 (most : Int)] w fun e w' =>
    e = .returned (.tuple #[.int .u64 (((nrc c 10 L [] most).1 : Nat) : Int), stv (str (nrc c 10 L [] most).2.1) (nrc c 10 L [] most).2.2]) ∧ Below w.heap.size w w' := by
  obtain ⟨X, hX⟩ : ∃ X, X = nrc c 10 L [] most := ⟨_, rfl⟩
  rw [← hX]
  have HX := Lib.hid hX
  have z0 := heap_alloc_new w (.cells #[.string (str L), .int .i64 c] 57)
  have z1 := heap_alloc_new (w.alloc (.cells #[.string (str L), .int .i64 c] 57)) (.cells #[.string ⟨#[]⟩, .int .i64 0] 57)
  rw [World.size_alloc] at z1
  have z2 := (Below.heap_alloc (w.alloc (.cells #[.string (str L), .int .i64 c] 57)) (.cells #[.string ⟨#[]⟩, .int .i64 0] 57) w.heap.size (by simp)).trans z0
  obtain ⟨w1, hw1⟩ : ∃ w1, w1 = (w.alloc (.cells #[.string (str L), .int .i64 c] 57)).alloc (.cells #[.string ⟨#[]⟩, .int .i64 0] 57) := ⟨_, rfl⟩
  have b1 : Below w.heap.size w w1 := by rw [hw1]; exact ((Below.refl _ _).alloc (Nat.le_refl _) _).alloc (by simp) _
  have s1 : w.heap.size + 2 ≤ w1.heap.size := by rw [hw1]; simp
  rw [← hw1] at z1 z2
  obtain ⟨g0, hg0⟩ : ∃ g, g = w.heap.size := ⟨_, rfl⟩
  obtain ⟨g1, hg1⟩ : ∃ g, g = w.heap.size + 1 := ⟨_, rfl⟩
  obtain ⟨B, hB⟩ : ∃ B, B = w.heap.size + 2 := ⟨_, rfl⟩
  rw [← hg0] at z2
  rw [← hg1] at z1
  rw [← hB] at s1
  have HG := Lib.hid (show g0 < B ∧ g1 < B ∧ g0 ≠ g1 ∧ w.heap.size ≤ g1 ∧ w.heap.size ≤ g0 ∧ w.heap.size ≤ B by omega)
  have HW1 := Lib.hid hw1
  have HG0 := Lib.hid hg0
  have HG1 := Lib.hid hg1
  have R0 := Lib.hid (show NuRel w g0 g1 B X most (.slice none 0 0) w1 from ⟨9, c, L, [], rfl, hL, HX.out, b1, s1, z2, z1, World.ownsRow_nil _ _ _ _⟩)
  clear hX z0 z1 z2 hw1 b1 s1 hg0 hg1 hB hL HX
  unfold stv
  go_enter Try.func29, Try.ntmps29
  go_upto_region 1 with fail
  rw [← HW1.out, ← HG1.out, ← HG0.out]
  go_upto_block 0 with fail
  go_cut [6] (fun v wx => NuEnd w g0 g1 B X most v wx)
  case first =>
    clear hm
    go_wp2_with fail
    go_loopw [6, 7, 8, 9] (fun v _ _ _ wr => NuRel w g0 g1 B X most v wr) (fun v _ _ _ _ => 11 - lenOf v)
    case atStart => exact R0.out
    case round =>
      obtain ⟨wo, rfl⟩ : ∃ wo : World, wo = wr := ⟨_, rfl⟩
      obtain ⟨f, c, L, D, hf, hL, hX, hB, hs, z0, z1, own⟩ := hrel
      obtain ⟨ao, cap, rfl⟩ := own_slN own
      have T := Lib.hid (fun W => refTake_any L c 1 (by decide) hL W)
      rw [show ((1 : Nat) : Int) = 1 from rfl] at T
      have HX := Lib.hid hX
      have HL := Lib.hid hL
      have HB := Lib.hid hB
      have HS := Lib.hid hs
      have Z0 := Lib.hid z0
      have Z1 := Lib.hid z1
      have OWN := Lib.hid own
      have k0 : wo.cell? ⟨g0, 0, none⟩ = some (.string (str L)) := by rw [cell_of_rowW wo g0 0 _ _ _ z0]; rfl
      have k1 : wo.cell? ⟨g0, 1, none⟩ = some (.int .i64 c) := by rw [cell_of_rowW wo g0 1 _ _ _ z0]; rfl
      clear hX hL hB hs z0 z1 own R0
      unfold stv at T
      go_wp2_with fail
      refine (T.out _).mono ?_
      rintro e w2 ⟨rfl, hB2⟩
      have HB2 := Lib.hid hB2
      have TKO := Lib.hid (tk_one L c)
      generalize tk L c 1 = YY at *
      obtain ⟨y1, y2, y3⟩ := YY
      dsimp only
      obtain ⟨k8, hk8⟩ : ∃ k, k = w2.heap.size := ⟨_, rfl⟩
      obtain ⟨w3, hw3⟩ : ∃ w3, w3 = w2.alloc (.cells #[.string (str y2), .int .i64 y3] 57) := ⟨_, rfl⟩
      have hb3 : Below wo.heap.size wo w3 := by rw [hw3]; exact hB2.alloc hB2.size _
      have n8 : w3.heap[k8]? = some (.cells #[.string (str y2), .int .i64 y3] 57 (0, 0)) := by rw [hw3, hk8]; exact heap_alloc_new _ _
      have HK8 := Lib.hid (show wo.heap.size ≤ k8 ∧ k8 < w3.heap.size from ⟨by rw [hk8]; exact hB2.size, by rw [hw3, hk8]; simp⟩)
      have HB3 := Lib.hid hb3
      have HW := Lib.hid (HB.out.trans (hb3.mono HB.out.size))
      have N8 := Lib.hid n8
      have Z3 := Lib.hid ((hb3.block g0 (Nat.lt_of_lt_of_le HG.out.1 HS.out)).trans Z0.out)
      have Z5 := Lib.hid ((hb3.block g1 (Nat.lt_of_lt_of_le HG.out.2.1 HS.out)).trans Z1.out)
      have OWN3 := Lib.hid (own_keepN OWN.out (fun k _ h => hb3.block k h))
      have SZ := Lib.hid (show (Try.prog.info? 57).map (·.size) = some (#[.string (str y2), .int .i64 y3] : Array Value).size by kernel_rfl)
      have HK := Lib.hid hk8
      have HW3 := Lib.hid hw3
      have c80 : w3.cell? ⟨k8, 0, none⟩ = some (.string (str y2)) := by rw [cell_of_rowW w3 k8 0 _ _ _ n8]; rfl
      have c81 : w3.cell? ⟨k8, 1, none⟩ = some (.int .i64 y3) := by rw [cell_of_rowW w3 k8 1 _ _ _ n8]; rfl
      clear hB2 HB2 k0 k1 n8 hb3 hk8 hw3 T
      go_upto_region 3 with fail
      rw [← HW3.out, ← HK.out]
      by_cases hy : y3 = 0
      · subst hy
        obtain ⟨hc0, x, hLx, hy1⟩ := nb_goes TKO.out
        subst hc0 hLx hy1
        have hat := fun h' => str_at [x] (k := 0) (by simp) h'
        simp at hat
        have hs1 : (str [x]).size = 1 := wstr_size [x]
        have x8 := x.toNat_lt
        have h9 : D.length ≤ 9 := by omega
        have b0 : w3.cell? ⟨g0, 0, none⟩ = some (.string (str (x :: y2))) := by rw [cell_of_rowW w3 g0 0 _ _ _ Z3.out]; rfl
        have b1 : w3.cell? ⟨g0, 1, none⟩ = some (.int .i64 0) := by rw [cell_of_rowW w3 g0 1 _ _ _ Z3.out]; rfl
        by_cases hbad : badR D.length x.toNat = true
        · have eX : nrc 0 (f + 1) (x :: y2) D most = (0, [], 8) := by simp [nrc, nr, hbad]
          have EX := Lib.hid (HX.out.trans eX)
          have F := Lib.hid (fun W => refFail_any (str (x :: y2)) 0 8 W)
          rw [show fe 0 8 = 8 from rfl] at F
          unfold stv at F
          have hor : ((D.length : Int) = 9 ∧ (1 : Int) < (x.toNat : Int)) ∨ ((0 : Int) < (D.length : Int) ∧ ¬ ((D.length : Int) = 9) ∧ (x.toNat : Int) = 0) ∨ ((0 : Int) < (D.length : Int) ∧ (D.length : Int) = 9 ∧ ¬ ((1 : Int) < (x.toNat : Int)) ∧ (x.toNat : Int) = 0) := by
            simp [badR] at hbad
            omega
          clear hbad eX TKO HX
          rcases hor with ⟨h1, h2⟩ | ⟨h1, h2, h3⟩ | ⟨h1, h2, h3, h4⟩
          · go_wp2_with fail
            refine (F.out _).mono ?_
            rintro e w5 ⟨rfl, hB5⟩
            have z6 := (hB5.block g1 (Nat.lt_of_lt_of_le HG.out.2.1 (Nat.le_trans HS.out HB3.out.size))).trans Z5.out
            have Z6 := Lib.hid z6
            have HB5 := Lib.hid (HW.out.trans (hB5.mono HW.out.size))
            have SZ8 := Lib.hid (show (Try.prog.info? 57).map (·.size) = some (#[.string ⟨#[]⟩, .int .i64 8] : Array Value).size by kernel_rfl)
            clear z6 hB5
            go_wp2_with (with_reducible show wpList _ _ _ _ _ _; refine wpList_store_whole rfl 57 (.tmp 5) (.tmp 41) rfl g1 57 #[.string ⟨#[]⟩, .int .i64 0] #[.string ⟨#[]⟩, .int .i64 8] rfl rfl Z6.out SZ8.out rfl (by kernel_rfl) ?_)
            refine bodyPost_ret (results_tmp_row rfl _ _ g1 57 [.string ⟨#[]⟩, .int .i64 8] (0, 0) _ _ rfl rfl (setRow_heap w5 g1 _ (#[.string ⟨#[]⟩, .int .i64 8] : Array Value) 57 (0, 0) Z6.out) Try.underlying57 rfl (by kernel_rfl)) rfl ?_
            exact ⟨by rw [EX.out]; rfl, below_setRow HB5.out HG.out.2.2.2.1 _⟩
          · go_wp2_with fail
            refine (F.out _).mono ?_
            rintro e w5 ⟨rfl, hB5⟩
            have z6 := (hB5.block g1 (Nat.lt_of_lt_of_le HG.out.2.1 (Nat.le_trans HS.out HB3.out.size))).trans Z5.out
            have Z6 := Lib.hid z6
            have HB5 := Lib.hid (HW.out.trans (hB5.mono HW.out.size))
            have SZ8 := Lib.hid (show (Try.prog.info? 57).map (·.size) = some (#[.string ⟨#[]⟩, .int .i64 8] : Array Value).size by kernel_rfl)
            clear z6 hB5
            go_wp2_with (with_reducible show wpList _ _ _ _ _ _; refine wpList_store_whole rfl 57 (.tmp 5) (.tmp 41) rfl g1 57 #[.string ⟨#[]⟩, .int .i64 0] #[.string ⟨#[]⟩, .int .i64 8] rfl rfl Z6.out SZ8.out rfl (by kernel_rfl) ?_)
            refine bodyPost_ret (results_tmp_row rfl _ _ g1 57 [.string ⟨#[]⟩, .int .i64 8] (0, 0) _ _ rfl rfl (setRow_heap w5 g1 _ (#[.string ⟨#[]⟩, .int .i64 8] : Array Value) 57 (0, 0) Z6.out) Try.underlying57 rfl (by kernel_rfl)) rfl ?_
            exact ⟨by rw [EX.out]; rfl, below_setRow HB5.out HG.out.2.2.2.1 _⟩
          · go_wp2_with fail
            refine (F.out _).mono ?_
            rintro e w5 ⟨rfl, hB5⟩
            have z6 := (hB5.block g1 (Nat.lt_of_lt_of_le HG.out.2.1 (Nat.le_trans HS.out HB3.out.size))).trans Z5.out
            have Z6 := Lib.hid z6
            have HB5 := Lib.hid (HW.out.trans (hB5.mono HW.out.size))
            have SZ8 := Lib.hid (show (Try.prog.info? 57).map (·.size) = some (#[.string ⟨#[]⟩, .int .i64 8] : Array Value).size by kernel_rfl)
            clear z6 hB5
            go_wp2_with (with_reducible show wpList _ _ _ _ _ _; refine wpList_store_whole rfl 57 (.tmp 5) (.tmp 41) rfl g1 57 #[.string ⟨#[]⟩, .int .i64 0] #[.string ⟨#[]⟩, .int .i64 8] rfl rfl Z6.out SZ8.out rfl (by kernel_rfl) ?_)
            refine bodyPost_ret (results_tmp_row rfl _ _ g1 57 [.string ⟨#[]⟩, .int .i64 8] (0, 0) _ _ rfl rfl (setRow_heap w5 g1 _ (#[.string ⟨#[]⟩, .int .i64 8] : Array Value) 57 (0, 0) Z6.out) Try.underlying57 rfl (by kernel_rfl)) rfl ?_
            exact ⟨by rw [EX.out]; rfl, below_setRow HB5.out HG.out.2.2.2.1 _⟩
        · have hor : ((D.length : Int) = 9 ∧ ¬ ((1 : Int) < (x.toNat : Int)) ∧ (0 : Int) < (D.length : Int) ∧ ¬ (x.toNat : Int) = 0) ∨ (¬ ((D.length : Int) = 9) ∧ (0 : Int) < (D.length : Int) ∧ ¬ (x.toNat : Int) = 0) ∨ (¬ ((D.length : Int) = 9) ∧ ¬ ((0 : Int) < (D.length : Int))) := by
            simp [badR] at hbad
            omega
          have eX : nrc 0 (f + 1) (x :: y2) D most = if x.toNat < 128 then (if most < dv (D ++ [x.toNat % 128]) then (0, [], 2) else (dv (D ++ [x.toNat % 128]), y2, 0)) else nr f y2 (D ++ [x.toNat % 128]) most := by simp [nrc, nr, hbad]
          have EX := Lib.hid (HX.out.trans eX)
          have HBAD := Lib.hid (show D.length = 9 → x.toNat < 128 by intro h; rcases hor with h1 | h1 | h1 <;> omega)
          have HL2 := Lib.hid (show y2.length ≤ 1000000 by have := HL.out; simp at this; omega)
          obtain ⟨i0, hi0, hz0, hz1, hz2⟩ := info_parts Try.info27N
          clear hbad eX TKO HX
          rcases hor with ⟨h1, h2, h3, h4⟩ | ⟨h1, h3, h4⟩ | ⟨h1, h3⟩
          · obtain ⟨d, hd⟩ : ∃ d, d = x.toNat % 128 := ⟨_, rfl⟩
            have hr1 : (x.toNat : Int) % 128 = (d : Int) := by omega
            have hr2 : (x.toNat : Int).tmod 128 = (d : Int) := by rw [Int.tmod_eq_emod]; rw [if_pos (Or.inl (by omega))]; omega
            rw [← hd] at EX
            clear hd
            go_wp2_with (at_builtin; refine wpList_append_own_src _ rfl (.tmp 42) (.tmp 45) 66 66 rfl B 27 i0 (.int .u64 0) 1 8 Try.underlying66 hi0 hz0 hz1 hz2 rfl _ D.length (u64v D) rfl (OWN3.out.alloc _) _ 1 [.int .u64 (d : Int)] rfl (src_oneN Try.underlying66 w3 _ rfl) ?b1 ?b2 ?b3 ?next)
            case b1 => unfold maxLen; omega
            case b2 => omega
            case b3 => have := HB3.out.size; have := HS.out; simp; omega
            case next =>
              rintro v2 w4 ⟨own4, grow4, hat4⟩
              have hlt := OWN.out.lt
              have blk : ∀ k, k < w3.heap.size → (∀ q, (Value.slice ao D.length cap).ownBlock = some q → k ≠ q) → w4.heap[k]? = w3.heap[k]? := fun k hk hne => (grow4.block k (by simp; omega) (fun e => hne k e.symm rfl)).trans (Below.heap_alloc w3 _ k hk)
              have hl3 := HB3.out.size
              have hls := HS.out
              have hg := HG.out
              have hk := HK8.out
              have y8 := (blk k8 hk.2 (fun q e => by have := hlt q e; omega)).trans N8.out
              have Y0 := Lib.hid ((blk g0 (by omega) (fun q e => by have := hlt q e; omega)).trans Z3.out)
              have Y1 := Lib.hid ((blk g1 (by omega) (fun q e => by have := hlt q e; omega)).trans Z5.out)
              have B4 : Below w.heap.size w w4 := (HW.out.alloc HW.out.size _).grown grow4 (by have := HW.out.size; simp; omega) (fun g e => Nat.le_trans hg.2.2.2.2.2 (hlt g e).1)
              have s4 : B ≤ w4.heap.size := by have := grow4.size; simp at this; omega
              have ey : u64v D ++ [.int .u64 (d : Int)] = u64v (D ++ [d]) := by simp [u64v]
              rw [ey] at own4
              have c80' : w4.cell? ⟨k8, 0, none⟩ = some (.string (str y2)) := by rw [cell_of_rowW w4 k8 0 _ _ _ y8]; rfl
              have c81' : w4.cell? ⟨k8, 1, none⟩ = some (.int .i64 0) := by rw [cell_of_rowW w4 k8 1 _ _ _ y8]; rfl
              obtain ⟨a2, cap2, rfl⟩ := own_slN own4
              obtain ⟨w5, hw5⟩ : ∃ w5, w5 = w4.setRow g0 #[.string (str y2), .int .i64 0] := ⟨_, rfl⟩
              have p0 := setRow_heap w4 g0 _ (#[.string (str y2), .int .i64 0] : Array Value) 57 (0, 0) Y0.out
              rw [← hw5] at p0
              have oth : ∀ k, k ≠ g0 → w5.heap[k]? = w4.heap[k]? := fun k h => by rw [hw5]; exact setRow_other w4 g0 k _ h
              have B5 : Below w.heap.size w w5 := by rw [hw5]; exact below_setRow B4 hg.2.2.2.2.1 _
              have s5 : B ≤ w5.heap.size := by rw [hw5]; simp [World.setRow]; exact s4
              have p1 := (oth g1 (fun e => hg.2.2.1 e.symm)).trans Y1.out
              have hl4 := own4.lt
              have own5 : w5.ownsRow B 27 1 (.slice a2 (D.length + 1) cap2) (D ++ [d]).length (u64v (D ++ [d])) := by
                rw [show (D ++ [d]).length = D.length + 1 by simp]
                exact own_keepN (w' := w5) own4 (fun k e _ => oth k (by have := hl4 k e; omega))
              have P0 := Lib.hid p0
              have P1 := Lib.hid p1
              have PB := Lib.hid B5
              have PS := Lib.hid s5
              have PO := Lib.hid own5
              have HW5 := Lib.hid hw5
              clear y8 B4 s4 ey own4 grow4 hat4 blk hw5 p0 p1 oth B5 s5 own5 hl3 hls hlt hl4 hg hk c80 c81
              go_upto_region 10 with (with_reducible show wpList _ _ _ _ _ _; refine wpList_store_whole rfl 57 (.tmp 2) (.tmp 47) rfl g0 57 _ #[.string (str y2), .int .i64 0] rfl rfl Y0.out SZ.out rfl (by kernel_rfl) ?_; rw [← HW5.out])
              by_cases hx : x.toNat < 128
              · have hxi : (x.toNat : Int) < 128 := by omega
                have EE := Lib.hid (show X = if most < dv (D ++ [d]) then (0, [], 2) else (dv (D ++ [d]), y2, 0) by rw [EX.out, if_pos hx])
                go_wp2_with fail
                go_meet
                exact ⟨y2, D ++ [d], by simp; omega, HL2.out, EE.out, PB.out, PS.out, P0.out, P1.out, PO.out⟩
              · have hxi : ¬ (x.toNat : Int) < 128 := by omega
                obtain ⟨f', rfl⟩ : ∃ f', f = f' + 1 := ⟨f - 1, by have := HBAD.out; omega⟩
                have EE := Lib.hid (show X = nrc 0 (f' + 1) y2 (D ++ [d]) most by rw [EX.out, if_neg hx]; simp [nrc])
                have RL := Lib.hid (show NuRel w g0 g1 B X most (.slice a2 (D.length + 1) cap2) w5 from ⟨f', 0, y2, D ++ [d], by simp; omega, HL2.out, EE.out, PB.out, PS.out, P0.out, P1.out, PO.out⟩)
                go_wp2_with fail
                exact ⟨RL.out, by simp [lenOf]; omega⟩
          · obtain ⟨d, hd⟩ : ∃ d, d = x.toNat % 128 := ⟨_, rfl⟩
            have hr1 : (x.toNat : Int) % 128 = (d : Int) := by omega
            have hr2 : (x.toNat : Int).tmod 128 = (d : Int) := by rw [Int.tmod_eq_emod]; rw [if_pos (Or.inl (by omega))]; omega
            rw [← hd] at EX
            clear hd
            go_wp2_with (at_builtin; refine wpList_append_own_src _ rfl (.tmp 42) (.tmp 45) 66 66 rfl B 27 i0 (.int .u64 0) 1 8 Try.underlying66 hi0 hz0 hz1 hz2 rfl _ D.length (u64v D) rfl (OWN3.out.alloc _) _ 1 [.int .u64 (d : Int)] rfl (src_oneN Try.underlying66 w3 _ rfl) ?b1 ?b2 ?b3 ?next)
            case b1 => unfold maxLen; omega
            case b2 => omega
            case b3 => have := HB3.out.size; have := HS.out; simp; omega
            case next =>
              rintro v2 w4 ⟨own4, grow4, hat4⟩
              have hlt := OWN.out.lt
              have blk : ∀ k, k < w3.heap.size → (∀ q, (Value.slice ao D.length cap).ownBlock = some q → k ≠ q) → w4.heap[k]? = w3.heap[k]? := fun k hk hne => (grow4.block k (by simp; omega) (fun e => hne k e.symm rfl)).trans (Below.heap_alloc w3 _ k hk)
              have hl3 := HB3.out.size
              have hls := HS.out
              have hg := HG.out
              have hk := HK8.out
              have y8 := (blk k8 hk.2 (fun q e => by have := hlt q e; omega)).trans N8.out
              have Y0 := Lib.hid ((blk g0 (by omega) (fun q e => by have := hlt q e; omega)).trans Z3.out)
              have Y1 := Lib.hid ((blk g1 (by omega) (fun q e => by have := hlt q e; omega)).trans Z5.out)
              have B4 : Below w.heap.size w w4 := (HW.out.alloc HW.out.size _).grown grow4 (by have := HW.out.size; simp; omega) (fun g e => Nat.le_trans hg.2.2.2.2.2 (hlt g e).1)
              have s4 : B ≤ w4.heap.size := by have := grow4.size; simp at this; omega
              have ey : u64v D ++ [.int .u64 (d : Int)] = u64v (D ++ [d]) := by simp [u64v]
              rw [ey] at own4
              have c80' : w4.cell? ⟨k8, 0, none⟩ = some (.string (str y2)) := by rw [cell_of_rowW w4 k8 0 _ _ _ y8]; rfl
              have c81' : w4.cell? ⟨k8, 1, none⟩ = some (.int .i64 0) := by rw [cell_of_rowW w4 k8 1 _ _ _ y8]; rfl
              obtain ⟨a2, cap2, rfl⟩ := own_slN own4
              obtain ⟨w5, hw5⟩ : ∃ w5, w5 = w4.setRow g0 #[.string (str y2), .int .i64 0] := ⟨_, rfl⟩
              have p0 := setRow_heap w4 g0 _ (#[.string (str y2), .int .i64 0] : Array Value) 57 (0, 0) Y0.out
              rw [← hw5] at p0
              have oth : ∀ k, k ≠ g0 → w5.heap[k]? = w4.heap[k]? := fun k h => by rw [hw5]; exact setRow_other w4 g0 k _ h
              have B5 : Below w.heap.size w w5 := by rw [hw5]; exact below_setRow B4 hg.2.2.2.2.1 _
              have s5 : B ≤ w5.heap.size := by rw [hw5]; simp [World.setRow]; exact s4
              have p1 := (oth g1 (fun e => hg.2.2.1 e.symm)).trans Y1.out
              have hl4 := own4.lt
              have own5 : w5.ownsRow B 27 1 (.slice a2 (D.length + 1) cap2) (D ++ [d]).length (u64v (D ++ [d])) := by
                rw [show (D ++ [d]).length = D.length + 1 by simp]
                exact own_keepN (w' := w5) own4 (fun k e _ => oth k (by have := hl4 k e; omega))
              have P0 := Lib.hid p0
              have P1 := Lib.hid p1
              have PB := Lib.hid B5
              have PS := Lib.hid s5
              have PO := Lib.hid own5
              have HW5 := Lib.hid hw5
              clear y8 B4 s4 ey own4 grow4 hat4 blk hw5 p0 p1 oth B5 s5 own5 hl3 hls hlt hl4 hg hk c80 c81
              go_upto_region 10 with (with_reducible show wpList _ _ _ _ _ _; refine wpList_store_whole rfl 57 (.tmp 2) (.tmp 47) rfl g0 57 _ #[.string (str y2), .int .i64 0] rfl rfl Y0.out SZ.out rfl (by kernel_rfl) ?_; rw [← HW5.out])
              by_cases hx : x.toNat < 128
              · have hxi : (x.toNat : Int) < 128 := by omega
                have EE := Lib.hid (show X = if most < dv (D ++ [d]) then (0, [], 2) else (dv (D ++ [d]), y2, 0) by rw [EX.out, if_pos hx])
                go_wp2_with fail
                go_meet
                exact ⟨y2, D ++ [d], by simp; omega, HL2.out, EE.out, PB.out, PS.out, P0.out, P1.out, PO.out⟩
              · have hxi : ¬ (x.toNat : Int) < 128 := by omega
                obtain ⟨f', rfl⟩ : ∃ f', f = f' + 1 := ⟨f - 1, by have := HBAD.out; omega⟩
                have EE := Lib.hid (show X = nrc 0 (f' + 1) y2 (D ++ [d]) most by rw [EX.out, if_neg hx]; simp [nrc])
                have RL := Lib.hid (show NuRel w g0 g1 B X most (.slice a2 (D.length + 1) cap2) w5 from ⟨f', 0, y2, D ++ [d], by simp; omega, HL2.out, EE.out, PB.out, PS.out, P0.out, P1.out, PO.out⟩)
                go_wp2_with fail
                exact ⟨RL.out, by simp [lenOf]; omega⟩
          · obtain ⟨d, hd⟩ : ∃ d, d = x.toNat % 128 := ⟨_, rfl⟩
            have hr1 : (x.toNat : Int) % 128 = (d : Int) := by omega
            have hr2 : (x.toNat : Int).tmod 128 = (d : Int) := by rw [Int.tmod_eq_emod]; rw [if_pos (Or.inl (by omega))]; omega
            rw [← hd] at EX
            clear hd
            go_wp2_with (at_builtin; refine wpList_append_own_src _ rfl (.tmp 42) (.tmp 45) 66 66 rfl B 27 i0 (.int .u64 0) 1 8 Try.underlying66 hi0 hz0 hz1 hz2 rfl _ D.length (u64v D) rfl (OWN3.out.alloc _) _ 1 [.int .u64 (d : Int)] rfl (src_oneN Try.underlying66 w3 _ rfl) ?b1 ?b2 ?b3 ?next)
            case b1 => unfold maxLen; omega
            case b2 => omega
            case b3 => have := HB3.out.size; have := HS.out; simp; omega
            case next =>
              rintro v2 w4 ⟨own4, grow4, hat4⟩
              have hlt := OWN.out.lt
              have blk : ∀ k, k < w3.heap.size → (∀ q, (Value.slice ao D.length cap).ownBlock = some q → k ≠ q) → w4.heap[k]? = w3.heap[k]? := fun k hk hne => (grow4.block k (by simp; omega) (fun e => hne k e.symm rfl)).trans (Below.heap_alloc w3 _ k hk)
              have hl3 := HB3.out.size
              have hls := HS.out
              have hg := HG.out
              have hk := HK8.out
              have y8 := (blk k8 hk.2 (fun q e => by have := hlt q e; omega)).trans N8.out
              have Y0 := Lib.hid ((blk g0 (by omega) (fun q e => by have := hlt q e; omega)).trans Z3.out)
              have Y1 := Lib.hid ((blk g1 (by omega) (fun q e => by have := hlt q e; omega)).trans Z5.out)
              have B4 : Below w.heap.size w w4 := (HW.out.alloc HW.out.size _).grown grow4 (by have := HW.out.size; simp; omega) (fun g e => Nat.le_trans hg.2.2.2.2.2 (hlt g e).1)
              have s4 : B ≤ w4.heap.size := by have := grow4.size; simp at this; omega
              have ey : u64v D ++ [.int .u64 (d : Int)] = u64v (D ++ [d]) := by simp [u64v]
              rw [ey] at own4
              have c80' : w4.cell? ⟨k8, 0, none⟩ = some (.string (str y2)) := by rw [cell_of_rowW w4 k8 0 _ _ _ y8]; rfl
              have c81' : w4.cell? ⟨k8, 1, none⟩ = some (.int .i64 0) := by rw [cell_of_rowW w4 k8 1 _ _ _ y8]; rfl
              obtain ⟨a2, cap2, rfl⟩ := own_slN own4
              obtain ⟨w5, hw5⟩ : ∃ w5, w5 = w4.setRow g0 #[.string (str y2), .int .i64 0] := ⟨_, rfl⟩
              have p0 := setRow_heap w4 g0 _ (#[.string (str y2), .int .i64 0] : Array Value) 57 (0, 0) Y0.out
              rw [← hw5] at p0
              have oth : ∀ k, k ≠ g0 → w5.heap[k]? = w4.heap[k]? := fun k h => by rw [hw5]; exact setRow_other w4 g0 k _ h
              have B5 : Below w.heap.size w w5 := by rw [hw5]; exact below_setRow B4 hg.2.2.2.2.1 _
              have s5 : B ≤ w5.heap.size := by rw [hw5]; simp [World.setRow]; exact s4
              have p1 := (oth g1 (fun e => hg.2.2.1 e.symm)).trans Y1.out
              have hl4 := own4.lt
              have own5 : w5.ownsRow B 27 1 (.slice a2 (D.length + 1) cap2) (D ++ [d]).length (u64v (D ++ [d])) := by
                rw [show (D ++ [d]).length = D.length + 1 by simp]
                exact own_keepN (w' := w5) own4 (fun k e _ => oth k (by have := hl4 k e; omega))
              have P0 := Lib.hid p0
              have P1 := Lib.hid p1
              have PB := Lib.hid B5
              have PS := Lib.hid s5
              have PO := Lib.hid own5
              have HW5 := Lib.hid hw5
              clear y8 B4 s4 ey own4 grow4 hat4 blk hw5 p0 p1 oth B5 s5 own5 hl3 hls hlt hl4 hg hk c80 c81
              go_upto_region 10 with (with_reducible show wpList _ _ _ _ _ _; refine wpList_store_whole rfl 57 (.tmp 2) (.tmp 47) rfl g0 57 _ #[.string (str y2), .int .i64 0] rfl rfl Y0.out SZ.out rfl (by kernel_rfl) ?_; rw [← HW5.out])
              by_cases hx : x.toNat < 128
              · have hxi : (x.toNat : Int) < 128 := by omega
                have EE := Lib.hid (show X = if most < dv (D ++ [d]) then (0, [], 2) else (dv (D ++ [d]), y2, 0) by rw [EX.out, if_pos hx])
                go_wp2_with fail
                go_meet
                exact ⟨y2, D ++ [d], by simp; omega, HL2.out, EE.out, PB.out, PS.out, P0.out, P1.out, PO.out⟩
              · have hxi : ¬ (x.toNat : Int) < 128 := by omega
                obtain ⟨f', rfl⟩ : ∃ f', f = f' + 1 := ⟨f - 1, by have := HBAD.out; omega⟩
                have EE := Lib.hid (show X = nrc 0 (f' + 1) y2 (D ++ [d]) most by rw [EX.out, if_neg hx]; simp [nrc])
                have RL := Lib.hid (show NuRel w g0 g1 B X most (.slice a2 (D.length + 1) cap2) w5 from ⟨f', 0, y2, D ++ [d], by simp; omega, HL2.out, EE.out, PB.out, PS.out, P0.out, P1.out, PO.out⟩)
                go_wp2_with fail
                exact ⟨RL.out, by simp [lenOf]; omega⟩
      · have hb : (y3 != 0) = true := by simpa using hy
        have s0 : w3.cell? ⟨g1, 0, none⟩ = some (.string ⟨#[]⟩) := by rw [cell_of_rowW w3 g1 0 _ _ _ Z5.out]; rfl
        have s1 : w3.cell? ⟨g1, 1, none⟩ = some (.int .i64 0) := by rw [cell_of_rowW w3 g1 1 _ _ _ Z5.out]; rfl
        have sf0 : w3.frozen? ⟨g1, 0, none⟩ = false := by simp [World.frozen?, Z5.out]
        have sf1 : w3.frozen? ⟨g1, 1, none⟩ = false := by simp [World.frozen?, Z5.out]
        go_wp2_with fail
        go_region
        have z4 : (((w3.setCell ⟨g1, 0, none⟩ (.string (str y2))).setCell ⟨g1, 1, none⟩ (.int .i64 y3)).drew).heap[g1]? = some (.cells #[.string (str y2), .int .i64 y3] 57 (0, 0)) := by
          have := Go.Joins.block_setCell (i := 1) (Go.Joins.block_setCell (i := 0) Z5.out (.string (str y2))) (.int .i64 y3)
          exact this
        have B4 : Below w.heap.size w (((w3.setCell ⟨g1, 0, none⟩ (.string (str y2))).setCell ⟨g1, 1, none⟩ (.int .i64 y3)).drew) := ((HW.out.setCell HG.out.2.2.2.1 _).setCell HG.out.2.2.2.1 _).drew
        obtain ⟨w4, hw4⟩ : ∃ w4, w4 = (((w3.setCell ⟨g1, 0, none⟩ (.string (str y2))).setCell ⟨g1, 1, none⟩ (.int .i64 y3)).drew) := ⟨_, rfl⟩
        rw [← hw4] at z4 B4 ⊢
        obtain ⟨e2, eX⟩ := nb_stop (f := f) (D := D) (most := most) TKO.out hy
        rw [e2] at z4
        have Z4 := Lib.hid z4
        have HB4 := Lib.hid B4
        have EX := Lib.hid (HX.out.trans eX)
        clear z4 B4 hw4 e2 eX
        go_wp2_with fail
        refine bodyPost_ret (results_tmp_row rfl _ _ g1 57 [.string (str []), .int .i64 y3] (0, 0) _ _ rfl rfl Z4.out Try.underlying57 rfl (by kernel_rfl)) rfl ?_
        exact ⟨by rw [EX.out]; rfl, HB4.out⟩
  case rest =>
    obtain ⟨L2, D, hD, hL2, hX2, hB2, hs2, z0, z1, own⟩ := hcut
    obtain ⟨ao, cap, rfl⟩ := own_slN own
    have HX2 := Lib.hid hX2
    have HB2 := Lib.hid hB2
    have HS2 := Lib.hid hs2
    have Z1 := Lib.hid z1
    have OWN := Lib.hid own
    have k0 : wc.cell? ⟨g0, 0, none⟩ = some (.string (str L2)) := by rw [cell_of_rowW wc g0 0 _ _ _ z0]; rfl
    have k1 : wc.cell? ⟨g0, 1, none⟩ = some (.int .i64 0) := by rw [cell_of_rowW wc g0 1 _ _ _ z0]; rfl
    have HM := Lib.hid hm
    have F := Lib.hid (fun W => refFail_any (str L2) 0 2 W)
    rw [show fe 0 2 = 2 from rfl] at F
    unfold stv at F
    clear hL2 hX2 hB2 hs2 z0 z1 own hm R0
    go_wp2_with fail
    go_loopw [10, 11] (fun x u wr => NvRel wc D x u wr) (fun _ u _ => (intOf u + 1).toNat)
    case atStart => exact ⟨D.length, rfl, Nat.le_refl _, by simp [dv], rfl⟩
    case round =>
      obtain ⟨k, rfl, hk, rfl, hwr⟩ := hrel
      obtain rfl := hwr.symm
      by_cases h0 : 0 < k
      · obtain ⟨j, rfl⟩ : ∃ j, k = j + 1 := ⟨k - 1, by omega⟩
        obtain ⟨a, rfl, hc⟩ := own_digit OWN.out (show j < D.length by omega)
        have hd := dv_drop D (show j < D.length by omega)
        have j1 : (j : Int) < (D.length : Int) := by omega
        generalize dv (D.drop (j + 1)) = x0 at *
        generalize D.getD j 0 = y at *
        have HD := Lib.hid hd
        clear hd
        rw [show ((j + 1 : Nat) : Int) - 1 = (j : Int) by omega]
        go_wp2_with fail
        refine ⟨⟨j, rfl, by omega, ?_, rfl⟩, by simp [intOf]⟩
        rw [HD.out]
        first | (congr 1; done) | (simp only [IntKind.wrap_u64]; congr 1; omega)
      · obtain rfl : k = 0 := by omega
        rw [show ((0 : Nat) : Int) - 1 = -1 from rfl, List.drop_zero]
        generalize dv D = N at *
        by_cases hN : most < N
        · have hNi : (most : Int) < (N : Int) := by omega
          have EX := Lib.hid (show X = (0, [], 2) by rw [HX2.out, if_pos hN])
          clear HX2 hk h0
          go_wp2_with fail
          refine (F.out _).mono ?_
          rintro e w5 ⟨rfl, hB5⟩
          have z6 := (hB5.block g1 (Nat.lt_of_lt_of_le HG.out.2.1 HS2.out)).trans Z1.out
          have Z6 := Lib.hid z6
          have HB5 := Lib.hid (HB2.out.trans (hB5.mono HB2.out.size))
          have SZ8 := Lib.hid (show (Try.prog.info? 57).map (·.size) = some (#[.string ⟨#[]⟩, .int .i64 2] : Array Value).size by kernel_rfl)
          clear z6 hB5
          go_wp2_with (with_reducible show wpList _ _ _ _ _ _; refine wpList_store_whole rfl 57 (.tmp 5) (.tmp 68) rfl g1 57 #[.string ⟨#[]⟩, .int .i64 0] #[.string ⟨#[]⟩, .int .i64 2] rfl rfl Z6.out SZ8.out rfl (by kernel_rfl) ?_)
          refine bodyPost_ret (results_tmp_row rfl _ _ g1 57 [.string ⟨#[]⟩, .int .i64 2] (0, 0) _ _ rfl rfl (setRow_heap w5 g1 _ (#[.string ⟨#[]⟩, .int .i64 2] : Array Value) 57 (0, 0) Z6.out) Try.underlying57 rfl (by kernel_rfl)) rfl ?_
          exact ⟨by rw [EX.out]; rfl, below_setRow HB5.out HG.out.2.2.2.1 _⟩
        · have hNi : ¬ ((most : Int) < (N : Int)) := by omega
          have EX := Lib.hid (show X = (N, L2, 0) by rw [HX2.out, if_neg hN])
          have s0 : wc.cell? ⟨g1, 0, none⟩ = some (.string ⟨#[]⟩) := by rw [cell_of_rowW wc g1 0 _ _ _ Z1.out]; rfl
          have s1 : wc.cell? ⟨g1, 1, none⟩ = some (.int .i64 0) := by rw [cell_of_rowW wc g1 1 _ _ _ Z1.out]; rfl
          have sf0 : wc.frozen? ⟨g1, 0, none⟩ = false := by simp [World.frozen?, Z1.out]
          have sf1 : wc.frozen? ⟨g1, 1, none⟩ = false := by simp [World.frozen?, Z1.out]
          clear HX2 hk h0
          go_wp2_with fail
          go_region
          have z4 : (((wc.setCell ⟨g1, 0, none⟩ (.string (str L2))).setCell ⟨g1, 1, none⟩ (.int .i64 0)).drew).heap[g1]? = some (.cells #[.string (str L2), .int .i64 0] 57 (0, 0)) := by
            have := Go.Joins.block_setCell (i := 1) (Go.Joins.block_setCell (i := 0) Z1.out (.string (str L2))) (.int .i64 0)
            exact this
          have B4 : Below w.heap.size w (((wc.setCell ⟨g1, 0, none⟩ (.string (str L2))).setCell ⟨g1, 1, none⟩ (.int .i64 0)).drew) := ((HB2.out.setCell HG.out.2.2.2.1 _).setCell HG.out.2.2.2.1 _).drew
          obtain ⟨w4, hw4⟩ : ∃ w4, w4 = (((wc.setCell ⟨g1, 0, none⟩ (.string (str L2))).setCell ⟨g1, 1, none⟩ (.int .i64 0)).drew) := ⟨_, rfl⟩
          rw [← hw4] at z4 B4 ⊢
          have Z4 := Lib.hid z4
          have HB4 := Lib.hid B4
          clear z4 B4 hw4
          go_wp2_with fail
          refine bodyPost_ret (results_tmp_row rfl _ _ g1 57 [.string (str L2), .int .i64 0] (0, 0) _ _ rfl rfl Z4.out Try.underlying57 rfl (by kernel_rfl)) rfl ?_
          exact ⟨by rw [EX.out]; rfl, HB4.out⟩
end Go.Proofs.Ytcjnfmlpjolfpaa
