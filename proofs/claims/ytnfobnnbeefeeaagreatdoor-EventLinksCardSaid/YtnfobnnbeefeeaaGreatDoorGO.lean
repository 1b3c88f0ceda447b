/- tells: the head of the statements of events. -/
import Derived.Test.YtnfobnnbeefeeaaGreatDoorGN
import Derived.Test.YtnfobnnbeefeeaaGreatDoorG6
namespace Go.Proofs.YtnfobnnbeefeeaaGreatDoor.Wi
open Go Go.RowKit
set_option linter.unusedVariables false
set_option linter.unusedSimpArgs false
def tE : Ev := ⟨3, 7, 12, 2, 0, [], [], zV⟩
theorem zV_vE : zV.vE = 0 := by
  have h1 : zV.chk 0 0 = (0, 1) := by simp [zV, VT.chk]
  have h2 : zV.vb = [0] := by simp [zV, VT.vb]
  unfold VT.vE
  rw [h1, h2]
  simp
theorem zV_num : zV.Num := by simp [zV, VT.Num, NumL]
theorem tE_vE : tE.vE = 0 := by
  unfold Ev.vE Ev.rng
  rw [show tE.val = zV from rfl, zV_vE]
  decide
theorem tE_num : tE.Num := ⟨by decide, by decide, zV_num⟩
theorem tE_nz : tE.nz = tE := by unfold Ev.nz; rw [show tE.val = zV from rfl, zV_nz]; rfl
theorem tE_eb : tE.eb = [12, 3, 7, 2] := by
  unfold Ev.eb
  rw [show tE.val = zV from rfl]
  have e1 : enc 3 = [3] := by decide
  have e2 : enc 7 = [7] := by decide
  have e3 : enc 2 = [2] := by decide
  simp [tE, e1, e2, e3, oI, eA, eB, eN, eT, eV]
theorem tE_ln : tE.ln = [51, 32, 64, 55, 32, 116, 105, 109, 101, 114, 45, 102, 105, 114, 101, 100, 32, 50] := by
  have d3 : Lib.itoa 3 = [51] := by
    have : Lib.decDigits 3 = [51] := Lib.decDigits_one (by decide)
    simpa [Lib.itoa] using this
  have d7 : Lib.itoa 7 = [55] := by
    have : Lib.decDigits 7 = [55] := Lib.decDigits_one (by decide)
    simpa [Lib.itoa] using this
  have d2 : Lib.itoa 2 = [50] := by
    have : Lib.decDigits 2 = [50] := Lib.decDigits_one (by decide)
    simpa [Lib.itoa] using this
  unfold Ev.ln
  simp [tE, d3, d7, d2, oL, eA, eB, eN, eT, eV, eNm, eNms]
theorem tE_at (N : Nat) (w : World) : tE.At N w := ⟨by decide, by decide, by decide, by decide, by decide, by decide, by decide, mk0_at (by decide) (by decide) (by decide)⟩
theorem kOf_fired : kOfN [116, 105, 109, 101, 114, 45, 102, 105, 114, 101, 100] = 12 := by decide +kernel
theorem rowEB {W W' : World} {g : Nat} {x : Ev} (h : W.heap[g]? = some (.cells x.cells.toArray 28 (0, 0))) (hb : Below W.heap.size W W') : ∀ (j : Nat) u, x.cells[j]? = some u → W'.cell? ((⟨g, 0, none⟩ : Addr).add j) = some u :=
  rowE ((hb.block g (lt_of_rowK h)).trans h)
set_option maxHeartbeats 16000000 in
set_option maxRecDepth 100000 in
theorem tells_any (w : World) (he : EB w.heap.size w) : Calls Tryz.prog 12 #[] w fun e w' => e = .returned (.bool true) ∧ Below w.heap.size w w' := by
  obtain ⟨w1, hw1⟩ : ∃ w1, w1 = w.alloc (.cells tE.cells.toArray 28) := ⟨_, rfl⟩
  obtain ⟨g1, hg1⟩ : ∃ g, g = w.heap.size := ⟨_, rfl⟩
  have b1 : Below w.heap.size w w1 := by rw [hw1]; exact (Below.refl _ _).alloc (Nat.le_refl _) _
  have n1 : w1.heap[g1]? = some (.cells tE.cells.toArray 28 (0, 0)) := by rw [hw1, hg1]; exact heap_alloc_new _ _
  have e1 : EB w1.heap.size w1 := (he.on b1).base b1.size
  have CE := Lib.hid (eencode_any tE w1.heap.size w1 (tE_at _ _) (Nat.le_refl _) e1)
  have HW1 := Lib.hid hw1
  have HG1 := Lib.hid hg1
  have B1 := Lib.hid b1
  have E1 := Lib.hid e1
  have TA := Lib.hid (fun (W : World) => tE_at W.heap.size W)
  obtain ⟨TE, hTE⟩ : ∃ TE, TE = tE := ⟨_, rfl⟩
  have HTE := Lib.hid hTE
  have N1 := Lib.hid (show w1.heap[g1]? = some (.cells TE.cells.toArray 28 (0, 0)) by rw [hTE]; exact n1)
  rw [← hTE] at CE TA
  have SB := Lib.hid (show (Tryz.prog.info? 28).map (·.size) = some tE.cells.toArray.size from Tryz.evSize' tE)
  clear hw1 hg1 b1 n1 e1 hTE he
  go_enter Tryz.func12, Tryz.ntmps12
  go_upto_region 2 with (with_reducible show wpList _ _ _ _ _ _; refine wpList_store_newW rfl 28 (.tmp 1) (.tmp 6) rfl 28 _ tE.cells.toArray rfl rfl SB.out rfl tE.cells_one ?_)
  rw [← HW1.out, ← HG1.out]
  have K1 := Lib.hid (rowE N1.out)
  go_wp2_with (with_reducible show wpList _ _ _ _ _ _; refine wpList_load_allW rfl 28 (.tmp 1) rfl ⟨g1,0,none⟩ rfl TE.cells _ K1.out Tryz.underlying28 rfl (Tryz.evSize TE) ?_)
  refine CE.out.mono ?_
  rintro e w2 ⟨hb2, hP⟩
  rw [if_pos (by rw [HTE.out]; exact tE_vE)] at hP
  obtain ⟨ao, c, rfl, own2⟩ := hP
  have hS := own_Sl own2 rfl
  have b12 := B1.out.trans (hb2.mono B1.out.size)
  have hl : TE.eb.length = 4 := by rw [HTE.out, tE_eb]; rfl
  have CD := edecode_any hS (by omega) ((E1.out.on hb2).base hb2.size)
  rw [show dcE TE.eb = (tE, 0) by rw [HTE.out, dcE_fwd tE_num tE_vE, tE_nz]] at CD
  have HCD := Lib.hid CD
  have OWN := Lib.hid own2
  have HB2 := Lib.hid hb2
  have HL := Lib.hid hl
  obtain ⟨n4, hn4⟩ : ∃ n, n = TE.eb.length := ⟨_, rfl⟩
  rw [← hn4] at HCD HL ⊢
  have HN4 := Lib.hid hn4
  clear hS CD own2 hb2 b12 hl K1 hn4
  go_wp2_with fail
  refine HCD.out.mono ?_
  rintro e w3 ⟨U, rfl, hUz, hUa, hUin, hb3⟩
  obtain ⟨w4, hw4⟩ : ∃ bx, bx = w3.alloc (.cells U.cells.toArray 28) := ⟨_, rfl⟩
  obtain ⟨g4, hg4⟩ : ∃ bx, bx = w3.heap.size := ⟨_, rfl⟩
  have bw4 : Below w3.heap.size w3 w4 := by rw [hw4]; exact (Below.refl _ _).alloc (Nat.le_refl _) _
  have nw4 : w4.heap[g4]? = some (.cells U.cells.toArray 28 (0, 0)) := by rw [hw4, hg4]; exact heap_alloc_new _ _
  have Kw4 := Lib.hid (rowE nw4)
  have Cw4 := Lib.hid (evC nw4)
  have Hw4 := Lib.hid hw4
  have Hg4 := Lib.hid hg4
  have Bw4 := Lib.hid bw4
  have Nw4 := Lib.hid nw4
  clear hw4 hg4 bw4 nw4
  have hb14 : Below w1.heap.size w1 w4 := HB2.out.trans ((hb3.mono HB2.out.size).trans (Bw4.out.mono (Nat.le_trans HB2.out.size hb3.size)))
  have hb24 : Below w2.heap.size w2 w4 := hb3.trans (Bw4.out.mono hb3.size)
  have KE := Lib.hid (fun (W : World) (h : Below w4.heap.size w4 W) => rowEB N1.out (hb14.trans (h.mono hb14.size)))
  have KU := Lib.hid (fun (W : World) (h : Below w4.heap.size w4 W) => rowEB Nw4.out h)
  have E4 := (E1.out.on hb14).base hb14.size
  have SA := Lib.hid (show Calls Tryz.prog 45 #[.agg TE.cells.toArray, .agg U.cells.toArray] w4 fun e w' => e = .returned (.bool true) ∧ Below w4.heap.size w4 w' from by
    have h1 := esame_any TE U (by rw [HTE.out]; exact (fine (Ev.fits tE_vE).val.1).dpr) w4.heap.size w4 (TA.out w4) ((hUa.below Bw4.out).mono Bw4.out.size) (Nat.le_refl _)
    rw [(Ev.same_nz (by rw [HTE.out]; exact (fine (Ev.fits tE_vE).val.1).kin)).2 (by rw [HTE.out]; exact tE_nz.trans hUz.symm)] at h1
    exact h1)
  obtain ⟨S4, hS4⟩ : ∃ S, S = str [12, 3, 7, 2] := ⟨_, rfl⟩
  have t4 : S4.toList = [12, 3, 7, 2] := by rw [hS4, ByteArray.toList_eq]; rfl
  have CV := Lib.hid (show ∀ W, Below w4.heap.size w4 W → (convert 36 9 (.slice ao n4 c)).run Tryz.prog W = .ok (.string S4) W from fun W h => by
    have o2 : W.ownsRow w1.heap.size 5 1 (.slice ao n4 c) n4 (bvs TE.eb) := by rw [HN4.out]; exact own_belowK OWN.out (hb24.trans (h.mono hb24.size))
    rw [hS4, ← tE_eb, ← HTE.out]
    exact own_conv o2 HN4.out.symm)
  obtain ⟨LN, hLN⟩ : ∃ S, S = str tE.ln := ⟨_, rfl⟩
  have tl : LN.toList = [51, 32, 64, 55, 32, 116, 105, 109, 101, 114, 45, 102, 105, 114, 101, 100, 32, 50] := by rw [hLN, tE_ln, ByteArray.toList_eq]; rfl
  have PR := Lib.hid (show ∀ W, Below w4.heap.size w4 W → Calls Tryz.prog 46 #[.agg TE.cells.toArray] W fun e w' => e = .returned (.string LN) ∧ Below W.heap.size W w' from fun W h => by
    have h1 := eprint_any TE W.heap.size W (TA.out W) (by rw [HTE.out]; exact tE_vE) (Nat.le_refl _) ((E4.on h).base h.size)
    rw [hLN, ← HTE.out]
    exact h1)
  have KI := Lib.hid (show ∀ W, Below w4.heap.size w4 W → Calls Tryz.prog 47 #[.string ⟨#[116, 105, 109, 101, 114, 45, 102, 105, 114, 101, 100]⟩] W fun e w' => e = .returned (.int .i64 12) ∧ ∃ n, w' = W.drewN n from fun W h => by
    have h1 := ekind_any [116, 105, 109, 101, 114, 45, 102, 105, 114, 101, 100] W (E4.len W h)
    rw [kOf_fired] at h1
    exact h1)
  have OU := Lib.hid (show ∀ W, Calls Tryz.prog 35 #[.agg TE.cells.toArray] W fun e w' => e = .returned (.bool true) ∧ Below W.heap.size W w' from fun W => by rw [HTE.out]; exact eoutside_any tE W)
  have TK := Lib.hid (show ∀ W, Calls Tryz.prog 36 #[.agg TE.cells.toArray] W fun e w' => e = .returned (.bool false) ∧ Below W.heap.size W w' from fun W => by rw [HTE.out]; exact etask_any tE W)
  have CL := Lib.hid (show ∀ W, Calls Tryz.prog 33 #[.agg TE.cells.toArray] W fun e w' => e = .returned (.bool false) ∧ Below W.heap.size W w' from fun W => by rw [HTE.out]; exact ecloses_any tE W)
  have BF := Lib.hid (fun (W : World) (h : Below w4.heap.size w4 W) => (B1.out.trans (hb14.mono B1.out.size)).trans (h.mono (Nat.le_trans B1.out.size hb14.size)))
  clear hUz hUa hUin hb3 hb14 hb24 E4 hS4 hLN HCD
  have KEa := Lib.hid (KE.out w4 (Below.refl _ _))
  have KUa := Lib.hid (KU.out w4 (Below.refl _ _))
  go_wp2_with (first
    | (with_reducible show wpList _ _ _ _ _ _; refine wpList_store_newW rfl 28 (.tmp 4) (.tmp 15) rfl 28 _ U.cells.toArray rfl rfl (Tryz.evSize' U) (by with_unfolding_all exact Ev.eleven U) U.cells_one ?_; rw [← Hw4.out, ← Hg4.out])
    | (with_reducible show wpList _ _ _ _ _ _; refine wpList_loadWanted (by with_unfolding_all rfl) 28 (.tmp 1) rfl ⟨g1,0,none⟩ (by with_unfolding_all rfl) TE.cells _ KEa.out Tryz.underlying28 rfl (Tryz.evSize TE) ?_)
    | (with_reducible show wpList _ _ _ _ _ _; refine wpList_loadWanted (by with_unfolding_all rfl) 28 (.tmp 4) rfl ⟨g4,0,none⟩ (by with_unfolding_all rfl) U.cells _ KUa.out Tryz.underlying28 rfl (Tryz.evSize U) ?_))
  refine SA.out.mono ?_
  rintro e x1 ⟨rfl, hx1⟩
  have cv := CV.out x1 hx1
  have KEb := Lib.hid (KE.out x1 hx1)
  go_wp2_with (first | (with_reducible show wpList _ _ _ _ _ _; refine wpList_loadWanted (by with_unfolding_all rfl) 28 (.tmp 1) rfl ⟨g1,0,none⟩ (by with_unfolding_all rfl) TE.cells _ KEb.out Tryz.underlying28 rfl (Tryz.evSize TE) ?_))
  refine (PR.out x1 hx1).mono ?_
  rintro e x2 ⟨rfl, hx12⟩
  have hx2 := hx1.trans (hx12.mono hx1.size)
  clear hx12 hx1 cv
  go_wp2_with fail
  refine (KI.out x2 hx2).mono ?_
  rintro e x3 ⟨rfl, n3, hx23⟩
  have hx3 : Below w4.heap.size w4 x3 := by rw [hx23]; exact below_drewG hx2 n3
  clear hx23 hx2
  have KEc := Lib.hid (KE.out x3 hx3)
  go_wp2_with (first | (with_reducible show wpList _ _ _ _ _ _; refine wpList_loadWanted (by with_unfolding_all rfl) 28 (.tmp 1) rfl ⟨g1,0,none⟩ (by with_unfolding_all rfl) TE.cells _ KEc.out Tryz.underlying28 rfl (Tryz.evSize TE) ?_))
  refine (OU.out x3).mono ?_
  rintro e x4 ⟨rfl, hx34⟩
  have hx4 := hx3.trans (hx34.mono hx3.size)
  clear hx34 hx3
  have KEd := Lib.hid (KE.out x4 hx4)
  go_wp2_with (first | (with_reducible show wpList _ _ _ _ _ _; refine wpList_loadWanted (by with_unfolding_all rfl) 28 (.tmp 1) rfl ⟨g1,0,none⟩ (by with_unfolding_all rfl) TE.cells _ KEd.out Tryz.underlying28 rfl (Tryz.evSize TE) ?_))
  refine (TK.out x4).mono ?_
  rintro e x5 ⟨rfl, hx45⟩
  have hx5 := hx4.trans (hx45.mono hx4.size)
  clear hx45 hx4
  have KEe := Lib.hid (KE.out x5 hx5)
  go_wp2_with (first | (with_reducible show wpList _ _ _ _ _ _; refine wpList_loadWanted (by with_unfolding_all rfl) 28 (.tmp 1) rfl ⟨g1,0,none⟩ (by with_unfolding_all rfl) TE.cells _ KEe.out Tryz.underlying28 rfl (Tryz.evSize TE) ?_))
  refine (CL.out x5).mono ?_
  rintro e x6 ⟨rfl, hx56⟩
  have hx6 := hx5.trans (hx56.mono hx5.size)
  clear hx56 hx5
  go_wp2_with fail
  go_ret
  exact ⟨rfl, BF.out x6 hx6⟩
end Go.Proofs.YtnfobnnbeefeeaaGreatDoor.Wi
/- The reference's Name, A, B, N, T, V. -/
namespace Go.Proofs.YtnfobnnbeefeeaaGreatDoor.Wi
open Go Go.RowKit
set_option linter.unusedVariables false
set_option linter.unusedSimpArgs false
theorem nms_at : ∀ i : Fin 21, (#[.string ⟨#[]⟩, .string ⟨#[114, 117, 110, 45, 115, 116, 97, 114, 116, 101, 100]⟩, .string ⟨#[116, 97, 115, 107, 45, 115, 99, 104, 101, 100, 117, 108, 101, 100]⟩, .string ⟨#[116, 97, 115, 107, 45, 115, 116, 97, 114, 116, 101, 100]⟩, .string ⟨#[116, 97, 115, 107, 45, 99, 111, 109, 112, 108, 101, 116, 101, 100]⟩, .string ⟨#[116, 97, 115, 107, 45, 116, 105, 109, 101, 100, 45, 111, 117, 116]⟩, .string ⟨#[116, 97, 115, 107, 45, 102, 97, 105, 108, 101, 100]⟩, .string ⟨#[97, 99, 116, 105, 118, 105, 116, 121, 45, 115, 99, 104, 101, 100, 117, 108, 101, 100]⟩, .string ⟨#[97, 99, 116, 105, 118, 105, 116, 121, 45, 99, 111, 109, 112, 108, 101, 116, 101, 100]⟩, .string ⟨#[97, 99, 116, 105, 118, 105, 116, 121, 45, 102, 97, 105, 108, 101, 100]⟩, .string ⟨#[97, 99, 116, 105, 118, 105, 116, 121, 45, 116, 105, 109, 101, 100, 45, 111, 117, 116]⟩, .string ⟨#[116, 105, 109, 101, 114, 45, 115, 116, 97, 114, 116, 101, 100]⟩, .string ⟨#[116, 105, 109, 101, 114, 45, 102, 105, 114, 101, 100]⟩, .string ⟨#[116, 105, 109, 101, 114, 45, 99, 97, 110, 99, 101, 108, 101, 100]⟩, .string ⟨#[115, 105, 103, 110, 97, 108, 45, 114, 101, 99, 101, 105, 118, 101, 100]⟩, .string ⟨#[99, 97, 110, 99, 101, 108, 45, 114, 101, 113, 117, 101, 115, 116, 101, 100]⟩, .string ⟨#[114, 117, 110, 45, 99, 111, 109, 112, 108, 101, 116, 101, 100]⟩, .string ⟨#[114, 117, 110, 45, 102, 97, 105, 108, 101, 100]⟩, .string ⟨#[114, 117, 110, 45, 99, 97, 110, 99, 101, 108, 101, 100]⟩, .string ⟨#[114, 117, 110, 45, 116, 101, 114, 109, 105, 110, 97, 116, 101, 100]⟩, .string ⟨#[114, 117, 110, 45, 116, 105, 109, 101, 100, 45, 111, 117, 116]⟩, .string ⟨#[99, 111, 110, 116, 105, 110, 117, 101, 100, 45, 97, 115, 45, 110, 101, 119]⟩] : Array Value)[i.val + 1]? = some (.string (str (eNms.getD i.val []))) := by
  intro i
  match i with
  | ⟨0, _⟩ => rfl
  | ⟨1, _⟩ => rfl
  | ⟨2, _⟩ => rfl
  | ⟨3, _⟩ => rfl
  | ⟨4, _⟩ => rfl
  | ⟨5, _⟩ => rfl
  | ⟨6, _⟩ => rfl
  | ⟨7, _⟩ => rfl
  | ⟨8, _⟩ => rfl
  | ⟨9, _⟩ => rfl
  | ⟨10, _⟩ => rfl
  | ⟨11, _⟩ => rfl
  | ⟨12, _⟩ => rfl
  | ⟨13, _⟩ => rfl
  | ⟨14, _⟩ => rfl
  | ⟨15, _⟩ => rfl
  | ⟨16, _⟩ => rfl
  | ⟨17, _⟩ => rfl
  | ⟨18, _⟩ => rfl
  | ⟨19, _⟩ => rfl
  | ⟨20, _⟩ => rfl
  | ⟨k + 21, h⟩ => exact absurd h (by omega)
set_option maxHeartbeats 4000000 in
set_option maxRecDepth 100000 in
theorem rname_any (k : Int) (hk : -9223372036854775808 ≤ k ∧ k ≤ 9223372036854775807) (w : World) : Calls Tryz.prog 50 #[.int .i64 k] w fun e w' => e = .returned (.string (str (eNm k))) ∧ Below w.heap.size w w' := by
  obtain ⟨M, hM⟩ : ∃ M, M = str (eNm k) := ⟨_, rfl⟩
  rw [← hM]
  obtain ⟨w1, hw1⟩ : ∃ w1, w1 = w.alloc (.cells #[.string ⟨#[]⟩, .string ⟨#[114, 117, 110, 45, 115, 116, 97, 114, 116, 101, 100]⟩, .string ⟨#[116, 97, 115, 107, 45, 115, 99, 104, 101, 100, 117, 108, 101, 100]⟩, .string ⟨#[116, 97, 115, 107, 45, 115, 116, 97, 114, 116, 101, 100]⟩, .string ⟨#[116, 97, 115, 107, 45, 99, 111, 109, 112, 108, 101, 116, 101, 100]⟩, .string ⟨#[116, 97, 115, 107, 45, 116, 105, 109, 101, 100, 45, 111, 117, 116]⟩, .string ⟨#[116, 97, 115, 107, 45, 102, 97, 105, 108, 101, 100]⟩, .string ⟨#[97, 99, 116, 105, 118, 105, 116, 121, 45, 115, 99, 104, 101, 100, 117, 108, 101, 100]⟩, .string ⟨#[97, 99, 116, 105, 118, 105, 116, 121, 45, 99, 111, 109, 112, 108, 101, 116, 101, 100]⟩, .string ⟨#[97, 99, 116, 105, 118, 105, 116, 121, 45, 102, 97, 105, 108, 101, 100]⟩, .string ⟨#[97, 99, 116, 105, 118, 105, 116, 121, 45, 116, 105, 109, 101, 100, 45, 111, 117, 116]⟩, .string ⟨#[116, 105, 109, 101, 114, 45, 115, 116, 97, 114, 116, 101, 100]⟩, .string ⟨#[116, 105, 109, 101, 114, 45, 102, 105, 114, 101, 100]⟩, .string ⟨#[116, 105, 109, 101, 114, 45, 99, 97, 110, 99, 101, 108, 101, 100]⟩, .string ⟨#[115, 105, 103, 110, 97, 108, 45, 114, 101, 99, 101, 105, 118, 101, 100]⟩, .string ⟨#[99, 97, 110, 99, 101, 108, 45, 114, 101, 113, 117, 101, 115, 116, 101, 100]⟩, .string ⟨#[114, 117, 110, 45, 99, 111, 109, 112, 108, 101, 116, 101, 100]⟩, .string ⟨#[114, 117, 110, 45, 102, 97, 105, 108, 101, 100]⟩, .string ⟨#[114, 117, 110, 45, 99, 97, 110, 99, 101, 108, 101, 100]⟩, .string ⟨#[114, 117, 110, 45, 116, 101, 114, 109, 105, 110, 97, 116, 101, 100]⟩, .string ⟨#[114, 117, 110, 45, 116, 105, 109, 101, 100, 45, 111, 117, 116]⟩, .string ⟨#[99, 111, 110, 116, 105, 110, 117, 101, 100, 45, 97, 115, 45, 110, 101, 119]⟩] 9) := ⟨_, rfl⟩
  obtain ⟨g, hg⟩ : ∃ g, g = w.heap.size := ⟨_, rfl⟩
  have b1 : Below w.heap.size w w1 := by rw [hw1]; exact (Below.refl _ _).alloc (Nat.le_refl _) _
  have n1 : w1.heap[g]? = some (.cells #[.string ⟨#[]⟩, .string ⟨#[114, 117, 110, 45, 115, 116, 97, 114, 116, 101, 100]⟩, .string ⟨#[116, 97, 115, 107, 45, 115, 99, 104, 101, 100, 117, 108, 101, 100]⟩, .string ⟨#[116, 97, 115, 107, 45, 115, 116, 97, 114, 116, 101, 100]⟩, .string ⟨#[116, 97, 115, 107, 45, 99, 111, 109, 112, 108, 101, 116, 101, 100]⟩, .string ⟨#[116, 97, 115, 107, 45, 116, 105, 109, 101, 100, 45, 111, 117, 116]⟩, .string ⟨#[116, 97, 115, 107, 45, 102, 97, 105, 108, 101, 100]⟩, .string ⟨#[97, 99, 116, 105, 118, 105, 116, 121, 45, 115, 99, 104, 101, 100, 117, 108, 101, 100]⟩, .string ⟨#[97, 99, 116, 105, 118, 105, 116, 121, 45, 99, 111, 109, 112, 108, 101, 116, 101, 100]⟩, .string ⟨#[97, 99, 116, 105, 118, 105, 116, 121, 45, 102, 97, 105, 108, 101, 100]⟩, .string ⟨#[97, 99, 116, 105, 118, 105, 116, 121, 45, 116, 105, 109, 101, 100, 45, 111, 117, 116]⟩, .string ⟨#[116, 105, 109, 101, 114, 45, 115, 116, 97, 114, 116, 101, 100]⟩, .string ⟨#[116, 105, 109, 101, 114, 45, 102, 105, 114, 101, 100]⟩, .string ⟨#[116, 105, 109, 101, 114, 45, 99, 97, 110, 99, 101, 108, 101, 100]⟩, .string ⟨#[115, 105, 103, 110, 97, 108, 45, 114, 101, 99, 101, 105, 118, 101, 100]⟩, .string ⟨#[99, 97, 110, 99, 101, 108, 45, 114, 101, 113, 117, 101, 115, 116, 101, 100]⟩, .string ⟨#[114, 117, 110, 45, 99, 111, 109, 112, 108, 101, 116, 101, 100]⟩, .string ⟨#[114, 117, 110, 45, 102, 97, 105, 108, 101, 100]⟩, .string ⟨#[114, 117, 110, 45, 99, 97, 110, 99, 101, 108, 101, 100]⟩, .string ⟨#[114, 117, 110, 45, 116, 101, 114, 109, 105, 110, 97, 116, 101, 100]⟩, .string ⟨#[114, 117, 110, 45, 116, 105, 109, 101, 100, 45, 111, 117, 116]⟩, .string ⟨#[99, 111, 110, 116, 105, 110, 117, 101, 100, 45, 97, 115, 45, 110, 101, 119]⟩] 9 (0, 0)) := by rw [hw1, hg]; exact heap_alloc_new _ _
  have HW1 := Lib.hid hw1
  have HG := Lib.hid hg
  have B1 := Lib.hid b1
  by_cases h1 : k < 1
  · obtain rfl : M = ⟨#[]⟩ := by rw [hM]; unfold eNm; rw [if_neg (by omega)]; rfl
    clear hw1 hg b1 n1 hM
    go_enter Tryz.func50, Tryz.ntmps50
    go_upto_region 2 with fail
    rw [← HW1.out, ← HG.out]
    go_wp2_with fail
    go_ret
    exact ⟨rfl, B1.out⟩
  by_cases h2 : 21 < k
  · obtain rfl : M = ⟨#[]⟩ := by rw [hM]; unfold eNm; rw [if_neg (by omega)]; rfl
    clear hw1 hg b1 n1 hM
    go_enter Tryz.func50, Tryz.ntmps50
    go_upto_region 2 with fail
    rw [← HW1.out, ← HG.out]
    go_wp2_with fail
    go_ret
    exact ⟨rfl, B1.out⟩
  obtain ⟨i, rfl⟩ : ∃ i : Nat, k = (i : Int) + 1 := ⟨k.toNat - 1, by omega⟩
  have hi : i < 21 := by omega
  have c1 : w1.cell? ⟨g, i + 1, none⟩ = some (.string M) := by
    rw [cell_of_rowW w1 g (i + 1) _ _ _ n1, nms_at ⟨i, hi⟩, hM]
    unfold eNm
    rw [if_pos (by omega), show ((i : Int) + 1).toNat - 1 = i by omega]
  have b21 : (i : Int) + 1 ≤ 21 := by omega
  clear hw1 hg b1 n1 hM hk
  go_enter Tryz.func50, Tryz.ntmps50
  go_upto_region 2 with fail
  rw [← HW1.out, ← HG.out]
  go_wp2_with fail
  go_ret
  exact ⟨rfl, B1.out⟩
set_option maxHeartbeats 4000000 in
set_option maxRecDepth 100000 in
theorem rA_any (k : Int) (w : World) : Calls Tryz.prog 51 #[.int .i64 k] w fun e w' => e = .returned (.bool (eA k)) ∧ w' = w := by
  obtain ⟨R, hR⟩ : ∃ R, R = eA k := ⟨_, rfl⟩
  rw [← hR]
  unfold eA at hR
  by_cases h0 : k = 1
  · subst h0
    obtain rfl : R = true := by rw [hR]; rfl
    clear hR
    go_enter Tryz.func51, Tryz.ntmps51
    go_wp2_with fail
    go_ret
    exact ⟨rfl, rfl⟩
  have f0 : (k == 1) = false := by simpa using h0
  by_cases h1 : k = 3
  · subst h1
    obtain rfl : R = true := by rw [hR]; rfl
    clear hR
    go_enter Tryz.func51, Tryz.ntmps51
    go_wp2_with fail
    go_ret
    exact ⟨rfl, rfl⟩
  have f1 : (k == 3) = false := by simpa using h1
  by_cases h2 : k = 4
  · subst h2
    obtain rfl : R = true := by rw [hR]; rfl
    clear hR
    go_enter Tryz.func51, Tryz.ntmps51
    go_wp2_with fail
    go_ret
    exact ⟨rfl, rfl⟩
  have f2 : (k == 4) = false := by simpa using h2
  by_cases r1 : 7 ≤ k
  · by_cases r2 : k ≤ 13
    · obtain rfl : R = true := by rw [hR]; simp [r1, r2]
      clear hR
      go_enter Tryz.func51, Tryz.ntmps51
      go_wp2_with fail
      go_ret
      exact ⟨rfl, rfl⟩
    · obtain rfl : R = false := by rw [hR]; simp [h0, h1, h2]; omega
      clear hR
      go_enter Tryz.func51, Tryz.ntmps51
      go_wp2_with fail
      go_ret
      exact ⟨rfl, rfl⟩
  · obtain rfl : R = false := by rw [hR]; simp [h0, h1, h2]; omega
    clear hR
    go_enter Tryz.func51, Tryz.ntmps51
    go_wp2_with fail
    go_ret
    exact ⟨rfl, rfl⟩
set_option maxHeartbeats 4000000 in
set_option maxRecDepth 100000 in
theorem rB_any (k : Int) (w : World) : Calls Tryz.prog 52 #[.int .i64 k] w fun e w' => e = .returned (.bool (eB k)) ∧ w' = w := by
  obtain ⟨R, hR⟩ : ∃ R, R = eB k := ⟨_, rfl⟩
  rw [← hR]
  unfold eB at hR
  by_cases h0 : k = 1
  · subst h0
    obtain rfl : R = true := by rw [hR]; rfl
    clear hR
    go_enter Tryz.func52, Tryz.ntmps52
    go_wp2_with fail
    go_ret
    exact ⟨rfl, rfl⟩
  have f0 : (k == 1) = false := by simpa using h0
  by_cases h1 : k = 2
  · subst h1
    obtain rfl : R = true := by rw [hR]; rfl
    clear hR
    go_enter Tryz.func52, Tryz.ntmps52
    go_wp2_with fail
    go_ret
    exact ⟨rfl, rfl⟩
  have f1 : (k == 2) = false := by simpa using h1
  by_cases h2 : k = 3
  · subst h2
    obtain rfl : R = true := by rw [hR]; rfl
    clear hR
    go_enter Tryz.func52, Tryz.ntmps52
    go_wp2_with fail
    go_ret
    exact ⟨rfl, rfl⟩
  have f2 : (k == 3) = false := by simpa using h2
  by_cases h3 : k = 4
  · subst h3
    obtain rfl : R = true := by rw [hR]; rfl
    clear hR
    go_enter Tryz.func52, Tryz.ntmps52
    go_wp2_with fail
    go_ret
    exact ⟨rfl, rfl⟩
  have f3 : (k == 4) = false := by simpa using h3
  by_cases h4 : k = 5
  · subst h4
    obtain rfl : R = true := by rw [hR]; rfl
    clear hR
    go_enter Tryz.func52, Tryz.ntmps52
    go_wp2_with fail
    go_ret
    exact ⟨rfl, rfl⟩
  have f4 : (k == 5) = false := by simpa using h4
  by_cases h5 : k = 6
  · subst h5
    obtain rfl : R = true := by rw [hR]; rfl
    clear hR
    go_enter Tryz.func52, Tryz.ntmps52
    go_wp2_with fail
    go_ret
    exact ⟨rfl, rfl⟩
  have f5 : (k == 6) = false := by simpa using h5
  by_cases h6 : k = 7
  · subst h6
    obtain rfl : R = true := by rw [hR]; rfl
    clear hR
    go_enter Tryz.func52, Tryz.ntmps52
    go_wp2_with fail
    go_ret
    exact ⟨rfl, rfl⟩
  have f6 : (k == 7) = false := by simpa using h6
  by_cases h7 : k = 11
  · subst h7
    obtain rfl : R = true := by rw [hR]; rfl
    clear hR
    go_enter Tryz.func52, Tryz.ntmps52
    go_wp2_with fail
    go_ret
    exact ⟨rfl, rfl⟩
  have f7 : (k == 11) = false := by simpa using h7
  by_cases h8 : k = 21
  · subst h8
    obtain rfl : R = true := by rw [hR]; rfl
    clear hR
    go_enter Tryz.func52, Tryz.ntmps52
    go_wp2_with fail
    go_ret
    exact ⟨rfl, rfl⟩
  have f8 : (k == 21) = false := by simpa using h8
  obtain rfl : R = false := by rw [hR]; simp [h0, h1, h2, h3, h4, h5, h6, h7, h8]
  clear hR
  go_enter Tryz.func52, Tryz.ntmps52
  go_wp2_with fail
  go_ret
  exact ⟨rfl, rfl⟩
set_option maxHeartbeats 4000000 in
set_option maxRecDepth 100000 in
theorem rN_any (k : Int) (w : World) : Calls Tryz.prog 53 #[.int .i64 k] w fun e w' => e = .returned (.bool (eN k)) ∧ w' = w := by
  obtain ⟨R, hR⟩ : ∃ R, R = eN k := ⟨_, rfl⟩
  rw [← hR]
  unfold eN at hR
  by_cases h0 : k = 1
  · subst h0
    obtain rfl : R = true := by rw [hR]; rfl
    clear hR
    go_enter Tryz.func53, Tryz.ntmps53
    go_wp2_with fail
    go_ret
    exact ⟨rfl, rfl⟩
  have f0 : (k == 1) = false := by simpa using h0
  by_cases h1 : k = 6
  · subst h1
    obtain rfl : R = true := by rw [hR]; rfl
    clear hR
    go_enter Tryz.func53, Tryz.ntmps53
    go_wp2_with fail
    go_ret
    exact ⟨rfl, rfl⟩
  have f1 : (k == 6) = false := by simpa using h1
  by_cases h2 : k = 7
  · subst h2
    obtain rfl : R = true := by rw [hR]; rfl
    clear hR
    go_enter Tryz.func53, Tryz.ntmps53
    go_wp2_with fail
    go_ret
    exact ⟨rfl, rfl⟩
  have f2 : (k == 7) = false := by simpa using h2
  by_cases h3 : k = 9
  · subst h3
    obtain rfl : R = true := by rw [hR]; rfl
    clear hR
    go_enter Tryz.func53, Tryz.ntmps53
    go_wp2_with fail
    go_ret
    exact ⟨rfl, rfl⟩
  have f3 : (k == 9) = false := by simpa using h3
  by_cases h4 : k = 14
  · subst h4
    obtain rfl : R = true := by rw [hR]; rfl
    clear hR
    go_enter Tryz.func53, Tryz.ntmps53
    go_wp2_with fail
    go_ret
    exact ⟨rfl, rfl⟩
  have f4 : (k == 14) = false := by simpa using h4
  by_cases h5 : k = 17
  · subst h5
    obtain rfl : R = true := by rw [hR]; rfl
    clear hR
    go_enter Tryz.func53, Tryz.ntmps53
    go_wp2_with fail
    go_ret
    exact ⟨rfl, rfl⟩
  have f5 : (k == 17) = false := by simpa using h5
  by_cases h6 : k = 19
  · subst h6
    obtain rfl : R = true := by rw [hR]; rfl
    clear hR
    go_enter Tryz.func53, Tryz.ntmps53
    go_wp2_with fail
    go_ret
    exact ⟨rfl, rfl⟩
  have f6 : (k == 19) = false := by simpa using h6
  obtain rfl : R = false := by rw [hR]; simp [h0, h1, h2, h3, h4, h5, h6]
  clear hR
  go_enter Tryz.func53, Tryz.ntmps53
  go_wp2_with fail
  go_ret
  exact ⟨rfl, rfl⟩
set_option maxHeartbeats 4000000 in
set_option maxRecDepth 100000 in
theorem rT_any (k : Int) (w : World) : Calls Tryz.prog 54 #[.int .i64 k] w fun e w' => e = .returned (.bool (eT k)) ∧ w' = w := by
  obtain ⟨R, hR⟩ : ∃ R, R = eT k := ⟨_, rfl⟩
  rw [← hR]
  unfold eT at hR
  by_cases h0 : k = 1
  · subst h0
    obtain rfl : R = true := by rw [hR]; rfl
    clear hR
    go_enter Tryz.func54, Tryz.ntmps54
    go_wp2_with fail
    go_ret
    exact ⟨rfl, rfl⟩
  have f0 : (k == 1) = false := by simpa using h0
  obtain rfl : R = false := by rw [hR]; simp [h0]
  clear hR
  go_enter Tryz.func54, Tryz.ntmps54
  go_wp2_with fail
  go_ret
  exact ⟨rfl, rfl⟩
set_option maxHeartbeats 4000000 in
set_option maxRecDepth 100000 in
theorem rV_any (k : Int) (w : World) : Calls Tryz.prog 55 #[.int .i64 k] w fun e w' => e = .returned (.bool (eV k)) ∧ w' = w := by
  obtain ⟨R, hR⟩ : ∃ R, R = eV k := ⟨_, rfl⟩
  rw [← hR]
  unfold eV at hR
  by_cases h0 : k = 1
  · subst h0
    obtain rfl : R = true := by rw [hR]; rfl
    clear hR
    go_enter Tryz.func55, Tryz.ntmps55
    go_wp2_with fail
    go_ret
    exact ⟨rfl, rfl⟩
  have f0 : (k == 1) = false := by simpa using h0
  by_cases h1 : k = 7
  · subst h1
    obtain rfl : R = true := by rw [hR]; rfl
    clear hR
    go_enter Tryz.func55, Tryz.ntmps55
    go_wp2_with fail
    go_ret
    exact ⟨rfl, rfl⟩
  have f1 : (k == 7) = false := by simpa using h1
  by_cases h2 : k = 8
  · subst h2
    obtain rfl : R = true := by rw [hR]; rfl
    clear hR
    go_enter Tryz.func55, Tryz.ntmps55
    go_wp2_with fail
    go_ret
    exact ⟨rfl, rfl⟩
  have f2 : (k == 8) = false := by simpa using h2
  by_cases h3 : k = 14
  · subst h3
    obtain rfl : R = true := by rw [hR]; rfl
    clear hR
    go_enter Tryz.func55, Tryz.ntmps55
    go_wp2_with fail
    go_ret
    exact ⟨rfl, rfl⟩
  have f3 : (k == 14) = false := by simpa using h3
  by_cases h4 : k = 16
  · subst h4
    obtain rfl : R = true := by rw [hR]; rfl
    clear hR
    go_enter Tryz.func55, Tryz.ntmps55
    go_wp2_with fail
    go_ret
    exact ⟨rfl, rfl⟩
  have f4 : (k == 16) = false := by simpa using h4
  by_cases h5 : k = 21
  · subst h5
    obtain rfl : R = true := by rw [hR]; rfl
    clear hR
    go_enter Tryz.func55, Tryz.ntmps55
    go_wp2_with fail
    go_ret
    exact ⟨rfl, rfl⟩
  have f5 : (k == 21) = false := by simpa using h5
  obtain rfl : R = false := by rw [hR]; simp [h0, h1, h2, h3, h4, h5]
  clear hR
  go_enter Tryz.func55, Tryz.ntmps55
  go_wp2_with fail
  go_ret
  exact ⟨rfl, rfl⟩
end Go.Proofs.YtnfobnnbeefeeaaGreatDoor.Wi
/- The reference's Check. -/
namespace Go.Proofs.YtnfobnnbeefeeaaGreatDoor.Wi
open Go Go.RowKit
set_option linter.unusedVariables false
set_option linter.unusedSimpArgs false
theorem nm_empty (k : Int) : decide (eNm k = []) = !eKn k := by
  by_cases hk : 1 ≤ k ∧ k ≤ 21
  · have h1 : ∀ i : Fin 21, eNms.getD i.val [] ≠ [] := by decide +kernel
    have h2 := h1 ⟨k.toNat - 1, by omega⟩
    have h3 : eNm k ≠ [] := by unfold eNm; rw [if_pos hk]; exact h2
    have h4 : eKn k = true := by simp [eKn, hk]
    rw [decide_eq_false h3, h4]; rfl
  · have h3 : eNm k = [] := by unfold eNm; rw [if_neg hk]
    have h4 : eKn k = false := by
      cases hq : eKn k
      · rfl
      · exact absurd (by simpa [eKn] using hq) hk
    rw [decide_eq_true h3, h4]; rfl
theorem c10_eq (p1 p2 fn ft fv : Bool) (vk : Int) : ((p1 = false ∧ fn = false) ∨ (p2 = false ∧ ft = false) ∨ (vk ≠ 0 ∧ fv = false)) = (((!fn && !p1) || (!ft && !p2) || (!fv && (vk != 0))) = true) := by
  apply propext
  by_cases hv : vk = 0
  · subst hv
    cases p1 <;> cases p2 <;> cases fn <;> cases ft <;> cases fv <;> simp
  · have h1 : (vk != 0) = true := by simpa using hv
    rw [h1]
    cases p1 <;> cases p2 <;> cases fn <;> cases ft <;> cases fv <;> simp [hv]
theorem rng_split (x : Ev) (C4 C6 : Bool) (h4 : C4 = (decide (x.id < 1) || decide (1048576 < x.id) || decide (x.time < 0) || decide (4611686018427387903 < x.time) || decide (x.a < 0) || decide (x.b < 0)))
    (h6 : C6 = ((!eA x.kind && (x.a != 0)) || (!eB x.kind && (x.b != 0)))) : x.rng = !(C4 || C6) := by
  subst h4 h6
  unfold Ev.rng eOk
  generalize eA x.kind = fa
  generalize eB x.kind = fb
  cases fa <;> cases fb <;> simp <;> grind
set_option maxHeartbeats 16000000 in
set_option maxRecDepth 100000 in
theorem rcheckE_any (x : Ev) (N : Nat) (w : World) (hx : x.At N w) (hN : N ≤ w.heap.size) : Calls Tryz.prog 15 #[.agg x.cells.toArray] w fun e w' => e = .returned (.int .i64 x.vE) ∧ Below w.heap.size w w' := by
  obtain ⟨R, hR⟩ : ∃ R, R = x.vE := ⟨_, rfl⟩
  rw [← hR]
  unfold Ev.vE at hR
  obtain ⟨w1, hw1⟩ : ∃ bx, bx = w.alloc (.cells x.cells.toArray 28) := ⟨_, rfl⟩
  obtain ⟨g, hg⟩ : ∃ bx, bx = w.heap.size := ⟨_, rfl⟩
  have bw1 : Below w.heap.size w w1 := by rw [hw1]; exact (Below.refl _ _).alloc (Nat.le_refl _) _
  have nw1 : w1.heap[g]? = some (.cells x.cells.toArray 28 (0, 0)) := by rw [hw1, hg]; exact heap_alloc_new _ _
  have Kw1 := Lib.hid (rowE nw1)
  have Cw1 := Lib.hid (evC nw1)
  have Hw1 := Lib.hid hw1
  have Hg := Lib.hid hg
  have Bw1 := Lib.hid bw1
  have Nw1 := Lib.hid nw1
  clear hw1 hg bw1 nw1
  have HX1 := Lib.hid (hx.below (Bw1.out.mono hN))
  have KN := Lib.hid (rname_any x.kind hx.kind w1)
  have sn := str_empty (eNm x.kind)
  rw [nm_empty] at sn
  have FA := Lib.hid (fun W => rA_any x.kind W)
  have FB := Lib.hid (fun W => rB_any x.kind W)
  have FN := Lib.hid (fun W => rN_any x.kind W)
  have FT := Lib.hid (fun W => rT_any x.kind W)
  have FV := Lib.hid (fun W => rV_any x.kind W)
  have zn := str_sizeX x.name
  have zt := str_sizeX x.text
  have en := str_empty x.name
  have et := str_empty x.text
  have ROW := Lib.hid (fun (W : World) (h : Below w1.heap.size w1 W) => evC ((h.block g (lt_of_rowK Nw1.out)).trans Nw1.out))
  have VC := Lib.hid (fun W (h : Below w1.heap.size w1 W) => rcheck_any x.val N W (HX1.out.val.below (h.mono (Nat.le_trans hN Bw1.out.size))) (Nat.le_trans hN (Nat.le_trans Bw1.out.size h.size)))
  obtain ⟨C4, hC4⟩ : ∃ C, C = (decide (x.id < 1) || decide (1048576 < x.id) || decide (x.time < 0) || decide (4611686018427387903 < x.time) || decide (x.a < 0) || decide (x.b < 0)) := ⟨_, rfl⟩
  obtain ⟨C6, hC6⟩ : ∃ C, C = ((!eA x.kind && (x.a != 0)) || (!eB x.kind && (x.b != 0))) := ⟨_, rfl⟩
  have hrg := rng_split x C4 C6 hC4 hC6
  rw [hrg] at hR
  obtain ⟨k, hk⟩ : ∃ k, k = x.kind := ⟨_, rfl⟩
  obtain ⟨M, hM⟩ : ∃ M, M = str (eNm x.kind) := ⟨_, rfl⟩
  obtain ⟨S, hS⟩ : ∃ S, S = str x.name := ⟨_, rfl⟩
  obtain ⟨T, hT⟩ : ∃ T, T = str x.text := ⟨_, rfl⟩
  obtain ⟨kn, hkn⟩ : ∃ kn, kn = eKn x.kind := ⟨_, rfl⟩
  obtain ⟨fa, hfa⟩ : ∃ fn, fn = eA x.kind := ⟨_, rfl⟩
  obtain ⟨fb, hfb⟩ : ∃ fn, fn = eB x.kind := ⟨_, rfl⟩
  obtain ⟨fn, hfn⟩ : ∃ fn, fn = eN x.kind := ⟨_, rfl⟩
  obtain ⟨ft, hft⟩ : ∃ ft, ft = eT x.kind := ⟨_, rfl⟩
  obtain ⟨fv, hfv⟩ : ∃ fv, fv = eV x.kind := ⟨_, rfl⟩
  obtain ⟨i, hi⟩ : ∃ p, p = x.id := ⟨_, rfl⟩
  obtain ⟨t, ht⟩ : ∃ p, p = x.time := ⟨_, rfl⟩
  obtain ⟨a, ha⟩ : ∃ p, p = x.a := ⟨_, rfl⟩
  obtain ⟨b, hb⟩ : ∃ p, p = x.b := ⟨_, rfl⟩
  obtain ⟨L1, hL1⟩ : ∃ L1, L1 = x.name.length := ⟨_, rfl⟩
  obtain ⟨L2, hL2⟩ : ∃ L2, L2 = x.text.length := ⟨_, rfl⟩
  obtain ⟨vk, hvk⟩ : ∃ vk, vk = x.val.kd := ⟨_, rfl⟩
  obtain ⟨ve, hve⟩ : ∃ ve, ve = x.val.vE := ⟨_, rfl⟩
  obtain ⟨p1, hp1⟩ : ∃ p1, p1 = decide (x.name = []) := ⟨_, rfl⟩
  obtain ⟨p2, hp2⟩ : ∃ p2, p2 = decide (x.text = []) := ⟨_, rfl⟩
  have D := Lib.hid (show ∀ W, Below w1.heap.size w1 W → W.cell? ⟨g, 0, none⟩ = some (.int .i64 i) ∧ W.cell? ⟨g, 1, none⟩ = some (.int .i64 t) ∧ W.cell? ⟨g, 2, none⟩ = some (.int .i64 k) ∧ W.cell? ⟨g, 3, none⟩ = some (.int .i64 a) ∧ W.cell? ⟨g, 4, none⟩ = some (.int .i64 b) ∧ W.cell? ⟨g, 5, none⟩ = some (.string S) ∧ W.cell? ⟨g, 6, none⟩ = some (.string T) ∧ W.cell? ⟨g, 7, none⟩ = some (.int .i64 vk) from fun W h => by
    have q := ROW.out W h
    rw [hi, ht, hk, ha, hb, hS, hT, hvk]
    exact ⟨q.c0, q.c1, q.c2, q.c3, q.c4, q.c5, q.c6, q.c7⟩)
  rw [← hM, ← hk] at KN
  rw [← hM, ← hkn] at sn
  rw [← hfa, ← hk] at FA
  rw [← hfb, ← hk] at FB
  rw [← hfn, ← hk] at FN
  rw [← hft, ← hk] at FT
  rw [← hfv, ← hk] at FV
  rw [← hS, ← hL1] at zn
  rw [← hT, ← hL2] at zt
  rw [← hS, ← hp1] at en
  rw [← hT, ← hp2] at et
  rw [← hve] at VC
  rw [← hi, ← ht, ← ha, ← hb] at hC4
  rw [← hfa, ← hfb, ← ha, ← hb] at hC6
  rw [← hkn, ← hfn, ← hft, ← hfv, ← hL1, ← hL2, ← hvk, ← hve] at hR
  obtain ⟨C8, hC8⟩ : ∃ C, C = (decide (64 < L1) || decide (128 < L2)) := ⟨_, rfl⟩
  obtain ⟨C10, hC10⟩ : ∃ C, C = ((!fn && !p1) || (!ft && !p2) || (!fv && (vk != 0))) := ⟨_, rfl⟩
  have hR2 : R = if kn = false then 9 else if (C4 || C6) = true then 1 else if C8 = true then 2 else if C10 = true then 8 else ve := by
    rw [hR]
    have e1 : (x.name ≠ []) = (p1 = false) := by rw [hp1]; simp
    have e2 : (x.text ≠ []) = (p2 = false) := by rw [hp2]; simp
    have e3 : (64 < L1 ∨ 128 < L2) = (C8 = true) := by rw [hC8]; simp
    have e4 : ((p1 = false ∧ fn = false) ∨ (p2 = false ∧ ft = false) ∨ (vk ≠ 0 ∧ fv = false)) = (C10 = true) := by
      rw [hC10]; exact c10_eq p1 p2 fn ft fv vk
    have e5 : ((!(C4 || C6)) = false) = ((C4 || C6) = true) := by cases C4 <;> cases C6 <;> simp
    simp only [e1, e2, e3, e4, e5]
  have HR := Lib.hid hR2
  have HC4 := Lib.hid hC4
  have HC6 := Lib.hid hC6
  have HC8 := Lib.hid hC8
  have HC10 := Lib.hid hC10
  have ZN := Lib.hid zn
  have ZT := Lib.hid zt
  obtain ⟨q0, q1, q2, q3, q4, q5, q6, q7⟩ := D.out w1 (Below.refl _ _)
  clear hR hR2 hC4 hC6 hC8 hC10 hk hM hS hT hkn hfa hfb hfn hft hfv hi ht ha hb hL1 hL2 hvk hve hp1 hp2 hrg hx zn zt q0 q1 q3 q4 q5 q6 q7
  go_enter Tryz.func15, Tryz.ntmps15
  go_upto_region 1 with fail
  rw [← Hw1.out, ← Hg.out]
  go_wp2_with fail
  refine KN.out.mono ?_
  rintro e w2 ⟨rfl, hb2⟩
  have B2 := Lib.hid hb2
  have RL := Lib.hid (Bw1.out.trans (hb2.mono Bw1.out.size))
  clear hb2 q2
  cases kn
  · have sn2 : (M.toList == []) = true := sn
    obtain rfl : R = 9 := HR.out
    go_wp2_with fail
    go_ret
    exact ⟨rfl, RL.out⟩
  have sn2 : (M.toList == []) = false := sn
  obtain ⟨q0, q1, q2, q3, q4, q5, q6, q7⟩ := D.out w2 B2.out
  have Q5 := Lib.hid q5
  have Q6 := Lib.hid q6
  have Q7 := Lib.hid q7
  clear q5 q6 q7 q2
  go_upto_region 4 with fail
  clear sn sn2
  go_cut [38] (fun s wx => s = .bool C4 ∧ wx = w2)
  case first =>
    by_cases h0 : i < 1
    · obtain rfl : C4 = true := by rw [HC4.out]; simp [h0]
      go_wp2_with fail
      go_meet
      all_goals exact ⟨rfl, rfl⟩
    by_cases h1 : 1048576 < i
    · obtain rfl : C4 = true := by rw [HC4.out]; simp [h0, h1]
      go_wp2_with fail
      go_meet
      all_goals exact ⟨rfl, rfl⟩
    by_cases h2 : t < 0
    · obtain rfl : C4 = true := by rw [HC4.out]; simp [h0, h1, h2]
      go_wp2_with fail
      go_meet
      all_goals exact ⟨rfl, rfl⟩
    by_cases h3 : 4611686018427387903 < t
    · obtain rfl : C4 = true := by rw [HC4.out]; simp [h0, h1, h2, h3]
      go_wp2_with fail
      go_meet
      all_goals exact ⟨rfl, rfl⟩
    by_cases h4 : a < 0
    · obtain rfl : C4 = true := by rw [HC4.out]; simp [h0, h1, h2, h3, h4]
      go_wp2_with fail
      go_meet
      all_goals exact ⟨rfl, rfl⟩
    by_cases h5 : b < 0
    · obtain rfl : C4 = true := by rw [HC4.out]; simp [h0, h1, h2, h3, h4, h5]
      go_wp2_with fail
      go_meet
      all_goals exact ⟨rfl, rfl⟩
    obtain rfl : C4 = false := by rw [HC4.out]; simp [h0, h1, h2, h3, h4, h5] <;> omega
    go_wp2_with fail
    go_meet
    all_goals exact ⟨rfl, rfl⟩
  case rest =>
    obtain ⟨rfl, hw⟩ := hcut
    have hw' := hw.symm
    subst hw'
    clear hw
    cases C4
    case true =>
      obtain rfl : R = 1 := HR.out
      go_wp2_with fail
      go_ret
      exact ⟨rfl, RL.out⟩
    case false =>
      go_upto_region 6 with fail
      go_cut [56] (fun s wx => s = .bool C6 ∧ wx = w2)
      case first =>
        by_cases a0 : a = 0
        · subst a0
          by_cases b0 : b = 0
          · subst b0
            obtain rfl : C6 = false := by rw [HC6.out]; simp
            cases fa <;> cases fb
            all_goals
              go_wp2_with (first | (with_reducible refine (FA.out _).mono ?_; rintro _ wz ⟨rfl, hwz⟩; have hwz2 := hwz.symm; subst hwz2; clear hwz) | (with_reducible refine (FB.out _).mono ?_; rintro _ wz ⟨rfl, hwz⟩; have hwz2 := hwz.symm; subst hwz2; clear hwz))
              go_meet
              all_goals exact ⟨rfl, rfl⟩
          · have b1 : (b == 0) = false := by simpa using b0
            have b2 : (b != 0) = true := by simpa using b0
            obtain rfl : C6 = !fb := by rw [HC6.out, b2]; simp
            clear b0
            cases fa <;> cases fb
            all_goals
              go_wp2_with (first | (with_reducible refine (FA.out _).mono ?_; rintro _ wz ⟨rfl, hwz⟩; have hwz2 := hwz.symm; subst hwz2; clear hwz) | (with_reducible refine (FB.out _).mono ?_; rintro _ wz ⟨rfl, hwz⟩; have hwz2 := hwz.symm; subst hwz2; clear hwz))
              go_meet
              all_goals exact ⟨rfl, rfl⟩
        · have a1 : (a == 0) = false := by simpa using a0
          have a2 : (a != 0) = true := by simpa using a0
          clear a0
          cases fa
          · obtain rfl : C6 = true := by rw [HC6.out, a2]; simp
            go_wp2_with (first | (with_reducible refine (FA.out _).mono ?_; rintro _ wz ⟨rfl, hwz⟩; have hwz2 := hwz.symm; subst hwz2; clear hwz) | (with_reducible refine (FB.out _).mono ?_; rintro _ wz ⟨rfl, hwz⟩; have hwz2 := hwz.symm; subst hwz2; clear hwz))
            go_meet
            all_goals exact ⟨rfl, rfl⟩
          · by_cases b0 : b = 0
            · subst b0
              obtain rfl : C6 = false := by rw [HC6.out]; simp
              cases fb
              all_goals
                go_wp2_with (first | (with_reducible refine (FA.out _).mono ?_; rintro _ wz ⟨rfl, hwz⟩; have hwz2 := hwz.symm; subst hwz2; clear hwz) | (with_reducible refine (FB.out _).mono ?_; rintro _ wz ⟨rfl, hwz⟩; have hwz2 := hwz.symm; subst hwz2; clear hwz))
                go_meet
                all_goals exact ⟨rfl, rfl⟩
            · have b1 : (b == 0) = false := by simpa using b0
              have b2 : (b != 0) = true := by simpa using b0
              obtain rfl : C6 = !fb := by rw [HC6.out, b2]; simp
              clear b0
              cases fb
              all_goals
                go_wp2_with (first | (with_reducible refine (FA.out _).mono ?_; rintro _ wz ⟨rfl, hwz⟩; have hwz2 := hwz.symm; subst hwz2; clear hwz) | (with_reducible refine (FB.out _).mono ?_; rintro _ wz ⟨rfl, hwz⟩; have hwz2 := hwz.symm; subst hwz2; clear hwz))
                go_meet
                all_goals exact ⟨rfl, rfl⟩
      case rest =>
        obtain ⟨rfl, hw⟩ := hcut
        have hw' := hw.symm
        subst hw'
        clear hw q0 q1 q3 q4
        cases C6
        case true =>
          obtain rfl : R = 1 := HR.out
          go_wp2_with fail
          go_ret
          exact ⟨rfl, RL.out⟩
        case false =>
          go_upto_region 8 with fail
          go_cut [66] (fun s wx => s = .bool C8 ∧ wx = w2)
          case first =>
            have q5 := Q5.out
            have q6 := Q6.out
            by_cases h1 : 64 < L1
            · obtain rfl : C8 = true := by rw [HC8.out]; simp [h1]
              have h1' : (64 : Int) < (S.size : Int) := by have := ZN.out; omega
              go_wp2_with fail
              go_meet
              all_goals exact ⟨rfl, rfl⟩
            have h1' : ¬ (64 : Int) < (S.size : Int) := by have := ZN.out; omega
            by_cases h2 : 128 < L2
            · obtain rfl : C8 = true := by rw [HC8.out]; simp [h2]
              have h2' : (128 : Int) < (T.size : Int) := by have := ZT.out; omega
              go_wp2_with fail
              go_meet
              all_goals exact ⟨rfl, rfl⟩
            have h2' : ¬ (128 : Int) < (T.size : Int) := by have := ZT.out; omega
            obtain rfl : C8 = false := by rw [HC8.out]; simp [h1, h2] <;> omega
            go_wp2_with fail
            go_meet
            all_goals exact ⟨rfl, rfl⟩
          case rest =>
            obtain ⟨rfl, hw⟩ := hcut
            have hw' := hw.symm
            subst hw'
            clear hw
            cases C8
            case true =>
              obtain rfl : R = 2 := HR.out
              go_wp2_with fail
              go_ret
              exact ⟨rfl, RL.out⟩
            case false =>
              go_upto_region 10 with fail
              obtain ⟨vb, hvb⟩ : ∃ vb, vb = (vk != 0) := ⟨_, rfl⟩
              have v0 : (vk == 0) = !vb := by rw [hvb]; simp [bne]
              have HC := Lib.hid (show C10 = ((!fn && !p1) || (!ft && !p2) || (!fv && vb)) by rw [HC10.out, hvb])
              have v1 := hvb.symm
              clear hvb
              go_cut [95] (fun s wx => s = .bool C10 ∧ wx = w2)
              case first =>
                have q5 := Q5.out
                have q6 := Q6.out
                have q7 := Q7.out
                have w8 : fn = true ∨ (fn = false ∧ p1 = true) ∨ (fn = false ∧ p1 = false) := by cases p1 <;> cases fn <;> simp
                have w9 : ft = true ∨ (ft = false ∧ p2 = true) ∨ (ft = false ∧ p2 = false) := by cases p2 <;> cases ft <;> simp
                have wA : fv = true ∨ (fv = false ∧ vb = false) ∨ (fv = false ∧ vb = true) := by cases vb <;> cases fv <;> simp
                rcases w8 with h | h | h
                rotate_left 2
                · obtain ⟨rfl, rfl⟩ := h
                  obtain rfl : C10 = true := by rw [HC.out]; simp
                  go_wp2_with (first | (with_reducible refine (FN.out _).mono ?_; rintro _ wz ⟨rfl, hwz⟩; have hwz2 := hwz.symm; subst hwz2; clear hwz) | (with_reducible refine (FT.out _).mono ?_; rintro _ wz ⟨rfl, hwz⟩; have hwz2 := hwz.symm; subst hwz2; clear hwz) | (with_reducible refine (FV.out _).mono ?_; rintro _ wz ⟨rfl, hwz⟩; have hwz2 := hwz.symm; subst hwz2; clear hwz))
                  go_meet
                  all_goals exact ⟨rfl, rfl⟩
                all_goals first | obtain rfl := h | obtain ⟨rfl, rfl⟩ := h
                all_goals
                  rcases w9 with h | h | h
                  rotate_left 2
                  · obtain ⟨rfl, rfl⟩ := h
                    obtain rfl : C10 = true := by rw [HC.out]; simp
                    go_wp2_with (first | (with_reducible refine (FN.out _).mono ?_; rintro _ wz ⟨rfl, hwz⟩; have hwz2 := hwz.symm; subst hwz2; clear hwz) | (with_reducible refine (FT.out _).mono ?_; rintro _ wz ⟨rfl, hwz⟩; have hwz2 := hwz.symm; subst hwz2; clear hwz) | (with_reducible refine (FV.out _).mono ?_; rintro _ wz ⟨rfl, hwz⟩; have hwz2 := hwz.symm; subst hwz2; clear hwz))
                    go_meet
                    all_goals exact ⟨rfl, rfl⟩
                  all_goals first | obtain rfl := h | obtain ⟨rfl, rfl⟩ := h
                  all_goals
                    rcases wA with h | h | h
                    rotate_left 2
                    · obtain ⟨rfl, rfl⟩ := h
                      obtain rfl : C10 = true := by rw [HC.out]; simp
                      go_wp2_with (first | (with_reducible refine (FN.out _).mono ?_; rintro _ wz ⟨rfl, hwz⟩; have hwz2 := hwz.symm; subst hwz2; clear hwz) | (with_reducible refine (FT.out _).mono ?_; rintro _ wz ⟨rfl, hwz⟩; have hwz2 := hwz.symm; subst hwz2; clear hwz) | (with_reducible refine (FV.out _).mono ?_; rintro _ wz ⟨rfl, hwz⟩; have hwz2 := hwz.symm; subst hwz2; clear hwz))
                      go_meet
                      all_goals exact ⟨rfl, rfl⟩
                    all_goals first | obtain rfl := h | obtain ⟨rfl, rfl⟩ := h
                    all_goals
                      obtain rfl : C10 = false := by rw [HC.out]; simp
                      go_wp2_with (first | (with_reducible refine (FN.out _).mono ?_; rintro _ wz ⟨rfl, hwz⟩; have hwz2 := hwz.symm; subst hwz2; clear hwz) | (with_reducible refine (FT.out _).mono ?_; rintro _ wz ⟨rfl, hwz⟩; have hwz2 := hwz.symm; subst hwz2; clear hwz) | (with_reducible refine (FV.out _).mono ?_; rintro _ wz ⟨rfl, hwz⟩; have hwz2 := hwz.symm; subst hwz2; clear hwz))
                      go_meet
                      all_goals exact ⟨rfl, rfl⟩
              case rest =>
                obtain ⟨rfl, hw⟩ := hcut
                have hw' := hw.symm
                subst hw'
                clear hw v0 v1
                cases C10
                case true =>
                  obtain rfl : R = 8 := HR.out
                  go_wp2_with fail
                  go_ret
                  exact ⟨rfl, RL.out⟩
                case false =>
                  obtain rfl : R = ve := HR.out
                  have VCx := Lib.hid (VC.out w2 B2.out)
                  have KV := Lib.hid ((ROW.out w2 B2.out).cv)
                  go_wp2_with (with_reducible show wpList _ _ _ _ _ _; refine wpList_load_allW rfl 26 (.tmp 97) rfl ⟨g,7,none⟩ rfl x.val.cells _ KV.out Tryz.underlying26 rfl (Tryz.valSize x.val) ?_)
                  refine VCx.out.mono ?_
                  rintro e w5 ⟨rfl, hb5⟩
                  have RL5 := Lib.hid (RL.out.trans (hb5.mono RL.out.size))
                  clear hb5
                  go_wp2_with fail
                  go_ret
                  exact ⟨rfl, RL5.out⟩
end Go.Proofs.YtnfobnnbeefeeaaGreatDoor.Wi
