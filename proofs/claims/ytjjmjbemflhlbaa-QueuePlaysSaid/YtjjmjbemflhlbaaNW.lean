/- QueuePlays' walk. -/
import Derived.Test.YtjjmjbemflhlbaaNV
import Derived.Test.YtjjmjbemflhlbaaNY
import Derived.Test.YtjjmjbemflhlbaaNZ
namespace Go.Proofs.Ytjjmjbemflhlbaa.Qu
open Go Go.RowKit Go.Proofs.Ytjjmjbemflhlbaa
open Go.Proofs.Ytjjmjbemflhlbaa.Hp (K3 kv KLit wf3 i64wf kv_inj)
open Go.Proofs.Ytjjmjbemflhlbaa.Dk (Frm below_drewN Frm.of_below Frm.setCell Frm.refl Frm.drewN Frm.drew Frm.transT Frm.turned Frm.trans Frm.mono Frm.setRow Frm.thenBelow Frm.below)
set_option linter.unusedVariables false
set_option linter.unusedSimpArgs false
set_option maxRecDepth 100000
set_option maxHeartbeats 8000000
theorem opSize (p : OpQ) : (Try.prog.info? 34).map (·.size) = some p.cells.length := by kernel_rfl
def qpRel (w : World) (g n : Nat) (lv iv : Value) (wr : World) : Prop := ∃ (i : Nat) (D : List Tk) (ao : Option Addr) (c : Nat), i ≤ n ∧ iv = .int .i64 (i : Int) ∧ lv = .slice ao D.length c ∧ PlS w (fun _ => False) g D (.slice ao D.length c) D wr
def lfRel (w4 : World) (D : List Tk) (run : Int) (lv iv : Value) (wr : World) : Prop := ∃ (j : Nat) (ao : Option Addr) (c m : Nat), j ≤ D.length ∧ iv = .int .i64 (j : Int) ∧ lv = .slice ao m c ∧ m = (othW run (D.take j)).length ∧ wr.ownsRow w4.heap.size 39 4 (.slice ao m c) m (tcs (othW run (D.take j))) ∧ Below w4.heap.size w4 wr
def tlRel (w0 : World) (n : Nat) (iv : Value) (wr : World) : Prop := ∃ i : Nat, i ≤ n ∧ iv = .int .i64 (i : Int) ∧ Below w0.heap.size w0 wr
/-- Behind the switch. -/
def swRel (w w3 : World) (g g3 : Nat) (lv : Value) (wr : World) : Prop := ∃ (D : List Tk) (ao : Option Addr) (c : Nat), lv = .slice ao D.length c ∧ PlS w (fun q => q = g3) g D (.slice ao D.length c) D wr ∧ wr.heap[g3]? = w3.heap[g3]?
theorem plays20_any (ao : Option Addr) (c : Nat) (S : List OpQ) (w : World) (h1 : OpsQ w ao S) (hm : S.length ≤ maxLen) : Calls Try.prog 3 #[.slice ao S.length c] w fun e w' => e = .returned (.bool true) ∧ Below w.heap.size w w' := by
  have WA := Lib.hid (waits_any w)
  have H1 := Lib.hid h1
  clear h1
  by_cases hb : 200 < S.length
  · have hb' : (200 : Int) < (S.length : Int) := by omega
    go_enter Try.func3, Try.ntmps3
    go_wp2_with (with_reducible refine WA.out.mono ?_; rintro e w1 ⟨rfl, hb1⟩)
    go_ret
    exact ⟨rfl, hb1⟩
  have hl : S.length ≤ 200 := by omega
  have hc1 : ¬ (200 : Int) < (S.length : Int) := by omega
  clear hb hm
  obtain ⟨n, hn⟩ : ∃ n, n = S.length := ⟨_, rfl⟩
  rw [← hn] at hl hc1 ⊢
  have HN := Lib.hid hn
  clear hn
  go_enter Try.func3, Try.ntmps3
  go_upto_region 6 with (with_reducible refine WA.out.mono ?_; rintro e w1 ⟨rfl, hb1⟩)
  obtain ⟨w2, hw2⟩ : ∃ x, x = w1.alloc (.cells #[.pointer none, .pointer none, .map none] 29) := ⟨_, rfl⟩
  obtain ⟨g, hg⟩ : ∃ g, g = w1.heap.size := ⟨_, rfl⟩
  rw [← hw2, ← hg]
  have S2 := Lib.hid (show PlS w (fun _ => False) g [] (.slice none 0 0) [] w2 from by
    have hs : w2.heap.size = w1.heap.size + 1 := by rw [hw2]; simp
    refine ⟨⟨fun q => q = g, by rw [hw2, hg]; exact QT.new w1, fun q hq => ⟨by omega, by have := hb1.size; omega⟩, (fun q hq => by cases hq), (fun q hq => by cases hq)⟩, World.ownsRow_nil _ _ _ _, hb1.trans ?_⟩
    rw [hw2]
    exact (Below.refl _ _).alloc hb1.size _)
  clear hw2 hg hb1 WA
  go_wp2_with fail
  go_loopw [4, 29] (fun lv iv wr => qpRel w g n lv iv wr) (fun _ iv _ => n - (intOf iv).toNat)
  case atStart => exact ⟨0, [], none, 0, by omega, rfl, rfl, S2.out⟩
  case round =>
    obtain ⟨wq, rfl⟩ : ∃ wq : World, wq = wr := ⟨_, rfl⟩
    obtain ⟨i, D, ao3, c3, hi, rfl, rfl, hS⟩ := hrel
    by_cases hin : i < n
    · have hin2 : (i : Int) < (n : Int) := by omega
      have h0 : (0 : Int) ≤ (i : Int) := by omega
      obtain ⟨u, hp⟩ : ∃ u, S[i]? = some u := ⟨_, List.getElem?_eq_getElem (by rw [← HN.out]; exact hin)⟩
      obtain ⟨ad, rfl⟩ : ∃ ad, ao = some ad := by
        cases ao with
        | none => have := H1.out.none rfl; rw [HN.out, this] at hin; simp at hin
        | some ad => exact ⟨ad, rfl⟩
      have cx := (H1.out.below hS.low (Nat.le_refl _)).cell ad rfl i u hp
      have CX : ∀ j v, u.cells[j]? = some v → wq.cell? ((ad.add (i * 5)).add j) = some v := fun j v hv => by
        rw [Go.Deep.add_add]
        exact cx j v hv
      have HG := Lib.hid (H1.out.good u (List.mem_of_getElem? hp))
      obtain ⟨w3, hw3⟩ : ∃ x, x = wq.alloc (.cells u.cells.toArray 34) := ⟨_, rfl⟩
      obtain ⟨g3, hg3⟩ : ∃ x, x = wq.heap.size := ⟨_, rfl⟩
      have b3 : Below wq.heap.size wq w3 := by rw [hw3]; exact (Below.refl _ _).alloc (Nat.le_refl _) _
      have n3 : w3.heap[g3]? = some (.cells u.cells.toArray 34 (0, 0)) := by rw [hw3, hg3]; exact heap_alloc_new _ _
      have KF := Lib.hid (fun (W : World) (hW : W.heap[g3]? = w3.heap[g3]?) => show ∀ j v, (kcs u.key)[j]? = some v → W.cell? ((⟨g3, 1, none⟩ : Addr).add j) = some v from by
        intro j v hv
        rw [Addr.add_mid, cell_of_row W g3 (1 + j) _ _ _ (hW.trans n3)]
        match j, hv with
        | 0, hv => exact hv
        | 1, hv => exact hv
        | 2, hv => exact hv
        | k + 3, hv => simp [kcs] at hv)
      have K0 := Lib.hid (fun (W : World) (hW : W.heap[g3]? = w3.heap[g3]?) => show W.cell? ⟨g3, 0, none⟩ = some (.int .i64 u.kind) ∧ W.cell? ⟨g3, 1, none⟩ = some (.int .i64 u.key.1) ∧ W.cell? ⟨g3, 4, none⟩ = some (.int .i64 u.now) from by
        refine ⟨?_, ?_, ?_⟩ <;> rw [cell_of_row W g3 _ _ _ _ (hW.trans n3)] <;> rfl)
      have SP := Lib.hid (show (Try.prog.info? 34).map (·.size) = some u.cells.toArray.size by kernel_rfl)
      have OP := Lib.hid (show u.cells.toArray.all (·.oneCell') = true by simp [OpQ.cells, Value.oneCell'])
      have HW3 := Lib.hid hw3
      have HG3 := Lib.hid hg3
      have S3 := Lib.hid (show PlS w (fun q => q = g3) g D (.slice ao3 D.length c3) D w3 from hS.more b3 (fun q hq => .inr ⟨by omega, by rw [hq, hw3, hg3]; simp⟩))
      have hfew := hS.few
      obtain ⟨F, hF⟩ : ∃ F, F = fd D u.key := ⟨_, rfl⟩
      have FD := Lib.hid (find_any w3 w.heap.size ao3 D.length c3 D rfl (by omega) S3.out.row u.key)
      rw [← hF] at FD
      have HF := Lib.hid hF
      have KT := KF.out w3 rfl
      have kc := (K0.out w3 rfl).1
      have N3 := Lib.hid n3
      clear hS cx hp hF hw3 hg3 b3 n3 S2
      go_upto_region 10 with (first
        | (with_reducible show wpList _ _ _ _ _ _; refine wpList_load_allW rfl 34 (.tmp 31) rfl (ad.add (i * 5)) rfl u.cells _ CX Try.underlying34 rfl (opSize _) ?_)
        | (with_reducible show wpList _ _ _ _ _ _; refine wpList_store_newW rfl 34 (.tmp 6) (.tmp 32) rfl 34 _ u.cells.toArray (by with_unfolding_all rfl) (by with_unfolding_all rfl) SP.out rfl OP.out ?_))
      rw [← HW3.out, ← HG3.out]
      simp only [Act.put, List.setIfInBounds_toArray, List.set_cons_zero, List.set_cons_succ, List.getElem_toArray, List.getElem_cons_zero, List.getElem_cons_succ]
      clear CX
      go_upto_region 11 with (first
        | (with_reducible show wpList _ _ _ _ _ _; refine wpList_load_allW rfl 32 (.tmp 34) rfl ⟨g3, 1, none⟩ rfl (kcs u.key) _ KT Try.underlying32 rfl (tkSize _) ?_)
        | (with_reducible refine FD.out.mono ?_; rintro e w4 ⟨rfl, hb4⟩))
      have S4 := Lib.hid (S3.out.below hb4)
      have N4 := Lib.hid (show w4.heap[g3]? = w3.heap[g3]? from hb4.block g3 (lt_of_rowW N3.out))
      replace KT := KF.out w4 N4.out
      obtain ⟨kc0, kc1, kc4⟩ := K0.out w4 N4.out
      obtain ⟨kd, hkd⟩ : ∃ kd, kd = u.kind := ⟨_, rfl⟩
      rw [← hkd] at kc0
      obtain ⟨now, hnow⟩ : ∃ now, now = u.now := ⟨_, rfl⟩
      rw [← hnow] at kc4
      have HNW := Lib.hid hnow
      have HSZ := Lib.hid hb4.size
      clear hb4 hkd hnow FD
      go_upto_block 2 with fail
      go_cut [4] (fun lv wx => swRel w w3 g g3 lv wx)
      case first =>
        obtain rfl | rfl | rfl | rfl | ⟨n0, n1, n2, n3⟩ : kd = 0 ∨ kd = 1 ∨ kd = 2 ∨ kd = 3 ∨ (¬ kd = 0 ∧ ¬ kd = 1 ∧ ¬ kd = 2 ∧ ¬ kd = 3) := by omega
        · as_aux_lemma =>
          have AD := Lib.hid (pl_add S4.out u.key HG.out.2.1 now (by rw [HNW.out]; exact HG.out.2.2))
          by_cases hin : u.key ∈ keysT D
          · obtain ⟨A, x, B, hD, hx⟩ := key_split hin
            have hFv : F = (A.length : Int) := by
              rw [HF.out, hD, ← hx]
              exact fd_mid (by rw [← hD]; exact S4.out.nodup)
            have hR : addR D u.key = 5 := by unfold addR; rw [if_pos (by simpa using hin)]
            have hW : addW D u.key now = D := by unfold addW; rw [if_neg (by rw [hR]; decide)]
            rw [hR, hW] at AD
            have hF0 : (0 : Int) ≤ F := by omega
            clear hin hD hx hR hW hFv
            go_wp2_with (first
              | (with_reducible show wpList _ _ _ _ _ _; refine wpList_load_allW rfl 32 (.tmp 46) rfl ⟨g3, 1, none⟩ rfl (kcs u.key) _ KT Try.underlying32 rfl (tkSize _) ?_)
              | (with_reducible refine AD.out.mono ?_; rintro e w5 ⟨rfl, hS5, hk5⟩))
            go_meet
            exact ⟨D, ao3, c3, rfl, hS5, (hk5 g3 rfl).trans N4.out⟩
          · have hFv : F = -1 := by rw [HF.out]; exact fd_no hin
            subst hFv
            by_cases hfull : D.length = 128
            · have hl1 : ((D.length : Int) == 128) = true := by rw [hfull]; rfl
              rw [addR_full hin hfull, addW_full hin hfull] at AD
              clear hin hfull
              go_wp2_with (first
                | (with_reducible show wpList _ _ _ _ _ _; refine wpList_load_allW rfl 32 (.tmp 46) rfl ⟨g3, 1, none⟩ rfl (kcs u.key) _ KT Try.underlying32 rfl (tkSize _) ?_)
                | (with_reducible refine AD.out.mono ?_; rintro e w5 ⟨rfl, hS5, hk5⟩))
              go_meet
              exact ⟨D, ao3, c3, rfl, hS5, (hk5 g3 rfl).trans N4.out⟩
            · have hlt : D.length < 128 := by have := S4.out.few; omega
              have hl1 : ((D.length : Int) == 128) = false := by
                have : ¬ (D.length : Int) = 128 := by omega
                simpa using this
              rw [addR_new hin hlt, addW_new hin hlt] at AD
              have G4 := Lib.hid (show g3 < w4.heap.size from Nat.lt_of_lt_of_le (lt_of_rowW N3.out) HSZ.out)
              clear hin hfull
              go_upto_region 21 with (first
                | (with_reducible show wpList _ _ _ _ _ _; refine wpList_load_allW rfl 32 (.tmp 46) rfl ⟨g3, 1, none⟩ rfl (kcs u.key) _ KT Try.underlying32 rfl (tkSize _) ?_)
                | (with_reducible refine AD.out.mono ?_; rintro e w5 ⟨rfl, hS5, hk5⟩))
              have N5 := Lib.hid ((hk5 g3 rfl).trans N4.out)
              have S5 := Lib.hid hS5
              have G5 := Lib.hid (show g3 < w5.heap.size from by
                obtain ⟨T, _, _, _, hf⟩ := hS5.q
                exact (hf g3 rfl).1)
              have SRCD := Lib.hid (fun (W : World) (hb : Below w5.heap.size w5 W) => show Go.Src Try.prog 4 30 (.slice ao3 D.length c3) D.length (tcs D) W from
                (Blk.own (own_belowK hS5.row hb)).src Try.underlying30 (by rw [tcs_len]) (by decide) (tcs_one D))
              have I0 := Lib.hid (show AdI w5 u.key now D false false false false ⟨0, 0, undef, undef⟩ w5.drew from ⟨below_drewN (Below.refl _ _) 1, (fun e => by cases e), (fun e => by cases e), (fun e => by cases e), (fun e => by cases e), (fun e => by cases e)⟩)
              clear hS5 hk5 AD KT kc0 kc1 kc4 hl1
              refine wp_region_parX (α := AdP) (by kernel_rfl) (by kernel_rfl) (fun y => ⟨#[Value.slice (some ad) n c, undef, u2, Value.pointer (some { block := g, off := 0 }), y 10, undef, Value.pointer (some { block := g3, off := 0 }), Value.int IntKind.i64 (-1), Value.int IntKind.i64 0, u9, u10, u11, undef, u13, u14, u15, u16, u17, u18, u19, u20, u21, Value.bool true, Value.bool false, Value.slice (some ad) n c, Value.int IntKind.i64 ↑n, Value.bool (decide ((200 : Int) < (n : Int))), Value.slice (some ad) n c, Value.int IntKind.i64 ↑n, Value.int IntKind.i64 ↑i, Value.bool true, Value.pointer (some (ad.add (i * 5))), Value.agg u.cells.toArray, Value.slice ao3 D.length c3, Value.pointer (some { block := g3, off := 1 }), Value.agg (kcs u.key).toArray, Value.int IntKind.i64 (-1), Value.pointer (some { block := g3, off := 0 }), Value.int IntKind.i64 0, Value.bool true, Value.bool true, Value.int IntKind.i64 (-1), Value.bool false, Value.slice ao3 D.length c3, Value.int IntKind.i64 ↑D.length, Value.bool false, Value.pointer (some { block := g3, off := 1 }), Value.agg (kcs u.key).toArray, Value.pointer (some { block := g3, off := 4 }), Value.int IntKind.i64 now, Value.int IntKind.i64 0, Value.int IntKind.i64 0, Value.bool false, Value.int IntKind.i64 0, Value.bool true, y 0, y 1, y 2, y 3, y 4, y 5, y 6, y 7, y 8, y 9, u65, u66, u67, u68, u69, u70, u71, u72, u73, u74, u75, u76, u77, u78, u79, u80, u81, u82, u83, u84, u85, u86, u87, u88, u89, u90, u91, u92, u93, u94, u95, u96, u97, u98, u99, u100, u101, u102, u103, u104, u105, u106, u107, u108, u109, u110, u111, u112, u113, u114, u115, u116, u117, u118, u119, u120, u121, u122, u123, u124, u125, u126, u127, u128, u129, u130, u131, u132, u133, u134, u135, u136, u137, u138, u139, u140, u141, u142, u143, u144, u145, u146, u147, u148, u149, u150, u151, u152, u153, u154, u155, u156, u157, u158, u159, u160, u161, u162, u163, u164, u165, u166, u167, u168, u169, u170, u171, u172, u173, u174, u175, u176, u177, u178, u179, u180, u181, u182, u183, u184, u185, u186, u187, u188, u189, u190, u191, u192, u193, u194, u195, u196, u197, u198, u199, u200, u201, u202, u203, u204, u205, u206, u207, u208, u209, u210, u211, u212, u213, u214, u215, u216, u217, u218, u219, u220, u221, u222, u223, u224, u225, u226, u227, u228, u229], []⟩) (fun p j q => match j with | 0 => q = .slice (some ⟨p.a0, 0, none⟩) 0 0 | 1 => q = .slice ao3 D.length c3 | 2 => q = p.v2 | 3 => q = .pointer (some ⟨g3, 1, none⟩) | 4 => q = .agg (kcs u.key).toArray | 5 => q = .pointer (some ⟨g3, 4, none⟩) | 6 => q = .int .i64 now | 7 => q = .agg (wcs u.key now).toArray | 8 => q = .slice (some ⟨p.a8, 0, none⟩) 1 1 | 9 => q = p.v9 | 10 => q = p.v9 | _ => True) (fun M p wx => AdI w5 u.key now D (M 0) (M 2) (M 8) (M 9) p wx) (fun i => [0, 2, 8, 9].contains i) (fun i j => (i == 0 && (j == 2 || j == 9 || j == 10)) || (i == 2 && (j == 9 || j == 10)) || (i == 8 && (j == 9 || j == 10)) || (i == 9 && j == 10)) (fun k => match k with | 0 => u55 | 1 => u56 | 2 => u57 | 3 => u58 | 4 => u59 | 5 => u60 | 6 => u61 | 7 => u62 | 8 => u63 | 9 => u64 | 10 => .slice ao3 D.length c3 | _ => undef) (parOk_spec (by kernel_rfl)) ?_ ?_ ?_ ⟨0, 0, undef, undef⟩ rfl (by exact I0.out)
              · intro i' o hsrc ho M p y wx hd hi' hx0 hnl hI
                match i', ho with
                | 0, ho =>
                  obtain rfl := Option.some.inj ho
                  cases hsrc
                | 1, ho =>
                  obtain rfl := Option.some.inj ho
                  have yl0 : y 10 = .slice ao3 D.length c3 := hx0 10 (hnl 10 _ ⟨1, .phase⟩ rfl (by simp) rfl hi')
                  refine .inl ⟨rfl, ?_⟩
                  refine ⟨.slice ao3 D.length c3, ?_, rfl, rfl, hI⟩
                  refine runWithP (fun z => match z with  | .tmp 4 => y 10 | .const c => c | _ => undef) (by kernel_rfl) ?_
                  rw [yl0]
                  go_simp
                | 2, ho =>
                  obtain rfl := Option.some.inj ho
                  cases hsrc
                | 3, ho =>
                  obtain rfl := Option.some.inj ho
                  refine .inl ⟨rfl, ?_⟩
                  refine ⟨.pointer (some ⟨g3, 1, none⟩), ?_, rfl, rfl, hI⟩
                  refine runWithP (fun z => match z with  | .tmp 6 => Value.pointer (some { block := g3, off := 0 }) | .const c => c | _ => undef) (by kernel_rfl) ?_
                  go_simp
                | 4, ho =>
                  obtain rfl := Option.some.inj ho
                  have y0 : y 3 = .pointer (some ⟨g3, 1, none⟩) := hd ⟨3, .data⟩ (by simp) rfl
                  refine .inl ⟨rfl, ?_⟩
                  exact ⟨.agg (kcs u.key).toArray, run_loadP 32 (.tmp 58) rfl ⟨g3, 1, none⟩ (by exact y0) (kcs u.key) _ (KF.out wx ((hI.low.block g3 G5.out).trans N5.out)) Try.underlying32 rfl (tkSize _), rfl, rfl, hI⟩
                | 5, ho =>
                  obtain rfl := Option.some.inj ho
                  refine .inl ⟨rfl, ?_⟩
                  refine ⟨.pointer (some ⟨g3, 4, none⟩), ?_, rfl, rfl, hI⟩
                  refine runWithP (fun z => match z with  | .tmp 6 => Value.pointer (some { block := g3, off := 0 }) | .const c => c | _ => undef) (by kernel_rfl) ?_
                  go_simp
                | 6, ho =>
                  obtain rfl := Option.some.inj ho
                  have y0 : y 5 = .pointer (some ⟨g3, 4, none⟩) := hd ⟨5, .data⟩ (by simp) rfl
                  have cx : wx.cell? ⟨g3, 4, none⟩ = some (.int .i64 now) := by rw [HNW.out]; exact (K0.out wx ((hI.low.block g3 G5.out).trans N5.out)).2.2
                  refine .inl ⟨rfl, ?_⟩
                  refine ⟨.int .i64 now, ?_, rfl, rfl, hI⟩
                  refine runWithP (fun z => match z with | .tmp 60 => y 5 | .const c => c | _ => undef) (by kernel_rfl) ?_
                  rw [y0]
                  go_simp
                | 7, ho =>
                  obtain rfl := Option.some.inj ho
                  have y0 : y 4 = .agg (kcs u.key).toArray := hd ⟨4, .data⟩ (by simp) rfl
                  have y1 : y 6 = .int .i64 now := hd ⟨6, .data⟩ (by simp) rfl
                  refine .inl ⟨rfl, ?_⟩
                  refine ⟨.agg (wcs u.key now).toArray, ?_, rfl, rfl, hI⟩
                  refine runWithP (fun z => match z with | .tmp 59 => y 4 | .tmp 61 => y 6 | .const c => c | _ => undef) (by kernel_rfl) ?_
                  rw [y0, y1]
                  kernel_rfl
                | 8, ho =>
                  obtain rfl := Option.some.inj ho
                  cases hsrc
                | 9, ho =>
                  obtain rfl := Option.some.inj ho
                  cases hsrc
                | 10, ho =>
                  obtain rfl := Option.some.inj ho
                  have y0 : y 9 = p.v9 := hd ⟨9, .data⟩ (by simp) rfl
                  refine .inl ⟨rfl, ?_⟩
                  refine ⟨p.v9, ?_, rfl, rfl, hI⟩
                  refine runWithP (fun z => match z with | .tmp 64 => y 9 | .const c => c | _ => undef) (by kernel_rfl) ?_
                  rw [y0]
                  go_simp
                | j + 11, ho => cases ho
              · intro i' o hsrc ho M p y wx hd hi' hx0 hlat hI
                match i', hsrc, ho with
                | 0, hsrc, ho =>
                  obtain rfl := Option.some.inj ho
                  refine ⟨rfl, ?_⟩
                  have h2 : M 2 = false := hlat 2 rfl
                  have h9 : M 9 = false := hlat 9 rfl
                  rw [hi', h2, h9] at hI
                  refine slot_giveP (v := .slice (some ⟨wx.heap.size, 0, none⟩) 0 0) (w' := wx.alloc (.cells #[] 39)) ?_ ⟨_, ⟨wx.heap.size, p.a8, p.v2, p.v9⟩, rfl, rfl, ?_, ?_⟩
                  · kernel_rfl
                  · intro j q hne hl hF
                    match j, hne, hF with
                    | 0, hne, _ => exact absurd rfl hne
                    | 1, _, hF => exact hF
                    | 2, _, hF => exact hF
                    | 3, _, hF => exact hF
                    | 4, _, hF => exact hF
                    | 5, _, hF => exact hF
                    | 6, _, hF => exact hF
                    | 7, _, hF => exact hF
                    | 8, _, hF => exact hF
                    | 9, _, hF => exact hF
                    | 10, _, hF => exact hF
                    | j + 11, _, _ => trivial
                  · show AdI w5 u.key now D true (M 2) (M 8) (M 9) _ _
                    rw [h2, h9]
                    exact hI.make0
                | 1, hsrc, ho =>
                  cases hsrc
                | 2, hsrc, ho =>
                  obtain rfl := Option.some.inj ho
                  refine ⟨rfl, ?_⟩
                  have h9 : M 9 = false := hlat 9 rfl
                  have y0 : y 0 = .slice (some ⟨p.a0, 0, none⟩) 0 0 := (hd ⟨0, .data⟩ (by simp) rfl).2
                  have y1 : y 1 = .slice ao3 D.length c3 := (hd ⟨1, .data⟩ (by simp) rfl).2
                  have h0 := (hd ⟨0, .data⟩ (by simp) rfl).1
                  rw [h0, hi', h9] at hI
                  refine slot_appQ (.tmp 55) (.tmp 56) 30 30 rfl w5.heap.size 39 4 32 _ Try.underlying30 infoHd (by decide) rfl _ 0 [] (by exact y0) (hI.z0 rfl rfl) _ D.length (tcs D) (by exact y1) (SRCD.out wx hI.low) (by omega) hI.low.size ?_
                  intro v' w' hown hb hk
                  refine ⟨_, ⟨p.a0, p.a8, v', p.v9⟩, rfl, rfl, ?_, ?_⟩
                  · intro j q hne hl hF
                    match j, hne, hF with
                    | 0, _, hF => exact hF
                    | 1, _, hF => exact hF
                    | 2, hne, _ => exact absurd rfl hne
                    | 3, _, hF => exact hF
                    | 4, _, hF => exact hF
                    | 5, _, hF => exact hF
                    | 6, _, hF => exact hF
                    | 7, _, hF => exact hF
                    | 8, _, hF => exact hF
                    | 9, _, hF => exact hF
                    | 10, _, hF => exact hF
                    | j + 11, _, _ => trivial
                  · show AdI w5 u.key now D (M 0) true (M 8) (M 9) _ _
                    rw [h0, h9]
                    exact hI.app2 (by simpa using hown) hb hk
                | 3, hsrc, ho =>
                  cases hsrc
                | 4, hsrc, ho =>
                  cases hsrc
                | 5, hsrc, ho =>
                  cases hsrc
                | 6, hsrc, ho =>
                  cases hsrc
                | 7, hsrc, ho =>
                  cases hsrc
                | 8, hsrc, ho =>
                  obtain rfl := Option.some.inj ho
                  refine ⟨rfl, ?_⟩
                  have h9 : M 9 = false := hlat 9 rfl
                  have y7 : y 7 = .agg (wcs u.key now).toArray := (hd ⟨7, .data⟩ (by simp) rfl).2
                  rw [hi', h9] at hI
                  refine slot_giveP (v := .slice (some ⟨wx.heap.size, 0, none⟩) 1 1) (w' := wx.alloc (.cells (wcs u.key now).toArray 39)) ?_ ⟨_, ⟨p.a0, wx.heap.size, p.v2, p.v9⟩, rfl, rfl, ?_, ?_⟩
                  · refine runWithP (fun z => match z with | .tmp 62 => y 7 | .const c => c | _ => undef) (by kernel_rfl) ?_
                    rw [y7]
                    kernel_rfl
                  · intro j q hne hl hF
                    match j, hne, hF with
                    | 0, _, hF => exact hF
                    | 1, _, hF => exact hF
                    | 2, _, hF => exact hF
                    | 3, _, hF => exact hF
                    | 4, _, hF => exact hF
                    | 5, _, hF => exact hF
                    | 6, _, hF => exact hF
                    | 7, _, hF => exact hF
                    | 8, hne, _ => exact absurd rfl hne
                    | 9, _, hF => exact hF
                    | 10, _, hF => exact hF
                    | j + 11, _, _ => trivial
                  · show AdI w5 u.key now D (M 0) (M 2) true (M 9) _ _
                    rw [h9]
                    exact hI.make8
                | 9, hsrc, ho =>
                  obtain rfl := Option.some.inj ho
                  refine ⟨rfl, ?_⟩
                  have y2 : y 2 = p.v2 := (hd ⟨2, .data⟩ (by simp) rfl).2
                  have y8 : y 8 = .slice (some ⟨p.a8, 0, none⟩) 1 1 := (hd ⟨8, .data⟩ (by simp) rfl).2
                  have h2 := (hd ⟨2, .data⟩ (by simp) rfl).1
                  have h8 := (hd ⟨8, .data⟩ (by simp) rfl).1
                  rw [h2, h8, hi'] at hI
                  have h0 : M 0 = true := hI.z20 rfl
                  rw [h0] at hI
                  refine slot_appQ (.tmp 57) (.tmp 63) 30 30 rfl w5.heap.size 39 4 32 _ Try.underlying30 infoHd (by decide) rfl _ D.length (tcs D) (by exact y2) (hI.z2 rfl rfl) _ 1 (wcs u.key now) (by exact y8) (src_block Try.underlying30 (hI.z8 rfl rfl).1 rfl (wcs_mem _ _)) (by omega) hI.low.size ?_
                  intro v' w' hown hb hk
                  refine ⟨_, ⟨p.a0, p.a8, p.v2, v'⟩, rfl, rfl, ?_, ?_⟩
                  · intro j q hne hl hF
                    match j, hne, hF with
                    | 0, _, hF => exact hF
                    | 1, _, hF => exact hF
                    | 2, _, hF => exact hF
                    | 3, _, hF => exact hF
                    | 4, _, hF => exact hF
                    | 5, _, hF => exact hF
                    | 6, _, hF => exact hF
                    | 7, _, hF => exact hF
                    | 8, _, hF => exact hF
                    | 9, hne, _ => exact absurd rfl hne
                    | 10, _, _ => exact absurd hl (by decide)
                    | j + 11, _, _ => trivial
                  · show AdI w5 u.key now D (M 0) (M 2) (M 8) true _ _
                    rw [h0, h2, h8]
                    exact hI.app9 (by rw [tcs_app]; simpa [tcs] using hown) hb
                | 10, hsrc, ho =>
                  cases hsrc
                | j + 11, hsrc, ho => cases ho
              · rintro M p y wx hall hI
                have y10 : y 10 = p.v9 := (hall 10 (by decide)).2
                try dsimp only
                rw [y10]
                rw [(hall 0 (by decide)).1, (hall 2 (by decide)).1, (hall 8 (by decide)).1, (hall 9 (by decide)).1] at hI
                have h9 := hI.z9 rfl
                obtain ⟨ao', c', hv⟩ := own_slK h9
                have S6 := Lib.hid (S5.out.other hI.low (by simp) h9)
                have N6 := Lib.hid ((hI.low.block g3 G5.out).trans N5.out)
                have HV := Lib.hid hv
                clear hI hall h9 hv y10
                go_wp2_with fail
                go_meet
                have e1 : (D ++ [(u.key, now)]).length = D.length + 1 := by simp
                exact ⟨D ++ [(u.key, now)], ao', c', by rw [HV.out, e1], by rw [e1, ← HV.out]; exact S6.out, N6.out⟩
        · as_aux_lemma =>
          have SZ := Lib.hid (show ∀ k, (Try.prog.info? 32).map (·.size) = some (kcs k).toArray.size from fun k => by kernel_rfl)
          have OK := Lib.hid kcs_one
          clear KT
          rcases D with _ | ⟨x, D'⟩
          · have TK := Lib.hid (pl_take_nil S4.out)
            go_upto_region 24 with (first
              | (with_reducible refine TK.out.mono ?_; rintro e w5 ⟨rfl, hS5, hk5⟩)
              | (with_reducible show wpList _ _ _ _ _ _; refine wpList_store_newW rfl 32 (.tmp 9) (.tmp 69) rfl 32 _ (kcs k0).toArray (by with_unfolding_all rfl) (by with_unfolding_all rfl) (SZ.out _) rfl (OK.out _) ?_))
            obtain ⟨w6, hw6⟩ : ∃ x, x = w5.alloc (.cells (kcs k0).toArray 32) := ⟨_, rfl⟩
            obtain ⟨g6, hg6⟩ : ∃ x, x = w5.heap.size := ⟨_, rfl⟩
            rw [← hw6, ← hg6]
            have b6 : Below w5.heap.size w5 w6 := by rw [hw6]; exact (Below.refl _ _).alloc (Nat.le_refl _) _
            have K9 := box_at (show w6.heap[g6]? = some (.cells (kcs k0).toArray 32 (0, 0)) by rw [hw6, hg6]; exact heap_alloc_new _ _)
            have S6 := Lib.hid (hS5.below b6)
            have N6 := Lib.hid (show w6.heap[g3]? = w3.heap[g3]? from (b6.block g3 (by
              obtain ⟨T, _, _, _, hf⟩ := hS5.q
              exact (hf g3 rfl).1)).trans ((hk5 g3 rfl).trans N4.out))
            have hkk : (!decide (k0 = k0)) = false := by decide
            clear hw6 hg6 b6 hS5 hk5 TK kc0 kc1 kc4
            refine wp_region_quiet_lit (by kernel_rfl) (by kernel_rfl) ?_
            repeat (go_big_quiet_step (fail))
            refine wpQuiet_loadG (by kernel_rfl) 32 (.tmp 9) rfl ⟨g6, 0, none⟩ rfl (kcs Qu.k0) _ (fun w' hC => by obtain ⟨nl, rfl⟩ := hC; exact K9) Try.underlying32 rfl (tkSize _) ?_
            simp only [Act.put, List.setIfInBounds_toArray, List.set_cons_zero, List.set_cons_succ, List.getElem_toArray, List.getElem_cons_zero, List.getElem_cons_succ]
            repeat (go_big_quiet_step (fail))
            refine wpQuiet_runG (v := .bool false) (by kernel_rfl) (fun w' hC => by obtain ⟨nl, rfl⟩ := hC; rw [← hkk]; exact exec_tneq rfl Qu.k0 Qu.k0 rfl rfl _) ?_
            simp only [Act.put, List.setIfInBounds_toArray, List.set_cons_zero, List.set_cons_succ, List.getElem_toArray, List.getElem_cons_zero, List.getElem_cons_succ]
            repeat (go_big_quiet_step (fail))
            refine wpQuiet_nil ?_
            intro _ hw'
            obtain ⟨nq, hw''⟩ := hw'
            subst hw''
            obtain ⟨w7, hw7⟩ : ∃ x, x = w6.drewN nq := ⟨_, rfl⟩
            rw [← hw7]
            have R7 := Lib.hid (show swRel w w3 g g3 (.slice ao3 0 c3) w7 from ⟨[], ao3, c3, rfl, by rw [hw7]; exact S6.out.below (below_drewN (Below.refl _ _) nq), by rw [hw7]; exact N6.out⟩)
            clear hw7 K9
            go_wp2_with fail
            go_meet
            exact R7.out
          · have TK := Lib.hid (pl_take S4.out)
            have hrow0 := S4.out.row
            unfold HRow at hrow0
            obtain ⟨gr, hgr, _, _, _⟩ := own_cellK hrow0 (tcs_at (x :: D') 0 x rfl 0 _ rfl)
            subst hgr
            have hpos : (0 : Int) < ((D'.length + 1 : Nat) : Int) := by omega
            have hpos2 : (0 : Int) < (D'.length : Int) + 1 := by omega
            have hlen := S4.out.few
            simp only [List.length_cons] at hlen
            clear hrow0
            go_upto_region 24 with (first
              | (with_reducible refine TK.out.mono ?_; rintro e w5 ⟨rfl, hS5, hk5⟩)
              | (with_reducible show wpList _ _ _ _ _ _; refine wpList_store_newW rfl 32 (.tmp 9) (.tmp 69) rfl 32 _ (kcs x.1).toArray (by with_unfolding_all rfl) (by with_unfolding_all rfl) (SZ.out _) rfl (OK.out _) ?_))
            obtain ⟨w6, hw6⟩ : ∃ y, y = w5.alloc (.cells (kcs x.1).toArray 32) := ⟨_, rfl⟩
            obtain ⟨g6, hg6⟩ : ∃ y, y = w5.heap.size := ⟨_, rfl⟩
            rw [← hw6, ← hg6]
            have b6 : Below w5.heap.size w5 w6 := by rw [hw6]; exact (Below.refl _ _).alloc (Nat.le_refl _) _
            have K9 := box_at (show w6.heap[g6]? = some (.cells (kcs x.1).toArray 32 (0, 0)) by rw [hw6, hg6]; exact heap_alloc_new _ _)
            have S6 := Lib.hid (hS5.below b6)
            have KR : ∀ j v, (kcs x.1)[j]? = some v → w6.cell? ((⟨gr, 0, none⟩ : Addr).add j) = some v := by
              intro j v hv
              have hrow := S6.out.row
              unfold HRow at hrow
              have hv4 : (wcs x.1 x.2)[j]? = some v := by
                match j, hv with
                | 0, hv => exact hv
                | 1, hv => exact hv
                | 2, hv => exact hv
                | k + 3, hv => simp [kcs] at hv
              obtain ⟨g2, e2, _, _, hc⟩ := own_cellK hrow (tcs_at (x :: D') 0 x rfl j v hv4)
              injection e2 with e2
              injection e2 with e2
              subst e2
              rw [Addr.add_mid]
              simpa using hc
            have N6 := Lib.hid (show w6.heap[g3]? = w3.heap[g3]? from (b6.block g3 (by
              obtain ⟨T, _, _, _, hf⟩ := hS5.q
              exact (hf g3 rfl).1)).trans ((hk5 g3 rfl).trans N4.out))
            have hkk : (!decide (x.1 = x.1)) = false := by simp
            clear hw6 hg6 b6 hS5 hk5 TK kc0 kc1 kc4
            refine wp_region_quiet_lit (by kernel_rfl) (by kernel_rfl) ?_
            repeat (go_big_quiet_step (fail))
            refine wpQuiet_loadG (by kernel_rfl) 32 (.tmp 9) rfl ⟨g6, 0, none⟩ rfl (kcs x.1) _ (fun w' hC => by obtain ⟨nl, rfl⟩ := hC; exact K9) Try.underlying32 rfl (tkSize _) ?_
            simp only [Act.put, List.setIfInBounds_toArray, List.set_cons_zero, List.set_cons_succ, List.getElem_toArray, List.getElem_cons_zero, List.getElem_cons_succ]
            repeat (go_big_quiet_step (fail))
            refine wpQuiet_loadG (by kernel_rfl) 32 (.tmp 82) rfl ⟨gr, 0, none⟩ rfl (kcs x.1) _ (fun w' hC => by obtain ⟨nl, rfl⟩ := hC; exact KR) Try.underlying32 rfl (tkSize _) ?_
            simp only [Act.put, List.setIfInBounds_toArray, List.set_cons_zero, List.set_cons_succ, List.getElem_toArray, List.getElem_cons_zero, List.getElem_cons_succ]
            refine wpQuiet_runG (v := .bool false) (by kernel_rfl) (fun w' hC => by obtain ⟨nl, rfl⟩ := hC; rw [← hkk]; exact exec_tneq rfl x.1 x.1 rfl rfl _) ?_
            simp only [Act.put, List.setIfInBounds_toArray, List.set_cons_zero, List.set_cons_succ, List.getElem_toArray, List.getElem_cons_zero, List.getElem_cons_succ]
            repeat (go_big_quiet_step (fail))
            refine wpQuiet_nil ?_
            intro _ hw'
            obtain ⟨nq, hw''⟩ := hw'
            subst hw''
            obtain ⟨w7, hw7⟩ : ∃ y, y = w6.drewN nq := ⟨_, rfl⟩
            rw [← hw7]
            have S7 := Lib.hid (show PlS w (fun q => q = g3) g D' (.slice (some ⟨gr, 0, none⟩) (D'.length + 1) c3) (x :: D') w7 from by rw [hw7]; exact S6.out.below (below_drewN (Below.refl _ _) nq))
            have N7 := Lib.hid (show w7.heap[g3]? = w3.heap[g3]? by rw [hw7]; exact N6.out)
            have WO := Lib.hid (without_any w7 w.heap.size (some ⟨gr, 0, none⟩) (D'.length + 1) c3 [] D' x rfl (by omega) S7.out.row)
            rw [show ((([] : List Tk).length : Nat) : Int) = 0 from rfl] at WO
            clear hw7 K9 KR S6 N6
            go_wp2_with (with_reducible refine WO.out.mono ?_; rintro e w8 ⟨ao8, c8, rfl, ho8, hb8⟩)
            go_meet
            have e1 : D'.length + 1 - 1 = D'.length := by omega
            rw [e1] at ho8
            refine ⟨D', ao8, c8, rfl, S7.out.other hb8 rfl ho8, (hb8.block g3 ?_).trans N7.out⟩
            obtain ⟨T, _, _, _, hf⟩ := S7.out.q
            exact (hf g3 rfl).1
        · as_aux_lemma =>
          by_cases hin : u.key ∈ keysT D
          · obtain ⟨A, x, B, hD, hx⟩ := key_split hin
            have hnd := S4.out.nodup
            have hrow := S4.out.row
            have hlen := S4.out.few
            have RM := Lib.hid (pl_remove S4.out u.key HG.out.2.1)
            rw [show (keysT D).contains u.key = true by simpa using hin] at RM
            have hFv : F = (A.length : Int) := by
              rw [HF.out, hD, ← hx]
              exact fd_mid (by rw [← hD]; exact hnd)
            have hrem : remW D u.key = A ++ B := by rw [hD, ← hx]; exact remW_mid (by rw [← hD]; exact hnd)
            rw [hrem] at RM
            have hF0 : (0 : Int) ≤ F := by omega
            obtain ⟨dl, hdl⟩ : ∃ dl, dl = D.length := ⟨_, rfl⟩
            rw [← hdl] at RM hlen ⊢
            have HD := Lib.hid hD
            have HDL := Lib.hid hdl
            have HFV := Lib.hid hFv
            clear hin hD hx hFv hrem hnd hrow hdl
            go_upto_region 31 with (first
              | (with_reducible show wpList _ _ _ _ _ _; refine wpList_load_allW rfl 32 (.tmp 101) rfl ⟨g3, 1, none⟩ rfl (kcs u.key) _ KT Try.underlying32 rfl (tkSize _) ?_)
              | (with_reducible refine RM.out.mono ?_; rintro e w5 ⟨rfl, hS5, hk5⟩))
            have WO := Lib.hid (without_any w5 w.heap.size ao3 dl c3 A B x (by rw [HDL.out, HD.out]) (by omega) (by have := hS5.row; rw [HD.out] at this; exact this))
            rw [← HFV.out] at WO
            have S5 := Lib.hid hS5
            have N5 := Lib.hid ((hk5 g3 rfl).trans N4.out)
            clear hS5 hk5 RM KT kc0 kc1 kc4 hF0
            go_wp2_with (with_reducible refine WO.out.mono ?_; rintro e w6 ⟨ao6, c6, rfl, ho6, hb6⟩)
            go_meet
            have e1 : dl - 1 = (A ++ B).length := by rw [HDL.out, HD.out]; simp
            rw [e1] at ho6 ⊢
            refine ⟨A ++ B, ao6, c6, rfl, S5.out.other hb6 rfl ho6, (hb6.block g3 ?_).trans N5.out⟩
            obtain ⟨T, _, _, _, hf⟩ := S5.out.q
            exact (hf g3 rfl).1
          · have hFv : F = -1 := by rw [HF.out]; exact fd_no hin
            subst hFv
            have RM := Lib.hid (pl_remove S4.out u.key HG.out.2.1)
            rw [show (keysT D).contains u.key = false by simpa using hin, remW_no hin] at RM
            have WN := Lib.hid (fun W => without_neg (.slice ao3 D.length c3) W)
            clear hin
            go_wp2_with (first
              | (with_reducible show wpList _ _ _ _ _ _; refine wpList_load_allW rfl 32 (.tmp 101) rfl ⟨g3, 1, none⟩ rfl (kcs u.key) _ KT Try.underlying32 rfl (tkSize _) ?_)
              | (with_reducible refine RM.out.mono ?_; rintro e w5 ⟨rfl, hS5, hk5⟩)
              | (with_reducible refine (WN.out _).mono ?_; rintro e w6 ⟨rfl, rfl⟩))
            go_meet
            exact ⟨D, ao3, c3, rfl, hS5, (hk5 g3 rfl).trans N4.out⟩
        · as_aux_lemma =>
          clear KT
          have hrow4 := S4.out.row
          unfold HRow at hrow4
          have HR4 := Lib.hid hrow4
          have hsum := cntT_oth u.key.1 D
          have hdlen := S4.out.few
          obtain ⟨dl, hdl⟩ : ∃ dl, dl = D.length := ⟨_, rfl⟩
          rw [← hdl] at hsum hdlen HR4 ⊢
          have HDL := Lib.hid hdl
          have HSUM := Lib.hid hsum
          clear hrow4 hsum hdl
          go_wp2_with fail
          go_loopw [11, 114] (fun lv iv wr => lfRel w4 D u.key.1 lv iv wr) (fun _ iv _ => dl - (intOf iv).toNat)
          case atStart => exact ⟨0, none, 0, 0, by omega, rfl, rfl, rfl, World.ownsRow_nil _ _ _ _, Below.refl _ _⟩
          case round =>
            obtain ⟨wp, rfl⟩ : ∃ wp : World, wp = wr := ⟨_, rfl⟩
            obtain ⟨j, aoL, cL, m, hj, rfl, rfl, hm, hown, hb⟩ := hrel
            have hmj : m ≤ j := by rw [hm]; exact Nat.le_trans (List.length_filter_le _ _) (by rw [List.length_take]; omega)
            by_cases hjn : j < dl
            · have hjn2 : (j : Int) < (dl : Int) := by omega
              have hj0 : (0 : Int) ≤ (j : Int) := by omega
              obtain ⟨x, hx⟩ : ∃ x, D[j]? = some x := ⟨_, List.getElem?_eq_getElem (by rw [← HDL.out]; exact hjn)⟩
              obtain ⟨gr, hgr, _, _, _⟩ := own_cellK HR4.out (tcs_at D j x hx 0 _ rfl)
              subst hgr
              have KX : ∀ i v, (wcs x.1 x.2)[i]? = some v → wp.cell? ((⟨gr, j * 4, none⟩ : Addr).add i) = some v := by
                intro i v hv
                obtain ⟨g2, e2, _, hlt, hc⟩ := own_cellK HR4.out (tcs_at D j x hx i v hv)
                injection e2 with e2
                injection e2 with e2
                subst e2
                rw [Addr.add_mid, hb.cell hlt]
                exact hc
              obtain ⟨w5, hw5⟩ : ∃ y, y = wp.alloc (.cells (wcs x.1 x.2).toArray 39) := ⟨_, rfl⟩
              obtain ⟨g5, hg5⟩ : ∃ y, y = wp.heap.size := ⟨_, rfl⟩
              have b5 : Below wp.heap.size wp w5 := by rw [hw5]; exact (Below.refl _ _).alloc (Nat.le_refl _) _
              have n5 : w5.heap[g5]? = some (.cells (wcs x.1 x.2).toArray 39 (0, 0)) := by rw [hw5, hg5]; exact heap_alloc_new _ _
              have KW := box_at n5
              have c50 : w5.cell? ⟨g5, 0, none⟩ = some (.int .i64 x.1.1) := by rw [cell_of_row w5 g5 0 _ _ _ n5]; rfl
              have b45 := hb.trans (b5.mono hb.size)
              have c31 : w5.cell? ⟨g3, 1, none⟩ = some (.int .i64 u.key.1) := (K0.out w5 ((b45.block g3 (S4.out.flt rfl)).trans N4.out)).2.1
              have SW := Lib.hid (show (Try.prog.info? 39).map (·.size) = some (wcs x.1 x.2).toArray.size by kernel_rfl)
              have OW := Lib.hid (wcs_one x.1 x.2)
              have HX := Lib.hid hx
              have HO := Lib.hid (own_belowK hown b5)
              have HB5 := Lib.hid b45
              have HW5 := Lib.hid hw5
              have HG5 := Lib.hid hg5
              have HM := Lib.hid hm
              have hw4 : (wcs x.1 x.2).length = 4 := rfl
              have hm1 : m + 1 ≤ 1000 := by omega
              clear hown hb hx hw5 hg5 b5 n5 b45 hm hmj
              go_upto_region 37 with (first
                | (with_reducible show wpList _ _ _ _ _ _; refine wpList_load_allW rfl 39 (.tmp 116) rfl ⟨gr, j * 4, none⟩ rfl (wcs x.1 x.2) _ KX Try.underlying39 rfl (hdSize _ _) ?_)
                | (with_reducible show wpList _ _ _ _ _ _; refine wpList_store_newW rfl 39 (.tmp 13) (.tmp 117) rfl 39 _ (wcs x.1 x.2).toArray (by with_unfolding_all rfl) (by with_unfolding_all rfl) SW.out rfl OW.out ?_))
              rw [← HW5.out, ← HG5.out]
              simp only [Act.put, List.setIfInBounds_toArray, List.set_cons_zero, List.set_cons_succ, List.getElem_toArray, List.getElem_cons_zero, List.getElem_cons_succ]
              clear KX
              by_cases hr : x.1.1 = u.key.1
              · have hr2 : (x.1.1 == u.key.1) = true := by simpa using hr
                have RL := Lib.hid (show lfRel w4 D u.key.1 (.slice aoL m cL) (.int .i64 ((j + 1 : Nat) : Int)) w5 from by
                  have e1 : othW u.key.1 (D.take (j + 1)) = othW u.key.1 (D.take j) := by rw [take_snocT HX.out, othT_snoc, if_pos hr2]
                  exact ⟨j + 1, aoL, cL, m, by rw [← HDL.out]; omega, rfl, rfl, by rw [e1]; exact HM.out, by rw [e1]; exact HO.out, HB5.out⟩)
                clear KW
                go_wp2_with fail
                exact ⟨RL.out, by simp [intOf]; omega⟩
              · have hr2 : (x.1.1 == u.key.1) = false := by simpa using hr
                have HR2 := Lib.hid hr2
                go_wp2_with (first
                  | (with_reducible show wpList _ _ _ _ _ _; refine wpList_load_allW rfl 39 (.tmp 13) rfl ⟨g5, 0, none⟩ rfl (wcs x.1 x.2) _ KW Try.underlying39 rfl (hdSize _ _) ?_)
                  | (at_builtin; refine wpList_apK rfl (.tmp 125) (.tmp 127) 30 39 4 32 _ rfl Try.underlying30 infoHd (by decide) rfl w4.heap.size _ _ _ _ rfl HO.out HB5.out.size (wcs x.1 x.2) rfl (wcs_mem _ _) rfl (by omega) ?_; intro ao6 c6 w6 hown6 hb6 hk6))
                refine ⟨⟨j + 1, ao6, c6, m + 1, by rw [← HDL.out]; omega, rfl, rfl, ?_, ?_, HB5.out.trans hb6⟩, by simp [intOf]; omega⟩
                · rw [take_snocT HX.out, othT_snoc, if_neg (by rw [HR2.out]; decide), List.length_append, ← HM.out]; rfl
                · rw [take_snocT HX.out, othT_snoc, if_neg (by rw [HR2.out]; decide), tcs_app]
                  simpa [tcs] using hown6
            · obtain rfl : j = dl := by have := HDL.out; omega
              have hjn2 : ¬ (j : Int) < (j : Int) := by omega
              rw [HDL.out, List.take_length] at hm hown
              have S5 := S4.out.more (F' := fun q => q = g3 ∨ (w4.heap.size ≤ q ∧ q < wp.heap.size)) hb (fun q hq => hq)
              have DR := Lib.hid (pl_drop S5 u.key.1)
              have c31 : wp.cell? ⟨g3, 1, none⟩ = some (.int .i64 u.key.1) := (K0.out wp ((hb.block g3 (S4.out.flt rfl)).trans N4.out)).2.1
              have HOW := Lib.hid hown
              have NP := Lib.hid ((hb.block g3 (S4.out.flt rfl)).trans N4.out)
              have HLOW := Lib.hid (Nat.le_trans S4.out.low.size (Nat.le_refl _))
              obtain ⟨nn, hnn⟩ : ∃ nn, nn = cntW u.key.1 D := ⟨_, rfl⟩
              have hsum : nn + m = j := by have := HSUM.out; omega
              rw [← hnn] at DR
              have HM := Lib.hid hm
              have hd2 : ((nn : Int) == (j : Int) - (m : Int)) = true := by
                have : (nn : Int) = (j : Int) - (m : Int) := by omega
                simpa using this
              clear hown hb S5 hnn hm hmj hj hjn
              go_wp2_with (with_reducible refine DR.out.mono ?_; rintro e w7 ⟨rfl, hS7, hk7⟩)
              go_meet
              rw [HM.out] at HOW ⊢
              refine ⟨othW u.key.1 D, aoL, cL, rfl, ?_, (hk7 g3 (.inl rfl)).trans NP.out⟩
              refine (hS7.takeRow (v' := .slice aoL (othW u.key.1 D).length cL) (D' := othW u.key.1 D) (fun q hq => .inr (HOW.out.lt q hq)) ?_).fewer (fun q hq => .inl hq)
              exact own_baseQ (own_keepK HOW.out fun q hq hlt => hk7 q (.inr (HOW.out.lt q hq))) HLOW.out
        · have e0 : (kd == 0) = false := by simpa using n0
          have e1 : (kd == 1) = false := by simpa using n1
          have e2 : (kd == 2) = false := by simpa using n2
          have e3 : (kd == 3) = false := by simpa using n3
          clear n0 n1 n2 n3
          go_wp2_with fail
          go_meet
          exact ⟨D, ao3, c3, rfl, S4.out, N4.out⟩
      case rest =>
        as_aux_lemma =>
          obtain ⟨E, aoE, cE, rfl, hSE, hNE⟩ := hcut
          have SE := Lib.hid hSE
          have NE := Lib.hid hNE
          have LI := Lib.hid (pl_list hSE)
          have LE := Lib.hid (fun (W : World) (hb : Below wc.heap.size wc W) => pl_len (hSE.below hb))
          have hel := hSE.few
          clear hSE hNE KT kc0 kc4
          go_upto_region 44 with (with_reducible refine LI.out.mono ?_; rintro e w5 ⟨aoK, cK, rfl, hoK, hS5, hb5⟩)
          have S5 := Lib.hid hS5
          have L5 := Lib.hid (LE.out w5 hb5)
          have OK5 := Lib.hid hoK
          have N5 := Lib.hid (show w5.heap[g3]? = w3.heap[g3]? from (hb5.block g3 (SE.out.flt rfl)).trans NE.out)
          obtain ⟨el, hE⟩ : ∃ el, el = E.length := ⟨_, rfl⟩
          have S5' := S5.out.row
          unfold HRow at S5'
          rw [← hE] at L5 OK5 hel S5' ⊢
          have HE := Lib.hid hE
          have R5 := Lib.hid S5'
          clear hoK hS5 hb5 hE LE LI S5' NE
          go_upto_region 46 with (with_reducible refine L5.out.mono ?_; rintro e w6 ⟨rfl, rfl⟩)
          go_wp2_with fail
          go_loopw [155] (fun iv wr => tlRel w6 el iv wr) (fun iv _ => el - (intOf iv).toNat)
          case atStart => exact ⟨0, by omega, rfl, Below.refl _ _⟩
          case round =>
            obtain ⟨wp, rfl⟩ : ∃ wp : World, wp = wr := ⟨_, rfl⟩
            obtain ⟨j, hj, rfl, hb⟩ := hrel
            by_cases hjn : j < el
            · as_aux_lemma =>
              have hjn2 : (j : Int) < (el : Int) := by omega
              have hj0 : (0 : Int) ≤ (j : Int) := by omega
              obtain ⟨x, hx⟩ : ∃ x, E[j]? = some x := ⟨_, List.getElem?_eq_getElem (by rw [← HE.out]; exact hjn)⟩
              have hk : (keysT E)[j]? = some x.1 := by unfold keysT; rw [List.getElem?_map, hx]; rfl
              obtain ⟨gr, hgr, _, _, _⟩ := own_cellK R5.out (tcs_at E j x hx 0 _ rfl)
              subst hgr
              obtain ⟨gk, hgk, _, _, _⟩ := own_cellK OK5.out (kss_at _ j x.1 hk 0 _ rfl)
              subst hgk
              have KX : ∀ i v, (wcs x.1 x.2)[i]? = some v → wp.cell? ((⟨gr, j * 4, none⟩ : Addr).add i) = some v := by
                intro i v hv
                obtain ⟨g2, e2, _, hlt, hc⟩ := own_cellK R5.out (tcs_at E j x hx i v hv)
                injection e2 with e2
                injection e2 with e2
                subst e2
                rw [Addr.add_mid, hb.cell hlt]
                exact hc
              obtain ⟨w7, hw7⟩ : ∃ y, y = wp.alloc (.cells (wcs x.1 x.2).toArray 39) := ⟨_, rfl⟩
              obtain ⟨g7, hg7⟩ : ∃ y, y = wp.heap.size := ⟨_, rfl⟩
              have b7 : Below wp.heap.size wp w7 := by rw [hw7]; exact (Below.refl _ _).alloc (Nat.le_refl _) _
              have n7 : w7.heap[g7]? = some (.cells (wcs x.1 x.2).toArray 39 (0, 0)) := by rw [hw7, hg7]; exact heap_alloc_new _ _
              have b67 := hb.trans (b7.mono hb.size)
              have S7 := S5.out.below b67
              have hmem : x ∈ E := List.mem_of_getElem? hx
              have SI := Lib.hid (pl_since S7 hmem)
              have KT7 : ∀ i v, (kcs x.1)[i]? = some v → w7.cell? ((⟨g7, 0, none⟩ : Addr).add i) = some v := by
                intro i v hv
                rw [Addr.add_mid, Nat.zero_add, cell_of_row w7 g7 i _ _ _ n7]
                match i, hv with
                | 0, hv => exact hv
                | 1, hv => exact hv
                | 2, hv => exact hv
                | k + 3, hv => simp [kcs] at hv
              have KG := Lib.hid (fun (W : World) (hW : Below w7.heap.size w7 W) => show ∀ i v, (kcs x.1)[i]? = some v → W.cell? ((⟨g7, 0, none⟩ : Addr).add i) = some v from fun i v hv => by
                have h1 := KT7 i v hv
                rw [hW.cell (World.block_lt_of_cell? w7 _ h1)]
                exact h1)
              have KK := Lib.hid (fun (W : World) (hW : Below w7.heap.size w7 W) => show ∀ i v, (kcs x.1)[i]? = some v → W.cell? ((⟨gk, j * 3, none⟩ : Addr).add i) = some v from fun i v hv => by
                obtain ⟨g2, e2, _, hlt, hc⟩ := own_cellK OK5.out (kss_at _ j x.1 hk i v hv)
                injection e2 with e2
                injection e2 with e2
                subst e2
                rw [Addr.add_mid, hW.cell (Nat.lt_of_lt_of_le hlt b67.size), b67.cell hlt]
                exact hc)
              have K3 := Lib.hid (fun (W : World) (hW : Below w7.heap.size w7 W) => show W.cell? ⟨g7, 3, none⟩ = some (.int .i64 x.2) from by
                rw [cell_of_row W g7 3 _ _ _ ((hW.block g7 (lt_of_rowW n7)).trans n7)]; rfl)
              have HS := Lib.hid (fun (W : World) (hW : Below w7.heap.size w7 W) => show Calls Try.prog 22 #[.pointer (some ⟨g, 0, none⟩), .agg (kcs x.1).toArray] W fun e w' => e = .returned (.bool true) ∧ Below W.heap.size W w' from by
                have h1 := pl_has (S7.below hW) x.1 (S7.wf x hmem).1
                rw [show (keysT E).contains x.1 = true by simpa [keysT] using ⟨x.2, hmem⟩] at h1
                exact h1.mono fun e w' hh => ⟨hh.1, hh.2.2⟩)
              have SW := Lib.hid (show (Try.prog.info? 39).map (·.size) = some (wcs x.1 x.2).toArray.size by kernel_rfl)
              have OW := Lib.hid (wcs_one x.1 x.2)
              have HB7 := Lib.hid b67
              have HW7 := Lib.hid hw7
              have HG7 := Lib.hid hg7
              have hkk : (!decide (x.1 = x.1)) = false := by simp
              clear hx hk hw7 hg7 b7 n7 b67 S7 hmem hb
              go_upto_region 49 with (first
                | (with_reducible show wpList _ _ _ _ _ _; refine wpList_load_allW rfl 39 (.tmp 158) rfl ⟨gr, j * 4, none⟩ rfl (wcs x.1 x.2) _ KX Try.underlying39 rfl (hdSize _ _) ?_)
                | (with_reducible show wpList _ _ _ _ _ _; refine wpList_store_newW rfl 39 (.tmp 16) (.tmp 159) rfl 39 _ (wcs x.1 x.2).toArray (by with_unfolding_all rfl) (by with_unfolding_all rfl) SW.out rfl OW.out ?_))
              rw [← HW7.out, ← HG7.out]
              simp only [Act.put, List.setIfInBounds_toArray, List.set_cons_zero, List.set_cons_succ, List.getElem_toArray, List.getElem_cons_zero, List.getElem_cons_succ]
              clear KX
              go_upto_region 50 with (first
                | (with_reducible show wpList _ _ _ _ _ _; refine wpList_load_allW rfl 32 (.tmp 161) rfl ⟨g7, 0, none⟩ rfl (kcs x.1) _ KT7 Try.underlying32 rfl (tkSize _) ?_)
                | (with_reducible refine SI.out.mono ?_; rintro e w8 ⟨rfl, hS8, hb8⟩))
              have HB8 := Lib.hid hb8
              clear hS8 hb8 KT7 SI
              refine wp_region_quiet_in (fun w' => Below w7.heap.size w7 w') (by kernel_rfl) (by kernel_rfl) (below_drewN HB8.out 1) ?_
              refine wpQuiet_runG (v := .slice (some ⟨gk, 0, none⟩) el cK) (by kernel_rfl) (fun w' hC => by first | rfl | go_simp) ?_
              simp only [Act.put, List.setIfInBounds_toArray, List.set_cons_zero, List.set_cons_succ, List.getElem_toArray, List.getElem_cons_zero, List.getElem_cons_succ]
              refine wpQuiet_runG (v := .int .i64 (j : Int)) (by kernel_rfl) (fun w' hC => by first | rfl | go_simp) ?_
              simp only [Act.put, List.setIfInBounds_toArray, List.set_cons_zero, List.set_cons_succ, List.getElem_toArray, List.getElem_cons_zero, List.getElem_cons_succ]
              refine wpQuiet_runG (v := .pointer (some ⟨gk, j * 3, none⟩)) (by kernel_rfl) (fun w' hC => by first | rfl | go_simp) ?_
              simp only [Act.put, List.setIfInBounds_toArray, List.set_cons_zero, List.set_cons_succ, List.getElem_toArray, List.getElem_cons_zero, List.getElem_cons_succ]
              refine wpQuiet_loadG (by kernel_rfl) 32 (.tmp 168) rfl ⟨gk, j * 3, none⟩ rfl (kcs x.1) _ (fun w' hC => KK.out w' hC) Try.underlying32 rfl (tkSize _) ?_
              simp only [Act.put, List.setIfInBounds_toArray, List.set_cons_zero, List.set_cons_succ, List.getElem_toArray, List.getElem_cons_zero, List.getElem_cons_succ]
              refine wpQuiet_runG (v := .pointer (some ⟨g7, 0, none⟩)) (by kernel_rfl) (fun w' hC => by first | rfl | go_simp) ?_
              simp only [Act.put, List.setIfInBounds_toArray, List.set_cons_zero, List.set_cons_succ, List.getElem_toArray, List.getElem_cons_zero, List.getElem_cons_succ]
              refine wpQuiet_loadG (by kernel_rfl) 32 (.tmp 170) rfl ⟨g7, 0, none⟩ rfl (kcs x.1) _ (fun w' hC => KG.out w' hC) Try.underlying32 rfl (tkSize _) ?_
              simp only [Act.put, List.setIfInBounds_toArray, List.set_cons_zero, List.set_cons_succ, List.getElem_toArray, List.getElem_cons_zero, List.getElem_cons_succ]
              refine wpQuiet_runG (v := .bool false) (by kernel_rfl) (fun w' hC => by refine Eq.trans (exec_tneq (x := .tmp 169) (y := .tmp 171) (s := 32) ?_ x.1 x.1 ?_ ?_ w') (by simp) <;> rfl) ?_
              simp only [Act.put, List.setIfInBounds_toArray, List.set_cons_zero, List.set_cons_succ, List.getElem_toArray, List.getElem_cons_zero, List.getElem_cons_succ]
              refine wpQuiet_runG (v := .bool false) (by kernel_rfl) (fun w' hC => by first | rfl | go_simp) ?_
              simp only [Act.put, List.setIfInBounds_toArray, List.set_cons_zero, List.set_cons_succ, List.getElem_toArray, List.getElem_cons_zero, List.getElem_cons_succ]
              refine wpQuiet_runG (v := .bool true) (by kernel_rfl) (fun w' hC => by first | rfl | go_simp) ?_
              simp only [Act.put, List.setIfInBounds_toArray, List.set_cons_zero, List.set_cons_succ, List.getElem_toArray, List.getElem_cons_zero, List.getElem_cons_succ]
              refine wpQuiet_runG (v := .bool false) (by kernel_rfl) (fun w' hC => by first | rfl | go_simp) ?_
              simp only [Act.put, List.setIfInBounds_toArray, List.set_cons_zero, List.set_cons_succ, List.getElem_toArray, List.getElem_cons_zero, List.getElem_cons_succ]
              refine wpQuiet_runG (v := .bool false) (by kernel_rfl) (fun w' hC => by first | rfl | go_simp) ?_
              simp only [Act.put, List.setIfInBounds_toArray, List.set_cons_zero, List.set_cons_succ, List.getElem_toArray, List.getElem_cons_zero, List.getElem_cons_succ]
              refine wpQuiet_runG (v := .bool false) (by kernel_rfl) (fun w' hC => by first | rfl | go_simp) ?_
              simp only [Act.put, List.setIfInBounds_toArray, List.set_cons_zero, List.set_cons_succ, List.getElem_toArray, List.getElem_cons_zero, List.getElem_cons_succ]
              refine wpQuiet_runG (v := .int .i64 x.2) (by kernel_rfl) (fun w' hC => by first | rfl | go_simp) ?_
              simp only [Act.put, List.setIfInBounds_toArray, List.set_cons_zero, List.set_cons_succ, List.getElem_toArray, List.getElem_cons_zero, List.getElem_cons_succ]
              refine wpQuiet_runG (v := .pointer (some ⟨g7, 3, none⟩)) (by kernel_rfl) (fun w' hC => by first | rfl | go_simp) ?_
              simp only [Act.put, List.setIfInBounds_toArray, List.set_cons_zero, List.set_cons_succ, List.getElem_toArray, List.getElem_cons_zero, List.getElem_cons_succ]
              refine wpQuiet_runG (v := .int .i64 x.2) (by kernel_rfl) (fun w' hC => by have h3 := K3.out w' hC; go_simp) ?_
              simp only [Act.put, List.setIfInBounds_toArray, List.set_cons_zero, List.set_cons_succ, List.getElem_toArray, List.getElem_cons_zero, List.getElem_cons_succ]
              refine wpQuiet_runG (v := .bool false) (by kernel_rfl) (fun w' hC => by first | rfl | go_simp) ?_
              simp only [Act.put, List.setIfInBounds_toArray, List.set_cons_zero, List.set_cons_succ, List.getElem_toArray, List.getElem_cons_zero, List.getElem_cons_succ]
              refine wpQuiet_runG (v := .bool false) (by kernel_rfl) (fun w' hC => by first | rfl | go_simp) ?_
              simp only [Act.put, List.setIfInBounds_toArray, List.set_cons_zero, List.set_cons_succ, List.getElem_toArray, List.getElem_cons_zero, List.getElem_cons_succ]
              refine wpQuiet_runG (v := .bool false) (by kernel_rfl) (fun w' hC => by first | rfl | go_simp) ?_
              simp only [Act.put, List.setIfInBounds_toArray, List.set_cons_zero, List.set_cons_succ, List.getElem_toArray, List.getElem_cons_zero, List.getElem_cons_succ]
              refine wpQuiet_runG (v := .pointer (some ⟨g7, 0, none⟩)) (by kernel_rfl) (fun w' hC => by first | rfl | go_simp) ?_
              simp only [Act.put, List.setIfInBounds_toArray, List.set_cons_zero, List.set_cons_succ, List.getElem_toArray, List.getElem_cons_zero, List.getElem_cons_succ]
              refine wpQuiet_loadG (by kernel_rfl) 32 (.tmp 184) rfl ⟨g7, 0, none⟩ rfl (kcs x.1) _ (fun w' hC => KG.out w' hC) Try.underlying32 rfl (tkSize _) ?_
              simp only [Act.put, List.setIfInBounds_toArray, List.set_cons_zero, List.set_cons_succ, List.getElem_toArray, List.getElem_cons_zero, List.getElem_cons_succ]
              refine wpQuiet_callG (f := 22) (xs := #[.tmp 3, .tmp 185]) #[.pointer (some ⟨g, 0, none⟩), .agg (kcs x.1).toArray] (.bool true) (by kernel_rfl) rfl Try.func22 (by kernel_rfl) (by kernel_rfl) (by simp [Act.eval]) (fun W hW => (HS.out W hW).mono fun e w' h => ⟨h.1, Below.trans hW (h.2.mono hW.size)⟩) ?_
              simp only [Act.put, List.setIfInBounds_toArray, List.set_cons_zero, List.set_cons_succ, List.getElem_toArray, List.getElem_cons_zero, List.getElem_cons_succ]
              refine wpQuiet_runG (v := .bool false) (by kernel_rfl) (fun w' hC => by first | rfl | go_simp) ?_
              simp only [Act.put, List.setIfInBounds_toArray, List.set_cons_zero, List.set_cons_succ, List.getElem_toArray, List.getElem_cons_zero, List.getElem_cons_succ]
              refine wpQuiet_runG (v := .bool false) (by kernel_rfl) (fun w' hC => by first | rfl | go_simp) ?_
              simp only [Act.put, List.setIfInBounds_toArray, List.set_cons_zero, List.set_cons_succ, List.getElem_toArray, List.getElem_cons_zero, List.getElem_cons_succ]
              refine wpQuiet_nil ?_
              intro w9 hb9
              have RL := Lib.hid (show tlRel w6 el (.int .i64 ((j + 1 : Nat) : Int)) w9 from ⟨j + 1, by omega, rfl, HB7.out.trans (hb9.mono HB7.out.size)⟩)
              clear hb9
              go_wp2_with fail
              exact ⟨RL.out, by simp [intOf]; omega⟩
            · as_aux_lemma =>
              obtain rfl : j = el := by omega
              have hjn2 : ¬ (j : Int) < (j : Int) := by omega
              have S7 := S5.out.below hb
              have N7 := (hb.block g3 (S5.out.flt rfl)).trans N5.out
              have KT7 := KF.out wp N7
              obtain ⟨F2, hF2⟩ : ∃ F2, F2 = fd E u.key := ⟨_, rfl⟩
              have FD2 := Lib.hid (find_any wp w.heap.size aoE j cE E HE.out (by omega) (by have h := S7.row; rwa [← HE.out] at h) u.key)
              rw [← hF2] at FD2
              obtain ⟨B2, hB2⟩ : ∃ B2, B2 = (keysT E).contains u.key := ⟨_, rfl⟩
              have hge : decide ((0 : Int) ≤ F2) = B2 := by
                rcases fd_ge (k := u.key) S7.nodup with ⟨e1, e2⟩ | ⟨a, e1, e2⟩
                · rw [hB2, e2, hF2, e1]; decide
                · rw [hB2, e2, hF2, e1]; simp
              have HS8 := Lib.hid (fun (W : World) (hW : Below wp.heap.size wp W) => show Calls Try.prog 22 #[.pointer (some ⟨g, 0, none⟩), .agg (kcs u.key).toArray] W fun e w' => e = .returned (.bool B2) ∧ PlS w (fun q => q = g3) g E (.slice aoE E.length cE) E w' ∧ Below W.heap.size W w' from by
                rw [hB2]
                exact pl_has (S7.below hW) u.key HG.out.2.1)
              have S7h := Lib.hid S7
              have N7h := Lib.hid N7
              have SZ := Lib.hid (show ∀ k, (Try.prog.info? 32).map (·.size) = some (kcs k).toArray.size from fun k => by kernel_rfl)
              have OK := Lib.hid kcs_one
              clear S7 N7 hF2 hB2 hb hj hjn kc1
              go_upto_region 54 with (first
                | (with_reducible show wpList _ _ _ _ _ _; refine wpList_load_allW rfl 32 (.tmp 191) rfl ⟨g3, 1, none⟩ rfl (kcs u.key) _ KT7 Try.underlying32 rfl (tkSize _) ?_)
                | (with_reducible refine FD2.out.mono ?_; rintro e w7 ⟨rfl, hb7⟩))
              have KT8 := KF.out w7 ((hb7.block g3 (S7h.out.flt rfl)).trans N7h.out)
              have HH := Lib.hid (HS8.out w7 hb7)
              have N8 := Lib.hid ((hb7.block g3 (S7h.out.flt rfl)).trans N7h.out)
              clear KT7 hb7
              go_upto_region 56 with (first
                | (with_reducible show wpList _ _ _ _ _ _; refine wpList_load_allW rfl 32 (.tmp 194) rfl ⟨g3, 1, none⟩ rfl (kcs u.key) _ KT8 Try.underlying32 rfl (tkSize _) ?_)
                | (with_reducible refine HH.out.mono ?_; rintro e w8 ⟨rfl, hS8, hb8⟩))
              have S8 := Lib.hid hS8
              clear KT8 hS8 hb8 HH HS8 FD2 hge
              rcases E with _ | ⟨x, E'⟩
              · have he : j = 0 := HE.out
                subst he
                have FI := Lib.hid (pl_first_nil S8.out)
                go_upto_region 57 with (first
                  | (with_reducible refine FI.out.mono ?_; rintro e w9 ⟨rfl, hS9, hb9⟩)
                  | (with_reducible show wpList _ _ _ _ _ _; refine wpList_store_newW rfl 32 (.tmp 19) (.tmp 202) rfl 32 _ (kcs Qu.k0).toArray (by with_unfolding_all rfl) (by with_unfolding_all rfl) (SZ.out _) rfl (OK.out _) ?_))
                obtain ⟨w10, hw10⟩ : ∃ y, y = w9.alloc (.cells (kcs Qu.k0).toArray 32) := ⟨_, rfl⟩
                rw [← hw10]
                have S10 := Lib.hid (hS9.below (show Below w9.heap.size w9 w10 by rw [hw10]; exact (Below.refl _ _).alloc (Nat.le_refl _) _))
                clear hw10 hS9 hb9
                refine wp_region_quiet_lit (by kernel_rfl) (by kernel_rfl) ?_
                repeat (go_big_quiet_step (fail))
                refine wpQuiet_nil ?_
                intro _ hw'
                obtain ⟨nq, hw''⟩ := hw'
                subst hw''
                obtain ⟨w11, hw11⟩ : ∃ y, y = w10.drewN nq := ⟨_, rfl⟩
                rw [← hw11]
                have RL := Lib.hid (show qpRel w g n (.slice aoE 0 cE) (.int .i64 ((i + 1 : Nat) : Int)) w11 from ⟨i + 1, [], aoE, cE, by omega, rfl, rfl, by rw [hw11]; exact (S10.out.below (below_drewN (Below.refl _ _) nq)).fewer (fun _ h => by cases h)⟩)
                clear hw11
                go_wp2_with fail
                exact ⟨RL.out, by simp [intOf]; omega⟩
              · have FI := Lib.hid (pl_first S8.out)
                have hjp : 0 < j := by have := HE.out; simp at this; omega
                have hpos : (0 : Int) < (j : Int) := by omega
                have hrow8 := S8.out.row
                unfold HRow at hrow8
                obtain ⟨gr, hgr, _, _, _⟩ := own_cellK hrow8 (tcs_at (x :: E') 0 x rfl 0 _ rfl)
                subst hgr
                clear hrow8
                go_upto_region 57 with (first
                  | (with_reducible refine FI.out.mono ?_; rintro e w9 ⟨rfl, hS9, hb9⟩)
                  | (with_reducible show wpList _ _ _ _ _ _; refine wpList_store_newW rfl 32 (.tmp 19) (.tmp 202) rfl 32 _ (kcs x.1).toArray (by with_unfolding_all rfl) (by with_unfolding_all rfl) (SZ.out _) rfl (OK.out _) ?_))
                obtain ⟨w10, hw10⟩ : ∃ y, y = w9.alloc (.cells (kcs x.1).toArray 32) := ⟨_, rfl⟩
                obtain ⟨g10, hg10⟩ : ∃ y, y = w9.heap.size := ⟨_, rfl⟩
                rw [← hw10, ← hg10]
                have S10 := Lib.hid (hS9.below (show Below w9.heap.size w9 w10 by rw [hw10]; exact (Below.refl _ _).alloc (Nat.le_refl _) _))
                have K9 := box_at (show w10.heap[g10]? = some (.cells (kcs x.1).toArray 32 (0, 0)) by rw [hw10, hg10]; exact heap_alloc_new _ _)
                have KW : ∀ i v, (wcs x.1 x.2)[i]? = some v → w10.cell? ⟨gr, i, none⟩ = some v := by
                  intro i v hv
                  have hrow := S10.out.row
                  unfold HRow at hrow
                  obtain ⟨g2, e2, _, _, hc⟩ := own_cellK hrow (tcs_at (x :: E') 0 x rfl i v hv)
                  injection e2 with e2
                  injection e2 with e2
                  subst e2
                  simpa using hc
                have KR : ∀ i v, (kcs x.1)[i]? = some v → w10.cell? ((⟨gr, 0, none⟩ : Addr).add i) = some v := by
                  intro i v hv
                  rw [Addr.add_mid, Nat.zero_add]
                  refine KW i v ?_
                  match i, hv with
                  | 0, hv => exact hv
                  | 1, hv => exact hv
                  | 2, hv => exact hv
                  | k + 3, hv => simp [kcs] at hv
                have c3 : w10.cell? ⟨gr, 3, none⟩ = some (.int .i64 x.2) := KW 3 _ rfl
                have hkk : (!decide (x.1 = x.1)) = false := by simp
                clear hw10 hg10 hS9 hb9 KW
                refine wp_region_quiet_lit (by kernel_rfl) (by kernel_rfl) ?_
                repeat (go_big_quiet_step (fail))
                refine wpQuiet_loadG (by kernel_rfl) 32 (.tmp 19) rfl ⟨g10, 0, none⟩ rfl (kcs x.1) _ (fun w' hC => by obtain ⟨nl, rfl⟩ := hC; exact K9) Try.underlying32 rfl (tkSize _) ?_
                simp only [Act.put, List.setIfInBounds_toArray, List.set_cons_zero, List.set_cons_succ, List.getElem_toArray, List.getElem_cons_zero, List.getElem_cons_succ]
                repeat (go_big_quiet_step (fail))
                refine wpQuiet_loadG (by kernel_rfl) 32 (.tmp 216) rfl ⟨gr, 0, none⟩ rfl (kcs x.1) _ (fun w' hC => by obtain ⟨nl, rfl⟩ := hC; exact KR) Try.underlying32 rfl (tkSize _) ?_
                simp only [Act.put, List.setIfInBounds_toArray, List.set_cons_zero, List.set_cons_succ, List.getElem_toArray, List.getElem_cons_zero, List.getElem_cons_succ]
                refine wpQuiet_runG (v := .bool false) (by kernel_rfl) (fun w' hC => by obtain ⟨nl, rfl⟩ := hC; rw [← hkk]; exact exec_tneq rfl x.1 x.1 rfl rfl _) ?_
                simp only [Act.put, List.setIfInBounds_toArray, List.set_cons_zero, List.set_cons_succ, List.getElem_toArray, List.getElem_cons_zero, List.getElem_cons_succ]
                repeat (go_big_quiet_step (fail))
                refine wpQuiet_nil ?_
                intro _ hw'
                obtain ⟨nq, hw''⟩ := hw'
                subst hw''
                obtain ⟨w11, hw11⟩ : ∃ y, y = w10.drewN nq := ⟨_, rfl⟩
                rw [← hw11]
                have RL := Lib.hid (show qpRel w g n (.slice (some ⟨gr, 0, none⟩) j cE) (.int .i64 ((i + 1 : Nat) : Int)) w11 from ⟨i + 1, x :: E', some ⟨gr, 0, none⟩, cE, by omega, rfl, by rw [HE.out], by rw [hw11]; exact (S10.out.below (below_drewN (Below.refl _ _) nq)).fewer (fun _ h => by cases h)⟩)
                clear hw11 c3 K9 KR
                go_wp2_with fail
                exact ⟨RL.out, by simp [intOf]; omega⟩
    · have hin2 : ¬ (i : Int) < (n : Int) := by omega
      have HL := Lib.hid hS.low
      clear hS S2
      go_wp2_with fail
      go_ret
      exact ⟨rfl, HL.out⟩
end Go.Proofs.Ytjjmjbemflhlbaa.Qu
