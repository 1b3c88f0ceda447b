/- The head of the queue's laws: waits. -/
import Derived.Test.YtjjmjbemflhlbaaNK
namespace Go.Proofs.Ytjjmjbemflhlbaa.Qu
open Go Go.RowKit Go.Proofs.Ytjjmjbemflhlbaa
open Go.Proofs.Ytjjmjbemflhlbaa.Hp (K3 kv KLit wf3 i64wf kv_inj)
open Go.Proofs.Ytjjmjbemflhlbaa.Dk (Frm below_drewN Frm.of_below Frm.setCell Frm.refl Frm.drewN Frm.drew Frm.transT Frm.turned Frm.trans Frm.mono Frm.setRow Frm.thenBelow Frm.below)
set_option linter.unusedVariables false
set_option linter.unusedSimpArgs false
set_option maxRecDepth 100000
set_option maxHeartbeats 4000000
def tA : K3 := (1, 1, 0)
def tB : K3 := (1, 2, 2)
theorem wf_tA : wf3 tA := ⟨rfl, rfl, rfl⟩
theorem wf_tB : wf3 tB := ⟨rfl, rfl, rfl⟩
def waW (a b : Bool) : List Tk := if b = true then [(tA, 3), (tB, 4)] else if a = true then [(tA, 3)] else []
theorem waits_any (w : World) : Calls Try.prog 12 #[] w fun e w' => e = .returned (.bool true) ∧ Below w.heap.size w w' := by
  obtain ⟨g1, hg1⟩ : ∃ g, g = w.heap.size := ⟨_, rfl⟩
  obtain ⟨gA, hgA⟩ : ∃ g, g = w.heap.size + 1 := ⟨_, rfl⟩
  obtain ⟨gB, hgB⟩ : ∃ g, g = w.heap.size + 1 + 1 := ⟨_, rfl⟩
  obtain ⟨w1, hw1⟩ : ∃ x, x = w.alloc (.cells #[.pointer none, .pointer none, .map none] 29) := ⟨_, rfl⟩
  obtain ⟨w2, hw2⟩ : ∃ x, x = w1.alloc (.cells (kcs tA).toArray 32) := ⟨_, rfl⟩
  obtain ⟨w3, hw3⟩ : ∃ x, x = w2.alloc (.cells (kcs tB).toArray 32) := ⟨_, rfl⟩
  have s1 : w1.heap.size = w.heap.size + 1 := by rw [hw1]; simp
  have s2 : w2.heap.size = w.heap.size + 1 + 1 := by rw [hw2]; simp [s1]
  have s3 : w3.heap.size = w.heap.size + 1 + 1 + 1 := by rw [hw3]; simp [s2]
  have b2 : Below w1.heap.size w1 w2 := by rw [hw2]; exact (Below.refl _ _).alloc (Nat.le_refl _) _
  have b3 : Below w2.heap.size w2 w3 := by rw [hw3]; exact (Below.refl _ _).alloc (Nat.le_refl _) _
  have b03 : Below w.heap.size w w3 := by
    have b1 : Below w.heap.size w w1 := by rw [hw1]; exact (Below.refl _ _).alloc (Nat.le_refl _) _
    exact b1.trans ((b2.trans (b3.mono b2.size)).mono b1.size)
  have nA : w3.heap[gA]? = some (.cells (kcs tA).toArray 32 (0, 0)) := by
    rw [b3.block gA (by omega), hw2, hgA, ← s1]
    exact heap_alloc_new _ _
  have nB : w3.heap[gB]? = some (.cells (kcs tB).toArray 32 (0, 0)) := by
    rw [hw3, hgB, ← s2]
    exact heap_alloc_new _ _
  have q3 : QL w3 g1 [] w3 := by
    refine QL.first hg1 ?_ ?_
    · rw [← hw1]
      have := b2.trans (b3.mono b2.size)
      rwa [s1, ← hg1] at this
    · rw [← hw1]; omega
  have LgA := Lib.hid (show gA < w3.heap.size ∧ gA ≠ g1 ∧ w3.heap[gA]? = some (.cells (kcs tA).toArray 32 (0, 0)) from ⟨by omega, by omega, nA⟩)
  have LgB := Lib.hid (show gB < w3.heap.size ∧ gB ≠ g1 ∧ w3.heap[gB]? = some (.cells (kcs tB).toArray 32 (0, 0)) from ⟨by omega, by omega, nB⟩)
  have B03 := Lib.hid b03
  have Q3 := Lib.hid q3
  have G1 := Lib.hid (show w.heap.size ≤ g1 from by omega)
  have HW := Lib.hid (show w3 = ((w.alloc (.cells #[.pointer none, .pointer none, .map none] 29)).alloc (.cells #[.int .i64 1, .int .i64 1, .int .i64 0] 32)).alloc (.cells #[.int .i64 1, .int .i64 2, .int .i64 2] 32) from by rw [hw3, hw2, hw1]; rfl)
  have HG1 := Lib.hid hg1
  have HGA := Lib.hid hgA
  have HGB := Lib.hid hgB
  have F3 := Lib.hid (ql_first_nil q3)
  have SZ := Lib.hid (show ∀ k, (Try.prog.info? 32).map (·.size) = some (kcs k).toArray.size from fun k => by kernel_rfl)
  have OK := Lib.hid kcs_one
  clear hg1 hgA hgB hw1 hw2 hw3 s1 s2 s3 b2 b3 b03 nA nB q3
  go_enter Try.func12, Try.ntmps12
  go_upto_region 3 with fail
  rw [← HW.out, ← HGB.out, ← HGA.out, ← HG1.out, show (#[.int .i64 1, .int .i64 1, .int .i64 0] : Array Value) = (kcs tA).toArray from rfl, show (#[.int .i64 1, .int .i64 2, .int .i64 2] : Array Value) = (kcs tB).toArray from rfl]
  go_upto_region 4 with (first
    | (with_reducible refine F3.out.mono ?_; rintro e w4 ⟨rfl, hq4, hb4⟩)
    | (with_reducible show wpList _ _ _ _ _ _; refine wpList_store_newW rfl 32 (.tmp 4) (.tmp 19) rfl 32 _ (kcs k0).toArray (by with_unfolding_all rfl) (by with_unfolding_all rfl) (SZ.out _) rfl (OK.out _) ?_))
  obtain ⟨w5, hw5⟩ : ∃ x, x = w4.alloc (.cells (kcs k0).toArray 32) := ⟨_, rfl⟩
  obtain ⟨g5, hg5⟩ : ∃ x, x = w4.heap.size := ⟨_, rfl⟩
  rw [← hw5, ← hg5]
  have q5 := hq4.below (show Below w4.heap.size w4 w5 by rw [hw5]; exact (Below.refl _ _).alloc (Nat.le_refl _) _)
  have LE := Lib.hid (ql_len q5)
  have I0 := Lib.hid (show QL w3 g1 (waW false false) w5.drew from ⟨q5.q.below (below_drewN (Below.refl _ _) 1), q5.frm.drew⟩)
  clear hw5 hg5 hq4 hb4 q5
  go_upto_region 6 with (with_reducible refine LE.out.mono ?_; rintro e w6 ⟨rfl, rfl⟩)
  refine wp_region_par (α := Unit) (by kernel_rfl) (by kernel_rfl) (by kernel_rfl) (fun y => ⟨#[Value.bool false, Value.pointer (some { block := g1, off := 0 }), Value.pointer (some { block := gA, off := 0 }), Value.pointer (some { block := gB, off := 0 }), Value.pointer (some { block := g5, off := 0 }), Value.int IntKind.i64 0, Value.bool false, y 6, y 7, y 8, undef, undef, undef, undef, undef, Value.agg (kcs tA).toArray, Value.agg (kcs tB).toArray, Value.tuple #[Value.agg (kcs k0).toArray, Value.int IntKind.i64 0, Value.bool false], Value.tuple #[Value.agg (kcs k0).toArray, Value.int IntKind.i64 0, Value.bool false], Value.agg (kcs k0).toArray, Value.int IntKind.i64 0, Value.bool false, Value.bool false, Value.bool false, Value.int IntKind.i64 0, Value.bool false, Value.bool false, y 0, y 1, y 2, y 3, y 4, y 5, undef, undef, undef, undef, undef, undef, undef, undef, undef, undef, undef, undef, undef, undef, undef, undef, undef, undef, undef, undef, undef, undef, undef, undef, undef, undef, undef, undef, undef, undef, undef, undef, undef, undef, undef, undef, undef, undef, undef, undef, undef, undef, undef, undef, undef, undef, undef, undef, undef, undef], []⟩) (fun p j q => match j with | 0 => q = .agg (kcs tA).toArray | 1 => q = .int .i64 0 | 2 => q = .agg (kcs tB).toArray | 3 => q = .int .i64 0 | 4 => q = .agg (kcs tA).toArray | 5 => q = .int .i64 5 | 6 => q = .int .i64 0 | 7 => q = .int .i64 0 | 8 => q = .int .i64 5 | _ => True) (fun M p wx => QL w3 g1 (waW (M 1) (M 3)) wx) (fun i => [1, 3, 5].contains i) (fun i j => (i == 1 && decide (1 < j) && j != 2 && j != 4) || (i == 3 && decide (3 < j) && j != 4) || (i == 5 && decide (5 < j))) (parOk_spec (by kernel_rfl)) ?_ ?_ ?_ (fun _ => undef) () rfl (by exact I0.out)
  · intro i' o hsrc ho M p y wx hd hi' hI
    match i', ho with
    | 0, ho =>
      obtain rfl := Option.some.inj ho
      exact ⟨.agg (kcs tA).toArray, run_loadP 32 (.tmp 2) rfl ⟨gA, 0, none⟩ (by rfl) (kcs tA) _ (box_at ((hI.block LgA.out.1 LgA.out.2.1).trans LgA.out.2.2)) Try.underlying32 rfl (tkSize _), rfl, rfl, hI⟩
    | 1, ho =>
      obtain rfl := Option.some.inj ho
      cases hsrc
    | 2, ho =>
      obtain rfl := Option.some.inj ho
      exact ⟨.agg (kcs tB).toArray, run_loadP 32 (.tmp 3) rfl ⟨gB, 0, none⟩ (by rfl) (kcs tB) _ (box_at ((hI.block LgB.out.1 LgB.out.2.1).trans LgB.out.2.2)) Try.underlying32 rfl (tkSize _), rfl, rfl, hI⟩
    | 3, ho =>
      obtain rfl := Option.some.inj ho
      cases hsrc
    | 4, ho =>
      obtain rfl := Option.some.inj ho
      exact ⟨.agg (kcs tA).toArray, run_loadP 32 (.tmp 2) rfl ⟨gA, 0, none⟩ (by rfl) (kcs tA) _ (box_at ((hI.block LgA.out.1 LgA.out.2.1).trans LgA.out.2.2)) Try.underlying32 rfl (tkSize _), rfl, rfl, hI⟩
    | 5, ho =>
      obtain rfl := Option.some.inj ho
      cases hsrc
    | 6, ho =>
      obtain rfl := Option.some.inj ho
      have y0 : y 1 = .int .i64 0 := hd ⟨1, .data⟩ (by simp) rfl
      refine ⟨.int .i64 0, ?_, rfl, rfl, hI⟩
      refine runWithP (fun z => match z with | .tmp 28 => y 1 | .const c => c | _ => undef) (by kernel_rfl) ?_
      rw [y0]
      go_simp
    | 7, ho =>
      obtain rfl := Option.some.inj ho
      have y0 : y 3 = .int .i64 0 := hd ⟨3, .data⟩ (by simp) rfl
      refine ⟨.int .i64 0, ?_, rfl, rfl, hI⟩
      refine runWithP (fun z => match z with | .tmp 30 => y 3 | .const c => c | _ => undef) (by kernel_rfl) ?_
      rw [y0]
      go_simp
    | 8, ho =>
      obtain rfl := Option.some.inj ho
      have y0 : y 5 = .int .i64 5 := hd ⟨5, .data⟩ (by simp) rfl
      refine ⟨.int .i64 5, ?_, rfl, rfl, hI⟩
      refine runWithP (fun z => match z with | .tmp 32 => y 5 | .const c => c | _ => undef) (by kernel_rfl) ?_
      rw [y0]
      go_simp
    | j + 9, ho => cases ho
  · intro i' o hsrc ho M p y wx hd hi' hlat hI
    match i', hsrc, ho with
    | 0, hsrc, ho =>
      cases hsrc
    | 1, hsrc, ho =>
      obtain rfl := Option.some.inj ho
      have y0 : y 0 = .agg (kcs tA).toArray := (hd ⟨0, .data⟩ (by simp) rfl).2
      have h3 : M 3 = false := hlat 3 rfl
      rw [hi', h3] at hI
      refine slot_call #[.pointer (some ⟨g1, 0, none⟩), .agg (kcs tA).toArray, .int .i64 3] rfl Try.func14 (by kernel_rfl) (by kernel_rfl) (by simp [Act.eval, y0]) ?_
      refine (ql_add (W := waW false false) hI tA wf_tA 3 rfl).mono ?_
      rintro e w' ⟨rfl, hQ⟩
      exact ⟨_, rfl, _, (), rfl, congrArg (Value.int .i64) (show addR [] tA = 0 by decide), fun j q _ _ h => h, (by show QL w3 g1 (waW true (M 3)) w'; rw [h3]; exact hQ)⟩
    | 2, hsrc, ho =>
      cases hsrc
    | 3, hsrc, ho =>
      obtain rfl := Option.some.inj ho
      have y0 : y 2 = .agg (kcs tB).toArray := (hd ⟨2, .data⟩ (by simp) rfl).2
      have h1 := (hd ⟨1, .chain⟩ (by simp) rfl).1
      rw [h1, hi'] at hI
      refine slot_call #[.pointer (some ⟨g1, 0, none⟩), .agg (kcs tB).toArray, .int .i64 4] rfl Try.func14 (by kernel_rfl) (by kernel_rfl) (by simp [Act.eval, y0]) ?_
      refine (ql_add (W := waW true false) hI tB wf_tB 4 rfl).mono ?_
      rintro e w' ⟨rfl, hQ⟩
      exact ⟨_, rfl, _, (), rfl, congrArg (Value.int .i64) (show addR [(tA, 3)] tB = 0 by decide), fun j q _ _ h => h, (by show QL w3 g1 (waW (M 1) true) w'; rw [h1]; exact hQ)⟩
    | 4, hsrc, ho =>
      cases hsrc
    | 5, hsrc, ho =>
      obtain rfl := Option.some.inj ho
      have y0 : y 4 = .agg (kcs tA).toArray := (hd ⟨4, .data⟩ (by simp) rfl).2
      have h3 := (hd ⟨3, .chain⟩ (by simp) rfl).1
      rw [h3] at hI
      refine slot_call #[.pointer (some ⟨g1, 0, none⟩), .agg (kcs tA).toArray, .int .i64 5] rfl Try.func14 (by kernel_rfl) (by kernel_rfl) (by simp [Act.eval, y0]) ?_
      refine (ql_add (W := waW (M 1) true) hI tA wf_tA 5 rfl).mono ?_
      rintro e w' ⟨rfl, hQ⟩
      exact ⟨_, rfl, _, (), rfl, congrArg (Value.int .i64) (show addR [(tA, 3), (tB, 4)] tA = 5 by decide), fun j q _ _ h => h, (by show QL w3 g1 (waW (M 1) (M 3)) w'; rw [h3]; exact ((show addW (waW (M 1) true) tA 5 = waW (M 1) true by cases M 1 <;> rfl) ▸ hQ))⟩
    | 6, hsrc, ho =>
      cases hsrc
    | 7, hsrc, ho =>
      cases hsrc
    | 8, hsrc, ho =>
      cases hsrc
    | j + 9, hsrc, ho => cases ho
  · rintro M p y wx hall hI
    have y6 : y 6 = .int .i64 0 := (hall 6 (by decide)).2
    have y7 : y 7 = .int .i64 0 := (hall 7 (by decide)).2
    have y8 : y 8 = .int .i64 5 := (hall 8 (by decide)).2
    rw [(hall 1 (by decide)).1, (hall 3 (by decide)).1] at hI
    try dsimp only
    rw [y6, y7, y8]
    have Q6 := Lib.hid hI
    clear hI hall y6 y7 y8
    have FI := Lib.hid (ql_first (x := (tA, 3)) (W := [(tB, 4)]) Q6.out)
    go_upto_region 8 with (first
      | (with_reducible refine FI.out.mono ?_; rintro e w7 ⟨rfl, hq7, hb7⟩)
      | (with_reducible show wpList _ _ _ _ _ _; refine wpList_store_newW rfl 32 (.tmp 10) (.tmp 35) rfl 32 _ (kcs tA).toArray (by with_unfolding_all rfl) (by with_unfolding_all rfl) (SZ.out _) rfl (OK.out _) ?_))
    obtain ⟨w8, hw8⟩ : ∃ x, x = w7.alloc (.cells (kcs tA).toArray 32) := ⟨_, rfl⟩
    obtain ⟨g8, hg8⟩ : ∃ x, x = w7.heap.size := ⟨_, rfl⟩
    rw [← hw8, ← hg8]
    have b8 : Below w7.heap.size w7 w8 := by rw [hw8]; exact (Below.refl _ _).alloc (Nat.le_refl _) _
    have n8 : w8.heap[g8]? = some (.cells (kcs tA).toArray 32 (0, 0)) := by rw [hw8, hg8]; exact heap_alloc_new _ _
    have Q8 := Lib.hid (hq7.below b8)
    have N8 := Lib.hid n8
    have KB := box_at ((Q8.out.block LgB.out.1 LgB.out.2.1).trans LgB.out.2.2)
    have SI := Lib.hid (ql_since Q8.out tB wf_tB (s := 4) (by simp))
    clear hw8 hg8 b8 n8 hq7 hb7 FI
    go_upto_region 9 with (first
      | (with_reducible show wpList _ _ _ _ _ _; refine wpList_load_allW rfl 32 (.tmp 3) rfl ⟨gB, 0, none⟩ rfl (kcs tB) _ KB Try.underlying32 rfl (tkSize _) ?_)
      | (with_reducible refine SI.out.mono ?_; rintro e w9 ⟨rfl, hq9, hb9⟩))
    have KA := box_at ((hq9.block LgA.out.1 LgA.out.2.1).trans LgA.out.2.2)
    have K8 := box_at ((hb9.block g8 (lt_of_rowW N8.out)).trans N8.out)
    replace KB := box_at ((hq9.block LgB.out.1 LgB.out.2.1).trans LgB.out.2.2)
    have HS := Lib.hid (ql_has hq9 tB wf_tB)
    rw [show (keysT [(tA, 3), (tB, 4)]).contains tB = true by decide] at HS
    have hAA : decide (tA = tA) = true := by decide
    clear hq9 hb9 SI
    go_wp2_with (first
      | (with_reducible show wpList _ _ _ _ _ _; refine wpList_loadWanted (by kernel_rfl) 32 (.tmp 10) rfl ⟨g8, 0, none⟩ rfl (kcs tA) _ K8 Try.underlying32 rfl (tkSize _) ?_)
      | (with_reducible show wpList _ _ _ _ _ _; refine wpList_loadWanted (by kernel_rfl) 32 (.tmp 2) rfl ⟨gA, 0, none⟩ rfl (kcs tA) _ KA Try.underlying32 rfl (tkSize _) ?_)
      | (with_reducible show wpList _ _ _ _ _ _; refine wpList_loadWanted (by kernel_rfl) 32 (.tmp 3) rfl ⟨gB, 0, none⟩ rfl (kcs tB) _ KB Try.underlying32 rfl (tkSize _) ?_)
      | (with_reducible show wpList _ _ _ _ _ _; refine wpList_teql (by kernel_rfl) (.tmp 55) (.tmp 56) _ rfl tA tA rfl rfl ?_; rw [hAA])
      | (with_reducible refine HS.out.mono ?_; rintro e w10 ⟨rfl, hq10, hb10⟩; have LI := Lib.hid (ql_list hq10); clear hb10)
      | (with_reducible refine LI.out.mono ?_; rintro e w11 ⟨ao, c, rfl, ho, hq11, hb11⟩; clear ho hb11))
    go_ret
    exact ⟨rfl, hq11.low B03.out G1.out (Nat.le_refl _)⟩
end Go.Proofs.Ytjjmjbemflhlbaa.Qu
