/- The queue's first one. -/
import Derived.Test.YtjjmjbemflhlbaaN7
import Derived.Test.YtjjmjbemflhlbaaN9
namespace Go.Proofs.Ytjjmjbemflhlbaa.Qu
open Go Go.RowKit Go.Proofs.Ytjjmjbemflhlbaa
open Go.Proofs.Ytjjmjbemflhlbaa.Hp (K3 kv KLit wf3 i64wf kv_inj)
open Go.Proofs.Ytjjmjbemflhlbaa.Dk (Frm below_drewN Frm.of_below Frm.setCell Frm.refl Frm.drewN)
set_option linter.unusedVariables false
set_option linter.unusedSimpArgs false
set_option maxRecDepth 100000
theorem results_row_tmp2 {P : Program} {fn : Func} {p u1 u2 : Tmp} {ty : TypeId} (h : fn.results = #[.cell p ty, .tmp u1, .tmp u2]) (tmps : Array Value) (w : World) (g : Nat) (t : TypeId) (cs : List Value) (fr : Nat × Nat) (d : TypeDesc) (v1 v2 : Value)
    (hv1 : tmps.getD u1 undef = v1) (hv2 : tmps.getD u2 undef = v2) (hp : tmps.getD p undef = .pointer (some ⟨g, 0, none⟩)) (hg : w.heap[g]? = some (.cells cs.toArray t fr)) (hu : P.underlying ty = some d) (hd : d.isRow = true) (hi : (P.info? ty).map (·.size) = some cs.length) :
    (results fn tmps).run P w = .ok (.tuple #[.agg cs.toArray, v1, v2]) w := by
  have hp' : tmps[p]?.getD undef = .pointer (some ⟨g, 0, none⟩) := by simpa using hp
  have hv1' : tmps[u1]?.getD undef = v1 := by simpa using hv1
  have hv2' : tmps[u2]?.getD undef = v2 := by simpa using hv2
  have hl := run_loadVar_mid (P := P) w g 0 ty cs d (fun j u hu => by
    rw [Nat.zero_add, cell_of_row w g j _ _ _ hg]
    simpa using hu) hu hd hi
  simp [results, h, hp', hv1', hv2', asAddr, hl]
variable {w : World} {b o : Nat} {R : Array Value} {ty : TypeId} {mo : Option Nat} {L : List Lk}
def k0 : K3 := (0, 0, 0)
theorem kcs_one (k : K3) : (kcs k).toArray.all (·.oneCell') = true := by simp [kcs, Value.oneCell']
theorem wcs_one (k : K3) (s : Int) : (wcs k s).toArray.all (·.oneCell') = true := by simp [wcs, Value.oneCell']
theorem below_setRowK {B : Nat} {w w1 : World} {g : Nat} (h : Below B w w1) (hg : B ≤ g) (cs : Array Value) : Below B w (w1.setRow g cs) :=
  ⟨h.os, h.tape, h.output, by simpa using h.size, fun k hk => (setRow_other w1 g k cs (by omega)).trans (h.block k hk)⟩
theorem qfirst_nil (h : CAt w b o R ty mo []) : Calls Try.prog 23 #[.pointer (some ⟨b, o, none⟩)] w fun e w' => e = .returned (.tuple #[.agg (kcs k0).toArray, .int .i64 0, .bool false]) ∧ Below w.heap.size w w' := by
  obtain ⟨w2, hw2⟩ : ∃ w2, w2 = w.alloc (.cells (kcs k0).toArray 32) := ⟨_, rfl⟩
  obtain ⟨g, hg⟩ : ∃ g, g = w.heap.size := ⟨_, rfl⟩
  have b2 : Below w.heap.size w w2 := by rw [hw2]; exact (Below.refl _ _).alloc (Nat.le_refl _) _
  have n2 : w2.heap[g]? = some (.cells (kcs k0).toArray 32 (0, 0)) := by rw [hw2, hg]; exact heap_alloc_new _ _
  obtain ⟨c0, c1, c2, f0, f1, f2⟩ := (h.row.keep (b2.block b h.row.lt)).cells
  replace c0 : w2.cell? ⟨b, o, none⟩ = some (.pointer none) := c0
  have SZ := Lib.hid (show (Try.prog.info? 32).map (·.size) = some (kcs k0).toArray.size by kernel_rfl)
  have B2 := Lib.hid b2
  have N2 := Lib.hid n2
  have HW2 := Lib.hid hw2
  have HG := Lib.hid hg
  clear h b2 n2 hw2 hg c1 c2 f0 f1 f2
  go_enter Try.func23, Try.ntmps23
  go_upto_region 1 with fail
  rw [show (#[.int .i64 0, .int .i64 0, .int .i64 0] : Array Value) = (kcs k0).toArray from rfl, ← HW2.out, ← HG.out]
  go_wp2_with (with_reducible show wpList _ _ _ _ _ _; refine wpList_store_whole rfl 32 (.tmp 2) (.tmp 12) rfl g 32 _ (kcs k0).toArray (by with_unfolding_all rfl) (by with_unfolding_all rfl) N2.out SZ.out rfl (by kernel_rfl) ?_)
  refine bodyPost_ret (results_row_tmp2 rfl _ _ g 32 (kcs k0) (0, 0) _ _ _ rfl rfl rfl (setRow_heap _ g _ _ _ _ N2.out) Try.underlying32 rfl SZ.out) rfl ?_
  exact ⟨rfl, below_setRowK B2.out (Nat.le_of_eq HG.out.symm) _⟩
theorem qfirst_cons {x : Lk} (h : CAt w b o R ty mo (x :: L)) : Calls Try.prog 23 #[.pointer (some ⟨b, o, none⟩)] w fun e w' => e = .returned (.tuple #[.agg (kcs x.key).toArray, .int .i64 x.since, .bool true]) ∧ Below w.heap.size w w' := by
  obtain ⟨w2, hw2⟩ : ∃ w2, w2 = w.alloc (.cells (kcs k0).toArray 32) := ⟨_, rfl⟩
  obtain ⟨g, hg⟩ : ∃ g, g = w.heap.size := ⟨_, rfl⟩
  have b2 : Below w.heap.size w w2 := by rw [hw2]; exact (Below.refl _ _).alloc (Nat.le_refl _) _
  have n2 : w2.heap[g]? = some (.cells (kcs k0).toArray 32 (0, 0)) := by rw [hw2, hg]; exact heap_alloc_new _ _
  obtain ⟨c0, c1, c2, f0, f1, f2⟩ := (h.row.keep (b2.block b h.row.lt)).cells
  obtain ⟨a, ha⟩ : ∃ a, a = x.ad := ⟨_, rfl⟩
  replace c0 : w2.cell? ⟨b, o, none⟩ = some (.pointer (some ⟨a, 0, none⟩)) := by rw [ha]; exact c0
  have KX : ∀ j v, (wcs x.key x.since)[j]? = some v → w2.cell? ((⟨a, 0, none⟩ : Addr).add j) = some v := by
    intro j v hj
    have hx := (b2.block x.ad (h.chain.lt x (by simp))).trans h.chain.1
    rw [Addr.add_mid, Nat.zero_add, ha, cell_of_row w2 x.ad j _ _ _ hx]
    match j, hj with
    | 0, hj => exact hj
    | 1, hj => exact hj
    | 2, hj => exact hj
    | 3, hj => exact hj
    | k + 4, hj => simp [wcs] at hj
  obtain ⟨w3, hw3⟩ : ∃ w3, w3 = w2.alloc (.cells (wcs x.key x.since).toArray 112) := ⟨_, rfl⟩
  obtain ⟨g3, hg3⟩ : ∃ g, g = w2.heap.size := ⟨_, rfl⟩
  have b3 : Below w2.heap.size w2 w3 := by rw [hw3]; exact (Below.refl _ _).alloc (Nat.le_refl _) _
  have n3 : w3.heap[g]? = some (.cells (kcs k0).toArray 32 (0, 0)) := (b3.block g (lt_of_rowW n2)).trans n2
  have r3 : w3.heap[g3]? = some (.cells (wcs x.key x.since).toArray 112 (0, 0)) := by rw [hw3, hg3]; exact heap_alloc_new _ _
  have s3 : w3.cell? ⟨g3, 3, none⟩ = some (.int .i64 x.since) := by rw [cell_of_row w3 g3 3 _ _ _ r3]; rfl
  have K3 : ∀ j v, (kcs x.key)[j]? = some v → w3.cell? ((⟨g3, 0, none⟩ : Addr).add j) = some v := by
    intro j v hj
    rw [Addr.add_mid, Nat.zero_add, cell_of_row w3 g3 j _ _ _ r3]
    match j, hj with
    | 0, hj => exact hj
    | 1, hj => exact hj
    | 2, hj => exact hj
    | k + 3, hj => simp [kcs] at hj
  have SZ := Lib.hid (show (Try.prog.info? 32).map (·.size) = some (kcs x.key).toArray.size by kernel_rfl)
  have SW := Lib.hid (show (Try.prog.info? 112).map (·.size) = some (wcs x.key x.since).toArray.size by kernel_rfl)
  have OW := Lib.hid (wcs_one x.key x.since)
  have OK := Lib.hid (kcs_one x.key)
  have B3 := Lib.hid (b2.trans (b3.mono b2.size))
  have N3 := Lib.hid n3
  have HW2 := Lib.hid hw2
  have HG := Lib.hid hg
  have HW3 := Lib.hid hw3
  have HG3 := Lib.hid hg3
  have NGG := Lib.hid (show g3 ≠ g from fun e => by have := lt_of_rowW n2; omega)
  clear h b2 n2 hw2 hg c1 c2 f0 f1 f2 hw3 hg3 b3 n3 r3 ha
  go_enter Try.func23, Try.ntmps23
  go_upto_region 1 with fail
  rw [show (#[.int .i64 0, .int .i64 0, .int .i64 0] : Array Value) = (kcs k0).toArray from rfl, ← HW2.out, ← HG.out]
  go_upto_region 4 with (first
    | (with_reducible show wpList _ _ _ _ _ _; refine wpList_load_allW rfl 112 (.tmp 19) rfl ⟨a, 0, none⟩ rfl (wcs x.key x.since) _ KX Try.underlying112 rfl (wtSize _ _) ?_)
    | (with_reducible show wpList _ _ _ _ _ _; refine wpList_store_newW rfl 112 (.tmp 5) (.tmp 20) rfl 112 _ (wcs x.key x.since).toArray (by with_unfolding_all rfl) (by with_unfolding_all rfl) SW.out rfl OW.out ?_))
  rw [← HW3.out, ← HG3.out]
  simp only [Act.put, List.setIfInBounds_toArray, List.set_cons_zero, List.set_cons_succ, List.getElem_toArray, List.getElem_cons_zero, List.getElem_cons_succ]
  have KF := Lib.hid (fun (u : World) (hu : u.heap[g3]? = w3.heap[g3]? ∧ Below w.heap.size w u) => show ∀ j v, (kcs x.key)[j]? = some v → u.cell? ((⟨g3, 0, none⟩ : Addr).add j) = some v from fun j v hj => by
    have := K3 j v hj
    rw [Addr.add_mid] at this ⊢
    rwa [World.cell?_of_block (w := w3) (a := ⟨g3, 0 + j, none⟩) hu.1])
  have SF := Lib.hid (fun (u : World) (hu : u.heap[g3]? = w3.heap[g3]? ∧ Below w.heap.size w u) => show u.cell? ⟨g3, 3, none⟩ = some (.int .i64 x.since) from by rw [World.cell?_of_block (w := w3) (a := ⟨g3, 3, none⟩) hu.1]; exact s3)
  have NG := Lib.hid (show g3 ≠ g from NGG.out)
  clear s3 K3 KX c0
  refine wp_region_par (α := Unit) (by kernel_rfl) (by kernel_rfl) (by kernel_rfl) (fun y => ⟨#[Value.pointer (some { block := b, off := o }), undef, Value.pointer (some { block := g, off := 0 }), y 5, y 6, Value.pointer (some { block := g3, off := 0 }), Value.pointer (some { block := b, off := o }), Value.pointer (some { block := b, off := o }), Value.pointer (some { block := b, off := o }), Value.pointer (some { block := b, off := o }), Value.pointer (some { block := a, off := 0 }), Value.bool false, undef, Value.pointer (some { block := b, off := o }), Value.pointer (some { block := b, off := o }), Value.pointer (some { block := b, off := o }), Value.pointer (some { block := b, off := o }), Value.pointer (some { block := a, off := 0 }), Value.pointer (some { block := a, off := 0 }), Value.pointer (some { block := a, off := 0 }), Value.agg (wcs x.key x.since).toArray, y 0, y 1, y 2, y 3], []⟩) (fun p j q => match j with | 0 => q = .pointer (some ⟨g3, 0, none⟩) | 1 => q = .agg (kcs x.key).toArray | 2 => q = .pointer (some ⟨g3, 3, none⟩) | 3 => q = .int .i64 x.since | 5 => q = .int .i64 x.since | 6 => q = .bool true | _ => True) (fun M p wx => (M 4 = true → wx.heap[g]? = some (.cells (kcs x.key).toArray 32 (0, 0))) ∧ (M 4 = false → wx.heap[g]? = some (.cells (kcs k0).toArray 32 (0, 0))) ∧ (wx.heap[g3]? = w3.heap[g3]? ∧ Below w.heap.size w wx)) (fun i => [4].contains i) (fun i j => decide (4 < j)) (parOk_spec (by kernel_rfl)) ?_ ?_ ?_ (fun k => match k with | 5 => .int .i64 0 | 6 => .bool false | _ => undef) () rfl ⟨(fun h => by cases h), (fun _ => N3.out), rfl, below_drewN B3.out 1⟩
  · intro i' o hsrc ho M p y wx hd hi' hI
    match i', ho with
    | 0, ho =>
      obtain rfl := Option.some.inj ho
      refine ⟨.pointer (some ⟨g3, 0, none⟩), ?_, rfl, rfl, hI⟩
      refine runWithP (fun z => match z with  | .tmp 5 => Value.pointer (some { block := g3, off := 0 }) | .const c => c | _ => undef) (by kernel_rfl) ?_
      go_simp
    | 1, ho =>
      obtain rfl := Option.some.inj ho
      have y0 : y 0 = .pointer (some ⟨g3, 0, none⟩) := hd ⟨0, .data⟩ (by simp) rfl
      exact ⟨.agg (kcs x.key).toArray, run_loadP 32 (.tmp 21) rfl ⟨g3, 0, none⟩ (by exact y0) (kcs x.key) _ (KF.out wx hI.2.2) Try.underlying32 rfl (tkSize _), rfl, rfl, hI⟩
    | 2, ho =>
      obtain rfl := Option.some.inj ho
      refine ⟨.pointer (some ⟨g3, 3, none⟩), ?_, rfl, rfl, hI⟩
      refine runWithP (fun z => match z with  | .tmp 5 => Value.pointer (some { block := g3, off := 0 }) | .const c => c | _ => undef) (by kernel_rfl) ?_
      go_simp
    | 3, ho =>
      obtain rfl := Option.some.inj ho
      have y0 : y 2 = .pointer (some ⟨g3, 3, none⟩) := hd ⟨2, .data⟩ (by simp) rfl
      have cx : wx.cell? ⟨g3, 3, none⟩ = some (.int .i64 x.since) := SF.out wx hI.2.2
      refine ⟨.int .i64 x.since, ?_, rfl, rfl, hI⟩
      refine runWithP (fun z => match z with | .tmp 23 => y 2 | .const c => c | _ => undef) (by kernel_rfl) ?_
      rw [y0]
      go_simp
    | 4, ho =>
      obtain rfl := Option.some.inj ho
      cases hsrc
    | 5, ho =>
      obtain rfl := Option.some.inj ho
      have y0 : y 3 = .int .i64 x.since := hd ⟨3, .data⟩ (by simp) rfl
      refine ⟨.int .i64 x.since, ?_, rfl, rfl, hI⟩
      refine runWithP (fun z => match z with | .tmp 24 => y 3 | .const c => c | _ => undef) (by kernel_rfl) ?_
      rw [y0]
      go_simp
    | 6, ho =>
      obtain rfl := Option.some.inj ho
      exact ⟨.bool true, rfl, rfl, rfl, hI⟩
    | j + 7, ho => cases ho
  · intro i' o hsrc ho M p y wx hd hi' hlat hI
    obtain rfl : i' = 4 := by simpa using hsrc
    obtain rfl := Option.some.inj ho
    have y1 : y 1 = .agg (kcs x.key).toArray := (hd ⟨1, .data⟩ (by simp) rfl).2
    refine slot_storeP 32 (.tmp 2) (.tmp 22) rfl g 32 (kcs k0).toArray (kcs x.key).toArray rfl y1 (hI.2.1 hi') SZ.out rfl OK.out ?_
    exact ⟨undef, (), rfl, trivial, fun j q _ _ h => h, fun _ => setRow_heap _ g _ _ _ _ (hI.2.1 hi'), (fun h => by cases h), (setRow_other _ _ _ _ NG.out).trans hI.2.2.1, below_setRowK hI.2.2.2 (Nat.le_of_eq HG.out.symm) _⟩
  · rintro M p y wx hall hI
    have y5 : y 5 = .int .i64 x.since := (hall 5 (by decide)).2
    have y6 : y 6 = .bool true := (hall 6 (by decide)).2
    try dsimp only
    rw [y5, y6]
    have N4 := Lib.hid (hI.1 (hall 4 (by decide)).1)
    have B4 := Lib.hid hI.2.2.2
    clear hI hall y5 y6
    go_wp2_with fail
    refine bodyPost_ret (results_row_tmp2 rfl _ _ g 32 (kcs x.key) (0, 0) _ _ _ rfl rfl rfl N4.out Try.underlying32 rfl SZ.out) rfl ?_
    exact ⟨rfl, B4.out⟩
end Go.Proofs.Ytjjmjbemflhlbaa.Qu
