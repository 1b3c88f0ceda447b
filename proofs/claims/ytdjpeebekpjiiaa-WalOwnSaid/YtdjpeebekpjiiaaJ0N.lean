/- A mark is durable on its sector. -/
import Derived.Test.YtdjpeebekpjiiaaJ0M
import Derived.Test.YtdjpeebekpjiiaaJ0C
namespace Go.Proofs.Ytdjpeebekpjiiaa.Dk
open Go Go.RowKit
set_option linter.unusedVariables false
set_option linter.unusedSimpArgs false

/-- On which sector a mark stands. -/
def MkD.at_ (mk : MkD) (first : Nat) : Int := ((first + mk.seq % 2 : Nat) : Int)
/-- What it is to write a mark: what is answered, and the disk then. -/
def DS.mark (x : DS) (first : Nat) (mk : MkD) : Int × DS :=
  if x.wcode (mk.at_ first) 128 = 0 then ((x.write (mk.at_ first) (layM mk)).fcode, (x.write (mk.at_ first) (layM mk)).flush) else (x.wcode (mk.at_ first) 128, x.write (mk.at_ first) (layM mk))
/-- What the operations of the second region leave in their slots. -/
def wrF (d first g7 : Nat) (mk : MkD) (c : Int) (j : Nat) (v : Value) (_ : World) : Prop := match j with
  | 0 => v = .pointer (some ⟨d, 0, none⟩)
  | 1 => v = .int .i64 (first : Int)
  | 2 => v = .agg mk.cells.toArray
  | 3 => v = .int .i64 ((mk.seq % 2 : Nat) : Int)
  | 4 => v = .int .i64 (mk.at_ first)
  | 5 => v = .slice (some ⟨g7, 0, none⟩) 128 128
  | 6 | 7 => v = .int .i64 c
  | _ => True
structure WrSt (w0 : World) (d g m n : Nat) (x y : DS) (l6 : Bool) (w : World) : Prop where
  frm : Frm (own3 d g m) w0 w
  disk : if l6 then DiskAt Try.prog w d g m (n + 1) y else DiskAt Try.prog w d g m n x
theorem wrapEq64 (x : Int) : IntKind.i64.wrap x = wrap64 x := by rw [IntKind.wrap_i64]; unfold wrap64; rfl
theorem WrSt.keep {w0 w w' : World} {d g m n : Nat} {x y : DS} {b : Bool} (h : WrSt w0 d g m n x y b w) (hb : Below w.heap.size w w') : WrSt w0 d g m n x y b w' := by
  refine ⟨h.frm.thenBelow hb (Nat.le_refl _), ?_⟩
  have := h.disk
  cases b
  · exact DiskAt.below (by simpa using this) hb (Nat.le_refl _)
  · exact DiskAt.below (by simpa using this) hb (Nat.le_refl _)
theorem hin_write {x : DS} (hin : ∀ i l, wfi i → x.S i = some l → x.has i = true) (j : Int) (b : List UInt8) : ∀ i l, wfi i → (x.write j b).S i = some l → (x.write j b).has i = true := by
  intro i l hw h
  unfold DS.write at h ⊢
  by_cases h1 : x.down = true
  · simp only [h1, if_true] at h ⊢; exact hin i l hw h
  · rw [if_neg h1] at h ⊢
    by_cases h2 : x.has j = false
    · simp only [h2, if_true] at h ⊢; exact hin i l hw h
    · rw [if_neg h2] at h ⊢
      by_cases h3 : 128 < b.length
      · simp only [h3, if_true] at h ⊢; exact hin i l hw h
      · rw [if_neg h3] at h ⊢
        by_cases h4 : b.length < 128
        · simp only [h4, if_true] at h ⊢; exact hin i l hw h
        · rw [if_neg h4] at h ⊢
          have e1 : x.spend.S = x.S := by unfold DS.spend; (repeat' split) <;> rfl
          have e2 : x.spend.s = x.s := by unfold DS.spend; (repeat' split) <;> rfl
          by_cases h5 : x.fuse = 0
          · simp only [h5, if_true] at h ⊢
            rw [e1] at h
            have := hin i l hw h
            unfold DS.has at this ⊢
            rw [e2]
            exact this
          · rw [if_neg h5] at h ⊢
            have hh : x.has i = true := by
              by_cases h6 : i = j
              · subst h6
                cases hb : x.has i with
                | false => exact absurd hb h2
                | true => rfl
              · simp only [upd, h6, if_false] at h
                exact hin i l hw h
            unfold DS.has at hh ⊢
            dsimp only
            rw [e2]
            exact hh
variable {w : World} {d g m n : Nat} {x : DS}
set_option maxRecDepth 100000 in
set_option maxHeartbeats 4000000 in
theorem kwrite_any (h : DiskAt Try.prog w d g m n x) (hn : n < maxLen) (hin : ∀ i l, wfi i → x.S i = some l → x.has i = true) (first : Nat) (hr : first + 2 ≤ x.s.length) (mk : MkD) (hmk : mk.Ok) :
    Calls Try.prog 90 #[.pointer (some ⟨d, 0, none⟩), .int .i64 (first : Int), .agg mk.cells.toArray] w fun e w' => e = .returned (.int .i64 (x.mark first mk).1) ∧ DiskAt Try.prog w' d g m (n + 1) (x.mark first mk).2 ∧ Frm (own3 d g m) w w' := by
  have hfw := h.few
  have hb1 : Below w.heap.size w (w.alloc (.cells mk.cells.toArray 88)) := (Below.refl _ _).alloc (Nat.le_refl _) _
  have hr1 : (w.alloc (.cells mk.cells.toArray 88)).heap[w.heap.size]? = some (.cells mk.cells.toArray 88 (0, 0)) := heap_alloc_new _ _
  have HR1 := Lib.hid hr1
  have HB1 := Lib.hid hb1
  have H := Lib.hid h
  have HSM := Lib.hid (Try.markSize hmk)
  have HOK := Lib.hid hmk
  have LY := Lib.hid (lay_any mk hmk (w.alloc (.cells mk.cells.toArray 88)))
  have hll := layM_length (m := mk) hmk.len
  have HLL := Lib.hid hll
  have HSZ2 := Lib.hid (show (Try.prog.info? 125).map (·.size) = some (bvs (layM mk)).toArray.size by rw [List.size_toArray, bvs_length, hll]; kernel_rfl)
  have HSO := Lib.hid (show Try.zeroCells125.size = (bvs (layM mk)).toArray.size by rw [Try.zeroM, List.size_toArray, bvs_length, hll])
  clear h hb1 hr1 hll
  go_enter Try.func90, Try.ntmps90
  go_wp2_with (with_reducible show wpList _ _ _ _ _ _; refine wpList_load_all rfl 88 (.tmp 5) rfl ⟨w.heap.size, 0, none⟩ rfl mk.cells _ (cells_row HR1.out) Try.underlying88 rfl HSM.out ?_)
  refine LY.out.mono ?_
  rintro e w2 ⟨rfl, hb2⟩
  have HB2 := Lib.hid (HB1.out.trans (hb2.mono HB1.out.size))
  have HR2 := Lib.hid ((hb2.block _ (lt_of_row HR1.out)).trans HR1.out)
  clear hb2 LY
  go_wp2_with (with_reducible show wpList _ _ _ _ _ _; refine wpList_store_new rfl 125 (.tmp 7) (.tmp 10) rfl 125 Try.zeroCells125 (bvs (layM mk)).toArray rfl rfl HSZ2.out HSO.out (all_bvs _) ?_)
  obtain ⟨g7, hg7⟩ : ∃ g7, g7 = w2.heap.size := ⟨_, rfl⟩
  obtain ⟨w3, hw3⟩ : ∃ w3, w3 = w2.alloc (.cells (bvs (layM mk)).toArray 125) := ⟨_, rfl⟩
  rw [← hg7, ← hw3]
  have hr7 : w3.heap[g7]? = some (.cells (bvs (layM mk)).toArray 125 (0, 0)) := by rw [hw3, hg7]; exact heap_alloc_new _ _
  have b3 : Below w2.heap.size w2 w3 := by rw [hw3]; exact (Below.refl _ _).alloc (Nat.le_refl _) _
  have b03 : Below w.heap.size w w3 := HB2.out.trans (b3.mono HB2.out.size)
  have hr5 := (b3.block _ (lt_of_row HR2.out)).trans HR2.out
  have hD3 := H.out.below b03 (Nat.le_refl _)
  have hz : w.heap.size ≤ g7 := by rw [hg7]; exact HB2.out.size
  have ho5 : ¬ own3 d g m w.heap.size := fun e => by have h1 := H.out.dlt; have h2 := H.out.glt; have h3 := H.out.mlt; rcases e with e | e | e <;> omega
  have ho7 : ¬ own3 d g m g7 := fun e => by have h1 := H.out.dlt; have h2 := H.out.glt; have h3 := H.out.mlt; rcases e with e | e | e <;> omega
  obtain ⟨c, hc⟩ : ∃ c, c = x.wcode (mk.at_ first) 128 := ⟨_, rfl⟩
  obtain ⟨y, hy⟩ : ∃ y, y = x.write (mk.at_ first) (layM mk) := ⟨_, rfl⟩
  have hmod : mk.seq % 2 < 2 := Nat.mod_lt _ (by decide)
  have hat : wrap64 ((first : Int) + ((mk.seq % 2 : Nat) : Int)) = mk.at_ first := by unfold wrap64 MkD.at_; omega
  have hwat : wfi (mk.at_ first) := WalkArith.wf_i64 (by unfold MkD.at_; omega)
  have HC := Lib.hid hc
  have HY := Lib.hid hy
  have HAT := Lib.hid hat
  have HB03 := Lib.hid b03
  clear b3 hc hy hg7 hw3 HB2 HR1 HR2 HB1 hat
  refine wp_region_slots (by kernel_rfl) (by kernel_rfl)
    (fun z => ⟨#[.pointer (some ⟨d, 0, none⟩), .int .i64 (first : Int), .agg mk.cells.toArray, undef, undef, .pointer (some ⟨w.heap.size, 0, none⟩), .int .i64 0, .pointer (some ⟨g7, 0, none⟩), z 7, .agg mk.cells.toArray, .agg (bvs (layM mk)).toArray, z 0, z 1, z 2, z 3, z 4, z 5, z 6, undef, undef, undef, undef, undef], []⟩)
    (wrF d first g7 mk c) (fun L w' => WrSt w3 d g m n x y (L 6) w') (fun _ _ => True) (fun _ _ _ _ _ h => h) ?_ ?_ (fun _ => undef) rfl ?_
  · intro i' o ho L z wx hd hi' hx hs
    match i', ho with
    | 0, ho =>
      obtain rfl := Option.some.inj ho
      exact slot_run rfl ⟨_, rfl, trivial, rfl, hs⟩
    | 1, ho =>
      obtain rfl := Option.some.inj ho
      exact slot_run rfl ⟨_, rfl, trivial, rfl, hs⟩
    | 2, ho =>
      obtain rfl := Option.some.inj ho
      exact slot_load 88 (.tmp 5) rfl ⟨w.heap.size, 0, none⟩ rfl mk.cells _ (cells_row ((hs.frm.block _ (lt_of_row hr5) ho5).trans hr5)) Try.underlying88 rfl HSM.out ⟨_, rfl, trivial, rfl, hs⟩
    | 3, ho =>
      obtain rfl := Option.some.inj ho
      have z2 : z 2 = .agg mk.cells.toArray := hx 2 (hd ⟨2, .data⟩ (by simp) rfl)
      refine slot_call #[.agg mk.cells.toArray] rfl Try.func77 (by kernel_rfl) (by kernel_rfl) (by simp [Act.eval, z2]) ?_
      refine (place_any mk HOK.out wx).mono ?_
      rintro e w' ⟨rfl, hb⟩
      exact ⟨_, rfl, _, rfl, trivial, rfl, hs.keep hb⟩
    | 4, ho =>
      obtain rfl := Option.some.inj ho
      have z1 : z 1 = .int .i64 (first : Int) := hx 1 (hd ⟨1, .data⟩ (by simp) rfl)
      have z3 : z 3 = .int .i64 ((mk.seq % 2 : Nat) : Int) := hx 3 (hd ⟨3, .data⟩ (by simp) rfl)
      refine slot_run (v := .int .i64 (mk.at_ first)) (w' := wx) ?_ ⟨_, rfl, trivial, rfl, hs⟩
      refine runWith (fun q => match q with | .tmp 12 => z 1 | _ => z 3) (by kernel_rfl) ?_
      rw [z1, z3, ← HAT.out]
      go_simp
      exact wrapEq64 _
    | 5, ho =>
      obtain rfl := Option.some.inj ho
      exact slot_run (v := .slice (some ⟨g7, 0, none⟩) 128 128) (w' := wx) (by kernel_rfl) ⟨_, rfl, trivial, rfl, hs⟩
    | 6, ho =>
      obtain rfl := Option.some.inj ho
      have z0 : z 0 = .pointer (some ⟨d, 0, none⟩) := hx 0 (hd ⟨0, .data⟩ (by simp) rfl)
      have z4 : z 4 = .int .i64 (mk.at_ first) := hx 4 (hd ⟨4, .data⟩ (by simp) rfl)
      have z5 : z 5 = .slice (some ⟨g7, 0, none⟩) 128 128 := hx 5 (hd ⟨5, .data⟩ (by simp) rfl)
      have hdk := hs.disk
      rw [hi', if_neg (by decide)] at hdk
      refine slot_call #[.pointer (some ⟨d, 0, none⟩), .int .i64 (mk.at_ first), .slice (some ⟨g7, 0, none⟩) 128 128] rfl Try.func103 (by kernel_rfl) (by kernel_rfl) (by simp [Act.eval, z0, z4, z5]) ?_
      refine (write_own hdk hn (mk.at_ first) hwat (l := layM mk) (t := 125) ⟨g7, rfl, (hs.frm.block _ (lt_of_row hr7) ho7).trans hr7, HLL.out, ho7⟩).mono ?_
      rintro e w' ⟨rfl, hD', hF'⟩
      rw [← HC.out]
      rw [← HY.out] at hD'
      exact ⟨_, rfl, _, rfl, trivial, rfl, ⟨hs.frm.trans hF', hD'⟩⟩
    | 7, ho =>
      obtain rfl := Option.some.inj ho
      have z6 : z 6 = .int .i64 c := hx 6 (hd ⟨6, .data⟩ (by simp) rfl)
      exact slot_run rfl ⟨_, rfl, trivial, z6, hs⟩
    | k + 8, ho => simp at ho
  · intro L z wx hall hx hs
    have z7 : z 7 = .int .i64 c := hx 7 (hall 7 (by decide))
    rw [z7]
    have hdk := hs.disk
    rw [hall 6 (by decide), if_pos rfl] at hdk
    have HF := Lib.hid ((Frm.of_below (T := own3 d g m) HB03.out (Nat.le_refl _)).trans hs.frm)
    have HDK := Lib.hid hdk
    have FL := Lib.hid (flush_any hdk (by rw [HY.out]; exact hin_write hin _ _))
    clear hall hx hs z7 hdk
    have HMK := Lib.hid (show x.mark first mk = if c = 0 then (y.fcode, y.flush) else (c, y) by unfold DS.mark; rw [← HC.out, ← HY.out])
    by_cases hc0 : c = 0
    · go_wp2_with fail
      refine FL.out.mono ?_
      rintro e w' ⟨rfl, hD', hF'⟩
      have HD' := Lib.hid hD'
      have HF' := Lib.hid hF'
      clear hD' hF'
      go_wp2_with fail
      go_ret
      rw [HMK.out, if_pos hc0]
      exact ⟨rfl, HD'.out, HF.out.trans HF'.out⟩
    · go_wp2_with fail
      go_ret
      rw [HMK.out, if_neg hc0]
      exact ⟨rfl, HDK.out, HF.out⟩
  · exact ⟨(Frm.refl _ _).drew, hD3.keep rfl rfl rfl⟩
end Go.Proofs.Ytdjpeebekpjiiaa.Dk
/- Get: the last mark of two sectors. -/
namespace Go.Proofs.Ytdjpeebekpjiiaa.Dk
open Go Go.RowKit
set_option linter.unusedVariables false
set_option linter.unusedSimpArgs false
variable {w : World} {d g m n : Nat} {x : DS}
/-- The last mark on two sectors of a disk that is up. -/
def DS.lastMark (x : DS) (first : Nat) : MkD := lastM (x.read (first : Int)).1 (x.read ((first + 1 : Nat) : Int)).1 2
theorem Try.zeroP7 : (#[Value.int .u64 0, .int .u64 0, .int .u64 0, .int .u64 0, .int .u64 0, .int .u64 0, .int .u64 0] : Array Value) = noM.cells.toArray := by kernel_rfl
set_option maxRecDepth 100000 in
set_option maxHeartbeats 4000000 in
theorem get_ok (h : DiskAt Try.prog w d g m n x) (first : Nat) (hr : first + 2 ≤ x.s.length) (hdn : x.down = false) :
    Calls Try.prog 32 #[.pointer (some ⟨d, 0, none⟩), .int .i64 (first : Int)] w fun e w' => e = .returned (.tuple #[.agg (if 0 < (x.lastMark first).seq then x.lastMark first else noM).cells.toArray, .int .i64 (if 0 < (x.lastMark first).seq then 0 else 4)]) ∧ Below w.heap.size w w' := by
  have hb1 : Below w.heap.size w (w.alloc (.cells noM.cells.toArray 88)) := (Below.refl _ _).alloc (Nat.le_refl _) _
  have hr1 : (w.alloc (.cells noM.cells.toArray 88)).heap[w.heap.size]? = some (.cells noM.cells.toArray 88 (0, 0)) := heap_alloc_new _ _
  have RP := Lib.hid (readPair_ok (h.below hb1 (Nat.le_refl _)) first hr hdn)
  obtain ⟨w1, hw1⟩ : ∃ w1, w1 = w.alloc (.cells noM.cells.toArray 88) := ⟨_, rfl⟩
  rw [← hw1] at RP hb1 hr1
  have HW1 := Lib.hid hw1
  have HB1 := Lib.hid hb1
  have HR1 := Lib.hid hr1
  clear hw1 hb1 hr1 h
  go_enter Try.func32, Try.ntmps32
  go_wp2_with fail
  rw [Try.zeroP7, ← HW1.out]
  refine RP.out.mono ?_
  rintro e w2 ⟨a, b, ha, hb, la, lb, rfl, hb2⟩
  have HA := Lib.hid ha
  have HBB := Lib.hid hb
  have HLA := Lib.hid la
  have HLB := Lib.hid lb
  have HSZ := Lib.hid (show (Try.prog.info? 127).map (·.size) = some (bvs a ++ bvs b).toArray.size by rw [Try.pairSize]; simp [la, lb, bvs_length])
  have HSO := Lib.hid (show Try.zeroCells127.size = (bvs a ++ bvs b).toArray.size by rw [Try.zeroPSize]; simp [la, lb, bvs_length])
  have H1 := Lib.hid (show (bvs a ++ bvs b).toArray.all (·.oneCell') = true from all_oneCell_toArray (fun u hu => by rcases List.mem_append.1 hu with h | h; exact bvs_one _ u h; exact bvs_one _ u h))
  have HB2 := Lib.hid (HB1.out.trans (hb2.mono HB1.out.size))
  have HR2 := Lib.hid ((hb2.block _ (lt_of_row HR1.out)).trans HR1.out)
  clear ha hb la lb hb2 RP
  go_wp2_with (with_reducible show wpList _ _ _ _ _ _; refine wpList_store_new rfl 127 (.tmp 6) (.tmp 14) rfl 127 Try.zeroCells127 (bvs a ++ bvs b).toArray rfl rfl HSZ.out HSO.out H1.out ?_)
  obtain ⟨g6, hg6⟩ : ∃ g6, g6 = w2.heap.size := ⟨_, rfl⟩
  obtain ⟨w3, hw3⟩ : ∃ w3, w3 = w2.alloc (.cells (bvs a ++ bvs b).toArray 127) := ⟨_, rfl⟩
  rw [← hg6, ← hw3]
  have hr6 : w3.heap[g6]? = some (.cells (bvs a ++ bvs b).toArray 127 (0, 0)) := by rw [hw3, hg6]; exact heap_alloc_new _ _
  have b3 : Below w2.heap.size w2 w3 := by rw [hw3]; exact (Below.refl _ _).alloc (Nat.le_refl _) _
  have LA := Lib.hid (last_any (w := w3) (g := g6) (a := a) (b := b) ⟨hr6, HLA.out, HLB.out⟩)
  have HB3 := Lib.hid (HB2.out.trans (b3.mono HB2.out.size))
  have HR3 := Lib.hid ((b3.block _ (lt_of_row HR2.out)).trans HR2.out)
  obtain ⟨lm, hlm⟩ : ∃ lm, lm = lastM a b 2 := ⟨_, rfl⟩
  rw [← hlm] at LA
  have HLM := Lib.hid (show lm = x.lastMark first by rw [hlm, HA.out, HBB.out]; rfl)
  have hok : lm.Ok := hlm ▸ lastM_ok a b 2
  have HSM := Lib.hid (Try.markSize hok)
  have HSM2 := Lib.hid (show (Try.prog.info? 88).map (·.size) = some lm.cells.toArray.size by rw [List.size_toArray]; exact HSM.out)
  have HSM0 := Lib.hid (show (Try.prog.info? 88).map (·.size) = some noM.cells.toArray.size by rw [List.size_toArray]; exact Try.markSize noM_ok)
  have HSO2 := Lib.hid (show noM.cells.toArray.size = lm.cells.toArray.size by rw [List.size_toArray, List.size_toArray, MkD.cells_length hok, MkD.cells_length noM_ok])
  have HS7 := Lib.hid (show (#[Value.int .u64 0, .int .u64 0, .int .u64 0, .int .u64 0, .int .u64 0, .int .u64 0, .int .u64 0] : Array Value).size = lm.cells.toArray.size by have := MkD.cells_length hok; simp [this])
  clear hr6 b3 hlm hw3 HR2 HB2 HSZ HSO H1 HA HBB hok
  refine LA.out.mono ?_
  rintro e w4 ⟨rfl, hb4⟩
  have HB4 := Lib.hid (HB3.out.trans (hb4.mono HB3.out.size))
  have HR4 := Lib.hid ((hb4.block _ (lt_of_row HR3.out)).trans HR3.out)
  clear hb4 LA
  have HR5 := Lib.hid (show (w4.alloc (.cells lm.cells.toArray 88)).heap[w.heap.size]? = some (.cells noM.cells.toArray 88 (0, 0)) from (Below.heap_alloc _ _ _ (lt_of_row HR4.out)).trans HR4.out)
  have HR8 := Lib.hid (heap_alloc_new w4 (.cells lm.cells.toArray 88))
  have HB5 := Lib.hid (show Below w.heap.size w (w4.alloc (.cells lm.cells.toArray 88)) from HB4.out.alloc HB4.out.size _)
  have HSM7 := Lib.hid (show (Try.prog.info? 88).map (·.size) = some (#[Value.int .u64 0, .int .u64 0, .int .u64 0, .int .u64 0, .int .u64 0, .int .u64 0, .int .u64 0] : Array Value).size by kernel_rfl)
  go_wp2_with (first
    | (with_reducible show wpList _ _ _ _ _ _; refine wpList_store_new rfl 88 (.tmp 8) (.tmp 22) rfl 88 _ lm.cells.toArray rfl rfl HSM2.out HS7.out lm.cells_one ?_)
    | (with_reducible show wpList _ _ _ _ _ _; refine wpList_store_whole rfl 88 (.tmp 4) (.tmp 26) rfl w.heap.size 88 noM.cells.toArray #[Value.int .u64 0, .int .u64 0, .int .u64 0, .int .u64 0, .int .u64 0, .int .u64 0, .int .u64 0] rfl rfl HR5.out HSM7.out (by kernel_rfl) (by kernel_rfl) ?_)
    | (with_reducible show wpList _ _ _ _ _ _; refine wpList_load_all rfl 88 (.tmp 8) rfl ⟨w4.heap.size, 0, none⟩ rfl lm.cells _ (cells_row HR8.out) Try.underlying88 rfl HSM.out ?_)
    | (with_reducible show wpList _ _ _ _ _ _; refine wpList_store_whole rfl 88 (.tmp 4) (.tmp 27) rfl w.heap.size 88 noM.cells.toArray lm.cells.toArray rfl rfl HR5.out HSM2.out HSO2.out lm.cells_one ?_))
  all_goals rename_i hq
  · rw [← HLM.out] at h
    simp [h] at hq
  · refine bodyPost_ret (results2_cell_row rfl _ _ w.heap.size 88 _ (0, 0) _ (.int .i64 4) rfl rfl (setRow_heap _ _ _ _ _ (0, 0) HR5.out) Try.underlying88 rfl HSM7.out) rfl ⟨by rw [Try.zeroP7], below_setRow HB5.out (Nat.le_refl _) _⟩
  · refine bodyPost_ret (results2_cell_row rfl _ _ w.heap.size 88 _ (0, 0) _ (.int .i64 0) rfl rfl (setRow_heap _ _ _ _ _ (0, 0) HR5.out) Try.underlying88 rfl HSM2.out) rfl ⟨by rw [HLM.out], below_setRow HB5.out (Nat.le_refl _) _⟩
  · rw [← HLM.out] at h
    simp [h] at hq
set_option maxRecDepth 100000 in
set_option maxHeartbeats 4000000 in
/-- Get where the two sectors can't be read. -/
theorem get_fail (h : DiskAt Try.prog w d g m n x) (first : Int) (c : Int) (hc : c ≠ 0) (hRP : ∀ w', DiskAt Try.prog w' d g m n x → Calls Try.prog 56 #[.pointer (some ⟨d, 0, none⟩), .int .i64 first] w' fun e w'' => e = .returned (.tuple #[.agg Try.zeroCells127, .int .i64 c]) ∧ Below w'.heap.size w' w'') :
    Calls Try.prog 32 #[.pointer (some ⟨d, 0, none⟩), .int .i64 first] w fun e w' => e = .returned (.tuple #[.agg noM.cells.toArray, .int .i64 c]) ∧ Below w.heap.size w w' := by
  have hb1 : Below w.heap.size w (w.alloc (.cells noM.cells.toArray 88)) := (Below.refl _ _).alloc (Nat.le_refl _) _
  have hr1 : (w.alloc (.cells noM.cells.toArray 88)).heap[w.heap.size]? = some (.cells noM.cells.toArray 88 (0, 0)) := heap_alloc_new _ _
  have RP := Lib.hid (hRP _ (h.below hb1 (Nat.le_refl _)))
  obtain ⟨w1, hw1⟩ : ∃ w1, w1 = w.alloc (.cells noM.cells.toArray 88) := ⟨_, rfl⟩
  rw [← hw1] at RP hb1 hr1
  have HW1 := Lib.hid hw1
  have HB1 := Lib.hid hb1
  have HR1 := Lib.hid hr1
  have HSM7 := Lib.hid (show (Try.prog.info? 88).map (·.size) = some (#[Value.int .u64 0, .int .u64 0, .int .u64 0, .int .u64 0, .int .u64 0, .int .u64 0, .int .u64 0] : Array Value).size by kernel_rfl)
  clear hw1 hb1 hr1 h hRP
  go_enter Try.func32, Try.ntmps32
  go_wp2_with fail
  rw [Try.zeroP7, ← HW1.out]
  refine RP.out.mono ?_
  rintro e w2 ⟨rfl, hb2⟩
  have HSZ := Lib.hid (show (Try.prog.info? 127).map (·.size) = some Try.zeroCells127.size by rw [Try.pairSize, Try.zeroPSize])
  have HB2 := Lib.hid (HB1.out.trans (hb2.mono HB1.out.size))
  have HR2 := Lib.hid ((hb2.block _ (lt_of_row HR1.out)).trans HR1.out)
  have HR5 := Lib.hid (show (w2.alloc (.cells Try.zeroCells127 127)).heap[w.heap.size]? = some (.cells noM.cells.toArray 88 (0, 0)) from (Below.heap_alloc _ _ _ (lt_of_row HR2.out)).trans HR2.out)
  have HB5 := Lib.hid (show Below w.heap.size w (w2.alloc (.cells Try.zeroCells127 127)) from HB2.out.alloc HB2.out.size _)
  clear hb2 RP
  go_wp2_with (first
    | (with_reducible show wpList _ _ _ _ _ _; refine wpList_store_new rfl 127 (.tmp 6) (.tmp 14) rfl 127 Try.zeroCells127 Try.zeroCells127 rfl rfl HSZ.out rfl Try.zeroPOnes ?_)
    | (with_reducible show wpList _ _ _ _ _ _; refine wpList_store_whole rfl 88 (.tmp 4) (.tmp 18) rfl w.heap.size 88 noM.cells.toArray #[Value.int .u64 0, .int .u64 0, .int .u64 0, .int .u64 0, .int .u64 0, .int .u64 0, .int .u64 0] rfl rfl HR5.out HSM7.out (by kernel_rfl) (by kernel_rfl) ?_))
  refine bodyPost_ret (results2_cell_row rfl _ _ w.heap.size 88 _ (0, 0) _ (.int .i64 c) rfl rfl (setRow_heap _ _ _ _ _ (0, 0) HR5.out) Try.underlying88 rfl HSM7.out) rfl ⟨by rw [Try.zeroP7], below_setRow HB5.out (Nat.le_refl _) _⟩
end Go.Proofs.Ytdjpeebekpjiiaa.Dk
/- Put: the next mark. -/
namespace Go.Proofs.Ytdjpeebekpjiiaa.Dk
open Go Go.RowKit
set_option linter.unusedVariables false
set_option linter.unusedSimpArgs false
variable {w : World} {d g m n : Nat} {x : DS}
/-- Numbers in a slice. -/
def U64s (w : World) (v : Value) (ws : List Nat) : Prop := ∃ ao c, v = .slice ao ws.length c ∧ (ao = none → ws.length = 0) ∧ ∀ ad, ao = some ad → ∀ j u, (ws.map uv)[j]? = some u → w.cell? (ad.add j) = some u
/-- The greatest number that stands on two sectors. -/
def DS.great (x : DS) (first : Nat) : Nat := greatN (x.read (first : Int)).1 (x.read ((first + 1 : Nat) : Int)).1 2
/-- The next mark's number. -/
def DS.nextSeq (x : DS) (first : Nat) : Nat := if 0 < (x.lastMark first).seq ∧ (x.lastMark first).seq % 2 = (x.great first + 1) % 2 then x.great first + 2 else x.great first + 1
def DS.next (x : DS) (first : Nat) (ws : List Nat) : MkD := ⟨x.nextSeq first, ws ++ List.replicate (6 - ws.length) 0⟩
def pick0 (c : Int) (mk : MkD) : MkD := if c = 0 then mk else noM
def SrcAt (w : World) (ao : Option Addr) (ws : List Nat) : Prop := 0 < (ws.map uv).length → ∃ ad, ao = some ad ∧ ∀ j v, (ws.map uv)[j]? = some v → w.cell? (ad.add j) = some v
theorem U64s.src {w w' : World} {ao : Option Addr} {c : Nat} {ws : List Nat} (h : U64s w (.slice ao ws.length c) ws) (hb : Below w.heap.size w w') : SrcAt w' ao ws := by
  obtain ⟨ao', c', e, hno, hc⟩ := h
  cases e
  intro h0
  rw [List.length_map] at h0
  cases ao with
  | none => have := hno rfl; omega
  | some ad =>
    refine ⟨ad, rfl, fun j v hv => ?_⟩
    have h1 := hc ad rfl j v hv
    exact (World.cell?_of_block (a := ad.add j) (hb.block _ (block_lt_of_cell h1))).trans h1
theorem splice_mark (s : Nat) (ws : List Nat) (h : ws.length ≤ 6) : splice (MkD.mk s (List.replicate 6 0)).cells 1 (ws.map uv) = (MkD.mk s (ws ++ List.replicate (6 - ws.length) 0)).cells := by
  unfold splice MkD.cells
  simp only [List.take_succ_cons, List.take_zero, List.length_map, Nat.add_comm 1 ws.length, List.drop_succ_cons, List.map_append, List.map_replicate, List.drop_replicate, List.cons_append, List.nil_append]
theorem wrap_next {s : Nat} (h : s + 1 < 18446744073709551616) : IntKind.u64.wrap ((s : Int) + 1) = ((s + 1 : Nat) : Int) := by
  rw [IntKind.wrap_u64]
  omega
def puF (lm nm : MkD) (q1 q2 : Bool) (j : Nat) (v : Value) (_ : World) : Prop := match j with
  | 0 | 1 => v = .bool q1
  | 2 => q1 = true → v = .agg lm.cells.toArray
  | 3 => q1 = true → v = .int .i64 ((lm.seq % 2 : Nat) : Int)
  | 4 => q1 = true → v = .agg nm.cells.toArray
  | 5 => q1 = true → v = .int .i64 ((nm.seq % 2 : Nat) : Int)
  | 6 => q1 = true → v = .bool q2
  | 7 => v = .bool (q1 && q2)
  | _ => True
set_option maxRecDepth 100000 in
set_option maxHeartbeats 4000000 in
theorem put_ok (h : DiskAt Try.prog w d g m n x) (hn : n < maxLen) (hin : ∀ i l, wfi i → x.S i = some l → x.has i = true) (first : Nat) (hr : first + 2 ≤ x.s.length) (hdn : x.down = false)
    {ao : Option Addr} {c : Nat} {ws : List Nat} (hv : U64s w (.slice ao ws.length c) ws) (hws : ∀ u ∈ ws, u < 18446744073709551616) (h6 : ws.length ≤ 6) (hgr : x.great first ≤ 18446744073709551613) :
    Calls Try.prog 72 #[.pointer (some ⟨d, 0, none⟩), .int .i64 (first : Int), .slice ao ws.length c] w fun e w' =>
      e = .returned (.tuple #[.agg (pick0 (x.mark first (x.next first ws)).1 (x.next first ws)).cells.toArray, .int .i64 (x.mark first (x.next first ws)).1]) ∧ DiskAt Try.prog w' d g m (n + 1) (x.mark first (x.next first ws)).2 ∧ Frm (own3 d g m) w w' := by
  have hb1 : Below w.heap.size w (w.alloc (.cells noM.cells.toArray 88)) := (Below.refl _ _).alloc (Nat.le_refl _) _
  have hr1 : (w.alloc (.cells noM.cells.toArray 88)).heap[w.heap.size]? = some (.cells noM.cells.toArray 88 (0, 0)) := heap_alloc_new _ _
  have RP := Lib.hid (readPair_ok (h.below hb1 (Nat.le_refl _)) first hr hdn)
  obtain ⟨w1, hw1⟩ : ∃ w1, w1 = w.alloc (.cells noM.cells.toArray 88) := ⟨_, rfl⟩
  rw [← hw1] at RP hb1 hr1
  have HW1 := Lib.hid hw1
  have HB1 := Lib.hid hb1
  have HR1 := Lib.hid hr1
  have H := Lib.hid h
  have HV := Lib.hid hv
  have HWS := Lib.hid hws
  have HGR := Lib.hid hgr
  have HIN := Lib.hid hin
  have hlen : ¬ ((6 : Int) < (ws.length : Int)) := by omega
  clear hw1 hb1 hr1 h hv hws hgr hin
  go_enter Try.func72, Try.ntmps72
  go_wp2_with fail
  rw [Try.zeroP7, ← HW1.out]
  refine RP.out.mono ?_
  rintro e w2 ⟨a, b, ha, hb, la, lb, rfl, hb2⟩
  have HA := Lib.hid ha
  have HBB := Lib.hid hb
  have HLA := Lib.hid la
  have HLB := Lib.hid lb
  have HSZ := Lib.hid (show (Try.prog.info? 127).map (·.size) = some (bvs a ++ bvs b).toArray.size by rw [Try.pairSize]; simp [la, lb, bvs_length])
  have HSO := Lib.hid (show Try.zeroCells127.size = (bvs a ++ bvs b).toArray.size by rw [Try.zeroPSize]; simp [la, lb, bvs_length])
  have H1 := Lib.hid (show (bvs a ++ bvs b).toArray.all (·.oneCell') = true from all_oneCell_toArray (fun u hu => by rcases List.mem_append.1 hu with h | h; exact bvs_one _ u h; exact bvs_one _ u h))
  have HB2 := Lib.hid (HB1.out.trans (hb2.mono HB1.out.size))
  have HR2 := Lib.hid ((hb2.block _ (lt_of_row HR1.out)).trans HR1.out)
  clear ha hb la lb hb2 RP
  go_wp2_with (with_reducible show wpList _ _ _ _ _ _; refine wpList_store_new rfl 127 (.tmp 8) (.tmp 19) rfl 127 Try.zeroCells127 (bvs a ++ bvs b).toArray rfl rfl HSZ.out HSO.out H1.out ?_)
  obtain ⟨g8, hg8⟩ : ∃ g8, g8 = w2.heap.size := ⟨_, rfl⟩
  obtain ⟨w3, hw3⟩ : ∃ w3, w3 = w2.alloc (.cells (bvs a ++ bvs b).toArray 127) := ⟨_, rfl⟩
  rw [← hg8, ← hw3]
  have hr8 : w3.heap[g8]? = some (.cells (bvs a ++ bvs b).toArray 127 (0, 0)) := by rw [hw3, hg8]; exact heap_alloc_new _ _
  have b3 : Below w2.heap.size w2 w3 := by rw [hw3]; exact (Below.refl _ _).alloc (Nat.le_refl _) _
  have HP := Lib.hid (show PairAt w3 g8 a b from ⟨hr8, HLA.out, HLB.out⟩)
  have GA := Lib.hid (greatest_any HP.out)
  have HB3 := Lib.hid (HB2.out.trans (b3.mono HB2.out.size))
  have HR3 := Lib.hid ((b3.block _ (lt_of_row HR2.out)).trans HR2.out)
  obtain ⟨G, hG⟩ : ∃ G, G = greatN a b 2 := ⟨_, rfl⟩
  rw [← hG] at GA
  have HG := Lib.hid (show G = x.great first by rw [hG, HA.out, HBB.out]; rfl)
  have hGl : G ≤ 18446744073709551613 := by rw [HG.out]; exact HGR.out
  have hcg : ¬ ((18446744073709551613 : Int) < (G : Int)) := by omega
  have HGL := Lib.hid hGl
  clear hr8 b3 hw3 hG HB2 HR2 HSZ HSO H1 hGl hg8
  refine GA.out.mono ?_
  rintro e w4 ⟨rfl, hb4⟩
  have HP4 := Lib.hid (HP.out.keep (hb4.block _ HP.out.lt))
  have HB4 := Lib.hid (HB3.out.trans (hb4.mono HB3.out.size))
  have HR4 := Lib.hid ((hb4.block _ (lt_of_row HR3.out)).trans HR3.out)
  clear hb4 GA HB3 HR3 HP
  go_wp2_with fail
  obtain ⟨nm, hnm⟩ : ∃ nm : MkD, nm = ⟨G + 1, List.replicate 6 0⟩ := ⟨_, rfl⟩
  have hnmc : (#[Value.int .u64 ((G : Int) + 1), .int .u64 0, .int .u64 0, .int .u64 0, .int .u64 0, .int .u64 0, .int .u64 0] : Array Value) = nm.cells.toArray := by rw [hnm]; simp [MkD.cells, uv, List.replicate]
  rw [hnmc]
  obtain ⟨g11, hg11⟩ : ∃ g11, g11 = w4.heap.size := ⟨_, rfl⟩
  obtain ⟨w5, hw5⟩ : ∃ w5, w5 = w4.alloc (.cells nm.cells.toArray 88) := ⟨_, rfl⟩
  rw [← hg11, ← hw5]
  have b5 : Below w4.heap.size w4 w5 := by rw [hw5]; exact (Below.refl _ _).alloc (Nat.le_refl _) _
  have hr11 : w5.heap[g11]? = some (.cells nm.cells.toArray 88 (0, 0)) := by rw [hw5, hg11]; exact heap_alloc_new _ _
  have HP5 := Lib.hid (HP4.out.keep (b5.block _ HP4.out.lt))
  have LA := Lib.hid (last_any HP5.out)
  have HB5 := Lib.hid (HB4.out.trans (b5.mono HB4.out.size))
  have HR5 := Lib.hid ((b5.block _ (lt_of_row HR4.out)).trans HR4.out)
  have hge : w.heap.size < g11 := by rw [hg11]; exact lt_of_row HR4.out
  have HGE := Lib.hid hge
  have HR11 := Lib.hid hr11
  obtain ⟨lm, hlm⟩ : ∃ lm, lm = lastM a b 2 := ⟨_, rfl⟩
  rw [← hlm] at LA
  have HLM := Lib.hid (show lm = x.lastMark first by rw [hlm, HA.out, HBB.out]; rfl)
  have hok : lm.Ok := hlm ▸ lastM_ok a b 2
  have hnok : nm.Ok := by
    rw [hnm]
    exact ⟨by have := HGL.out; show G + 1 < _; omega, by simp, fun u hu => by have := (List.mem_replicate.1 hu).2; omega⟩
  have HOK := Lib.hid hok
  have HNOK := Lib.hid hnok
  have HNM := Lib.hid hnm
  have HSL := Lib.hid (Try.markSize hok)
  have HSN := Lib.hid (Try.markSize hnok)
  have HSL2 := Lib.hid (show (Try.prog.info? 88).map (·.size) = some lm.cells.toArray.size by rw [List.size_toArray]; exact HSL.out)
  have HS7 := Lib.hid (show (#[Value.int .u64 0, .int .u64 0, .int .u64 0, .int .u64 0, .int .u64 0, .int .u64 0, .int .u64 0] : Array Value).size = lm.cells.toArray.size by have := MkD.cells_length hok; simp [this])
  clear hnm hnmc hg11 hw5 b5 hr11 hge hlm hok hnok HP4 HB4 HR4
  refine LA.out.mono ?_
  rintro e w6 ⟨rfl, hb6⟩
  have HB6 := Lib.hid (HB5.out.trans (hb6.mono HB5.out.size))
  have HR6 := Lib.hid ((hb6.block _ (lt_of_row HR5.out)).trans HR5.out)
  have HR611 := Lib.hid ((hb6.block _ (lt_of_row HR11.out)).trans HR11.out)
  clear hb6 LA HP5 HB5 HR5 HR11
  go_wp2_with (with_reducible show wpList _ _ _ _ _ _; refine wpList_store_new rfl 88 (.tmp 12) (.tmp 38) rfl 88 _ lm.cells.toArray rfl rfl HSL2.out HS7.out lm.cells_one ?_)
  obtain ⟨g12, hg12⟩ : ∃ g12, g12 = w6.heap.size := ⟨_, rfl⟩
  obtain ⟨w7, hw7⟩ : ∃ w7, w7 = w6.alloc (.cells lm.cells.toArray 88) := ⟨_, rfl⟩
  rw [← hg12, ← hw7]
  have b7 : Below w6.heap.size w6 w7 := by rw [hw7]; exact (Below.refl _ _).alloc (Nat.le_refl _) _
  have hr12 : w7.heap[g12]? = some (.cells lm.cells.toArray 88 (0, 0)) := by rw [hw7, hg12]; exact heap_alloc_new _ _
  have HR12 := Lib.hid hr12
  have HB7 := Lib.hid (HB6.out.trans (b7.mono HB6.out.size))
  have HR7 := Lib.hid ((b7.block _ (lt_of_row HR6.out)).trans HR6.out)
  have HR711 := Lib.hid ((b7.block _ (lt_of_row HR611.out)).trans HR611.out)
  obtain ⟨q1, hq1⟩ : ∃ q1, q1 = decide (0 < lm.seq) := ⟨_, rfl⟩
  obtain ⟨q2, hq2⟩ : ∃ q2, q2 = decide (lm.seq % 2 = nm.seq % 2) := ⟨_, rfl⟩
  have HQ1 := Lib.hid hq1
  have HQ2 := Lib.hid hq2
  rw [← hq1]
  clear hq1 hq2 hg12 hw7 b7 hr12 HB6 HR6 HR611
  have row : ∀ {wx : World} {k : Nat} {o : Obj}, Below w7.heap.size w7 wx → w7.heap[k]? = some o → wx.heap[k]? = some o := fun hb hr => (hb.block _ (Array.getElem?_eq_some_iff.1 hr).1).trans hr
  refine wp_region_slotsG (by kernel_rfl) (by kernel_rfl)
    (fun y => ⟨#[Value.pointer (some { block := d, off := 0 }), Value.int IntKind.i64 ↑first, Value.slice ao ws.length c,
          undef, undef, undef, Value.pointer (some { block := w.heap.size, off := 0 }), Value.int IntKind.i64 0,
          Value.pointer (some { block := g8, off := 0 }), Value.int IntKind.i64 0, Value.int IntKind.u64 ↑G,
          Value.pointer (some { block := g11, off := 0 }), Value.pointer (some { block := g12, off := 0 }),
          Value.bool q1, undef,
          Value.tuple #[Value.agg (bvs a ++ bvs b).toArray, Value.int IntKind.i64 0],
          Value.pointer (some { block := d, off := 0 }), Value.int IntKind.i64 ↑first,
          Value.tuple #[Value.agg (bvs a ++ bvs b).toArray, Value.int IntKind.i64 0],
          Value.agg (bvs a ++ bvs b).toArray, Value.int IntKind.i64 0, Value.int IntKind.i64 0, Value.bool false, undef,
          undef, Value.slice ao ws.length c, Value.int IntKind.i64 ↑ws.length, Value.bool (decide ((6 : Int) < ↑ws.length)),
          undef, Value.int IntKind.u64 ↑G, Value.int IntKind.u64 ↑G, Value.bool (decide ((18446744073709551613 : Int) < ↑G)),
          undef, Value.int IntKind.u64 ↑G, Value.int IntKind.u64 (↑G + 1), Value.agg nm.cells.toArray,
          Value.tuple #[Value.agg lm.cells.toArray, Value.bool q1],
          Value.tuple #[Value.agg lm.cells.toArray, Value.bool q1], Value.agg lm.cells.toArray,
          Value.bool q1, y 0, y 1, y 2, y 3, y 4, y 5, y 6, y 7, undef, undef, undef, undef, undef, undef, undef, undef, undef, undef, undef, undef, undef, undef, undef, undef, undef], []⟩)
    (puF lm nm q1 q2) (fun L w => Below w7.heap.size w7 w) (fun _ _ => True) (fun _ _ _ _ _ h => h) ?_ ?_ (fun _ => undef) rfl (Below.refl _ _).drew
  · intro i' o ho L y wx hd hi' hx hs
    match i', ho with
    | 0, ho =>
      obtain rfl := Option.some.inj ho
      exact .inl ⟨rfl, slot_run rfl ⟨_, rfl, trivial, rfl, hs⟩⟩
    | 1, ho =>
      obtain rfl := Option.some.inj ho
      have y0 : y 0 = .bool q1 := hx 0 (hd ⟨0, .data⟩ (by simp) rfl)
      exact .inl ⟨rfl, slot_run rfl ⟨_, rfl, trivial, y0, hs⟩⟩
    | 2, ho =>
      obtain rfl := Option.some.inj ho
      have yg : y 1 = .bool q1 := hx 1 (hd ⟨1, .guard⟩ (by simp) rfl)
      rcases hp : q1 with _ | _
      · exact .inr ⟨Eq.trans (b := gd (y 1) true) (by kernel_rfl) (by rw [yg, hp]; rfl), undef, rfl, (fun h => by first | (cases h; done) | (rw [hp] at h; cases h)), hs⟩
      · refine .inl ⟨Eq.trans (b := gd (y 1) true) (by kernel_rfl) (by rw [yg, hp]; rfl), ?_⟩
        exact slot_load 88 (.tmp 12) rfl ⟨g12, 0, none⟩ rfl lm.cells _ (cells_row (row hs HR12.out)) Try.underlying88 rfl HSL.out ⟨_, rfl, trivial, (fun _ => rfl), hs⟩
    | 3, ho =>
      obtain rfl := Option.some.inj ho
      have yg : y 1 = .bool q1 := hx 1 (hd ⟨1, .guard⟩ (by simp) rfl)
      rcases hp : q1 with _ | _
      · exact .inr ⟨Eq.trans (b := gd (y 1) true) (by kernel_rfl) (by rw [yg, hp]; rfl), undef, rfl, (fun h => by first | (cases h; done) | (rw [hp] at h; cases h)), hs⟩
      · refine .inl ⟨Eq.trans (b := gd (y 1) true) (by kernel_rfl) (by rw [yg, hp]; rfl), ?_⟩
        have yz : y 2 = .agg lm.cells.toArray := hx 2 (hd ⟨2, .data⟩ (by simp) rfl) hp
        refine slot_call #[.agg lm.cells.toArray] rfl Try.func77 (by kernel_rfl) (by kernel_rfl) (by simp [Act.eval, yz]) ?_
        refine (place_any lm HOK.out wx).mono ?_
        rintro e w' ⟨rfl, hb⟩
        exact ⟨_, rfl, _, rfl, trivial, (fun _ => rfl), hs.trans (hb.mono hs.size)⟩
    | 4, ho =>
      obtain rfl := Option.some.inj ho
      have yg : y 1 = .bool q1 := hx 1 (hd ⟨1, .guard⟩ (by simp) rfl)
      rcases hp : q1 with _ | _
      · exact .inr ⟨Eq.trans (b := gd (y 1) true) (by kernel_rfl) (by rw [yg, hp]; rfl), undef, rfl, (fun h => by first | (cases h; done) | (rw [hp] at h; cases h)), hs⟩
      · refine .inl ⟨Eq.trans (b := gd (y 1) true) (by kernel_rfl) (by rw [yg, hp]; rfl), ?_⟩
        exact slot_load 88 (.tmp 11) rfl ⟨g11, 0, none⟩ rfl nm.cells _ (cells_row (row hs HR711.out)) Try.underlying88 rfl HSN.out ⟨_, rfl, trivial, (fun _ => rfl), hs⟩
    | 5, ho =>
      obtain rfl := Option.some.inj ho
      have yg : y 1 = .bool q1 := hx 1 (hd ⟨1, .guard⟩ (by simp) rfl)
      rcases hp : q1 with _ | _
      · exact .inr ⟨Eq.trans (b := gd (y 1) true) (by kernel_rfl) (by rw [yg, hp]; rfl), undef, rfl, (fun h => by first | (cases h; done) | (rw [hp] at h; cases h)), hs⟩
      · refine .inl ⟨Eq.trans (b := gd (y 1) true) (by kernel_rfl) (by rw [yg, hp]; rfl), ?_⟩
        have yz : y 4 = .agg nm.cells.toArray := hx 4 (hd ⟨4, .data⟩ (by simp) rfl) hp
        refine slot_call #[.agg nm.cells.toArray] rfl Try.func77 (by kernel_rfl) (by kernel_rfl) (by simp [Act.eval, yz]) ?_
        refine (place_any nm HNOK.out wx).mono ?_
        rintro e w' ⟨rfl, hb⟩
        exact ⟨_, rfl, _, rfl, trivial, (fun _ => rfl), hs.trans (hb.mono hs.size)⟩
    | 6, ho =>
      obtain rfl := Option.some.inj ho
      have yg : y 1 = .bool q1 := hx 1 (hd ⟨1, .guard⟩ (by simp) rfl)
      rcases hp : q1 with _ | _
      · exact .inr ⟨Eq.trans (b := gd (y 1) true) (by kernel_rfl) (by rw [yg, hp]; rfl), undef, rfl, (fun h => by first | (cases h; done) | (rw [hp] at h; cases h)), hs⟩
      · refine .inl ⟨Eq.trans (b := gd (y 1) true) (by kernel_rfl) (by rw [yg, hp]; rfl), ?_⟩
        have y3 : y 3 = .int .i64 ((lm.seq % 2 : Nat) : Int) := hx 3 (hd ⟨3, .data⟩ (by simp) rfl) hp
        have y5 : y 5 = .int .i64 ((nm.seq % 2 : Nat) : Int) := hx 5 (hd ⟨5, .data⟩ (by simp) rfl) hp
        refine slot_run (v := .bool q2) (w' := wx) ?_ ⟨_, rfl, trivial, (fun _ => rfl), hs⟩
        refine runWith (fun z => match z with | .tmp 43 => y 3 | _ => y 5) (by kernel_rfl) ?_
        rw [y3, y5, HQ2.out]
        go_simp
        rw [Bool.eq_iff_iff, beq_iff_eq, decide_eq_true_eq]
        omega
    | 7, ho =>
      obtain rfl := Option.some.inj ho
      have y1 : y 1 = .bool q1 := hx 1 (hd ⟨1, .data⟩ (by simp) rfl)
      have y6 := hx 6 (hd ⟨6, .data⟩ (by simp) rfl)
      refine .inl ⟨rfl, slot_run (v := .bool (q1 && q2)) (w' := wx) ?_ ⟨_, rfl, trivial, rfl, hs⟩⟩
      refine runWith (fun z => match z with | .tmp 41 => y 1 | .tmp 46 => y 6 | _ => .bool false) (by kernel_rfl) ?_
      rw [y1]
      rcases hp : q1 with _ | _
      · kernel_rfl
      · rw [show y 6 = .bool q2 from y6 hp]
        kernel_rfl
    | k + 8, ho => simp at ho
  · intro L y wx hall hx hs
    have y7 : y 7 = .bool (q1 && q2) := hx 7 (hall 7 (by decide))
    rw [y7]
    have HRX := Lib.hid (row hs HR7.out)
    have HRX11 := Lib.hid (row hs HR711.out)
    have HBX := Lib.hid (HB7.out.trans (hs.mono HB7.out.size))
    clear row hall hx hs y7
    have hc11 : wx.cell? ⟨g11, 0, none⟩ = some (.int .u64 (nm.seq : Int)) := (cells_row HRX11.out) 0 _ rfl
    have hf11 : wx.frozen? ⟨g11, 0, none⟩ = false := frozen_of_row wx g11 0 _ _ HRX11.out
    generalize y 0 = v0
    generalize y 1 = v1
    generalize y 2 = v2
    generalize y 3 = v3
    generalize y 4 = v4
    generalize y 5 = v5
    generalize y 6 = v6
    have hHN : (ws.map uv).length = Nat.min ws.length 6 := by rw [List.length_map]; exact (Nat.min_eq_left h6).symm
    have HN := Lib.hid hHN
    have HNS := Lib.hid (show nm.seq = G + 1 by rw [HNM.out])
    have hng : g11 ≠ w.heap.size := by have := HGE.out; omega
    clear hHN
    rcases hq : (q1 && q2) with _ | _
    · obtain ⟨fm, hfm⟩ : ∃ fm : MkD, fm = ⟨nm.seq, ws ++ List.replicate (6 - ws.length) 0⟩ := ⟨_, rfl⟩
      have HFM := Lib.hid (show fm = x.next first ws by
        unfold DS.next DS.nextSeq
        rw [hfm, HNS.out, ← HLM.out, ← HG.out, if_neg (by rintro ⟨h1, h2⟩; rw [HQ1.out, HQ2.out, HNS.out] at hq; simp [h1, h2] at hq)])
      have HSP := Lib.hid (show splice nm.cells 1 (ws.map uv) = fm.cells by rw [hfm, HNM.out]; exact splice_mark _ ws h6)
      have HFO := Lib.hid (show fm.Ok by
        rw [hfm]
        refine ⟨HNOK.out.seq, by simp; omega, fun u hu => ?_⟩
        rcases List.mem_append.1 hu with h | h
        · exact HWS.out u h
        · rw [(List.mem_replicate.1 h).2]; decide)
      obtain ⟨wW, hwW⟩ : ∃ wW, wW = wx := ⟨_, rfl⟩
      have HWW := Lib.hid hwW
      have TR := Lib.hid (show wW.heap[g11]? = some (.cells nm.cells.toArray 88 (0, 0)) by rw [hwW]; exact HRX11.out)
      have TX := Lib.hid (show wW.heap[w.heap.size]? = some (.cells noM.cells.toArray 88 (0, 0)) by rw [hwW]; exact HRX.out)
      have TB := Lib.hid (show Below w.heap.size w wW by rw [hwW]; exact HBX.out)
      have TS := Lib.hid (HV.out.src TB.out)
      have HFI := Lib.hid (show 1 + (ws.map uv).length ≤ nm.cells.length by rw [List.length_map, MkD.cells_length HNOK.out]; omega)
      clear hfm hwW hq
      have hU := Try.underlying162
      have hI : (Try.prog.info? 43).map (·.size) = some 1 := by kernel_rfl
      have hcp := fun (ops : Array Oper) (rest : List Oper) (o : Oper) (a : Act) (Q : Exit → Act → World → Prop) (hg : o.guard = none) (ho : o.op = .call { callee := .builtin .copy, args := #[.tmp 53, .tmp 54], argTypes := #[162, 162] }) (hd : a.eval (.tmp 53) = .slice (some ⟨g11, 1, none⟩) 6 6) (hs : a.eval (.tmp 54) = .slice ao ws.length c) => wpList_copy_splice (ops := ops) (rest := rest) (Q := Q) hg (.tmp 53) (.tmp 54) 162 162 ho 43 hU hI (some ⟨g11, 1, none⟩) ao 6 6 ws.length c hd hs g11 1 nm.cells 88 TR.out (ws.map uv) HN.out (fun h0 => ⟨rfl, TS.out h0⟩) HFI.out (uv_one ws) g11 wW (Below.refl _ _) (Nat.le_refl _)
      clear hU hI
      have HCP := Lib.hid hcp
      clear hcp
      go_wp2_with (with_reducible show wpList _ _ _ _ _ _; rw [← HWW.out]; refine HCP.out _ _ _ _ _ rfl rfl (by with_unfolding_all rfl) (by with_unfolding_all rfl) ?_)
      intro w10 hg10 hb10
      have hrow := hg10.out
      rw [HSP.out] at hrow
      have HR10 := Lib.hid hrow
      have hlt := HGE.out
      have HX10 := Lib.hid ((hb10.block _ hlt).trans TX.out)
      have hB10 := TB.out.trans (hb10.mono (Nat.le_of_lt hlt))
      have HB10 := Lib.hid hB10
      have KW := Lib.hid (kwrite_any (H.out.below hB10 (Nat.le_refl _)) hn HIN.out first hr fm HFO.out)
      have HSF := Lib.hid (Try.markSize HFO.out)
      have HSF2 := Lib.hid (show (Try.prog.info? 88).map (·.size) = some fm.cells.toArray.size by rw [List.size_toArray]; exact HSF.out)
      have HSF0 := Lib.hid (show noM.cells.toArray.size = fm.cells.toArray.size by rw [List.size_toArray, List.size_toArray, MkD.cells_length HFO.out, MkD.cells_length noM_ok])
      clear hrow hlt hB10 hg10 hb10 HCP TR TX TB TS HSP HN HRX HRX11 HBX hc11 hf11 HWW
      go_wp2_with (with_reducible show wpList _ _ _ _ _ _; refine wpList_load_all rfl 88 (.tmp 11) rfl ⟨g11, 0, none⟩ rfl fm.cells _ (cells_row HR10.out) Try.underlying88 rfl HSF.out ?_)
      refine KW.out.mono ?_
      rintro e w11 ⟨rfl, hD11, hF11⟩
      obtain ⟨C, hC⟩ : ∃ C, C = (x.mark first fm).1 := ⟨_, rfl⟩
      rw [← hC]
      have HC := Lib.hid hC
      have HD11 := Lib.hid hD11
      have hno : ∀ k, w.heap.size ≤ k → ¬ own3 d g m k := fun k hk e => by have h1 := H.out.dlt; have h2 := H.out.glt; have h3 := H.out.mlt; rcases e with e | e | e <;> omega
      have HR11' := Lib.hid ((hF11.block _ (lt_of_row HR10.out) (hno _ (Nat.le_of_lt HGE.out))).trans HR10.out)
      have HX11 := Lib.hid ((hF11.block _ (lt_of_row HX10.out) (hno _ (Nat.le_refl _))).trans HX10.out)
      have HF11 := Lib.hid ((Frm.of_below (T := own3 d g m) HB10.out (Nat.le_refl _)).trans hF11)
      have HDS := Lib.hid (fun cs => HD11.out.keep (setRow_other w11 w.heap.size d cs (fun e => hno d (by omega) (.inl rfl))) (setRow_other w11 w.heap.size g cs (fun e => hno g (by omega) (.inr (.inl rfl)))) (setRow_other w11 w.heap.size m cs (fun e => hno m (by omega) (.inr (.inr rfl)))))
      have HSM7 := Lib.hid (show (Try.prog.info? 88).map (·.size) = some (#[Value.int .u64 0, .int .u64 0, .int .u64 0, .int .u64 0, .int .u64 0, .int .u64 0, .int .u64 0] : Array Value).size by kernel_rfl)
      clear hC hD11 hF11 hno KW HR10 HX10 HB10
      by_cases hC0 : C = 0
      · go_wp2_with (first
          | (with_reducible show wpList _ _ _ _ _ _; refine wpList_load_all rfl 88 (.tmp 11) rfl ⟨g11, 0, none⟩ rfl fm.cells _ (cells_row HR11'.out) Try.underlying88 rfl HSF.out ?_)
          | (with_reducible show wpList _ _ _ _ _ _; refine wpList_store_whole rfl 88 (.tmp 6) (.tmp 64) rfl w.heap.size 88 noM.cells.toArray fm.cells.toArray rfl rfl HX11.out HSF2.out HSF0.out fm.cells_one ?_))
        refine bodyPost_ret (results2_cell_row rfl _ _ w.heap.size 88 _ (0, 0) _ (.int .i64 0) rfl rfl (setRow_heap _ _ _ _ _ (0, 0) HX11.out) Try.underlying88 rfl HSF2.out) rfl ?_
        rw [← HFM.out, ← HC.out]
        unfold pick0
        rw [if_pos hC0, hC0]
        exact ⟨rfl, HDS.out _, HF11.out.setRow (.inr (Nat.le_refl _)) _⟩
      · go_wp2_with (with_reducible show wpList _ _ _ _ _ _; refine wpList_store_whole rfl 88 (.tmp 6) (.tmp 62) rfl w.heap.size 88 noM.cells.toArray #[Value.int .u64 0, .int .u64 0, .int .u64 0, .int .u64 0, .int .u64 0, .int .u64 0, .int .u64 0] rfl rfl HX11.out HSM7.out (by kernel_rfl) (by kernel_rfl) ?_)
        refine bodyPost_ret (results2_cell_row rfl _ _ w.heap.size 88 _ (0, 0) _ (.int .i64 C) rfl rfl (setRow_heap _ _ _ _ _ (0, 0) HX11.out) Try.underlying88 rfl HSM7.out) rfl ?_
        rw [← HFM.out, ← HC.out]
        unfold pick0
        rw [if_neg hC0]
        exact ⟨by rw [Try.zeroP7], HDS.out _, HF11.out.setRow (.inr (Nat.le_refl _)) _⟩
    · obtain ⟨sm, hsm⟩ : ∃ sm : MkD, sm = ⟨nm.seq + 1, List.replicate 6 0⟩ := ⟨_, rfl⟩
      obtain ⟨fm, hfm⟩ : ∃ fm : MkD, fm = ⟨nm.seq + 1, ws ++ List.replicate (6 - ws.length) 0⟩ := ⟨_, rfl⟩
      have HFM := Lib.hid (show fm = x.next first ws by
        unfold DS.next DS.nextSeq
        rw [hfm, HNS.out, ← HLM.out, ← HG.out, if_pos (by rw [HQ1.out, HQ2.out, HNS.out] at hq; simpa using hq)])
      have HSP := Lib.hid (show splice sm.cells 1 (ws.map uv) = fm.cells by rw [hsm, hfm]; exact splice_mark _ ws h6)
      have HFO := Lib.hid (show fm.Ok by
        rw [hfm]
        refine ⟨by have := HNS.out; have := HGL.out; show nm.seq + 1 < _; omega, by simp; omega, fun u hu => ?_⟩
        rcases List.mem_append.1 hu with h | h
        · exact HWS.out u h
        · rw [(List.mem_replicate.1 h).2]; decide)
      obtain ⟨wW, hwW⟩ : ∃ wW, wW = wx.setCell ⟨g11, 0, none⟩ (.int .u64 (IntKind.u64.wrap ((nm.seq : Int) + 1))) := ⟨_, rfl⟩
      have HWW := Lib.hid hwW
      have TR := Lib.hid (show wW.heap[g11]? = some (.cells sm.cells.toArray 88 (0, 0)) by
        rw [hwW, hsm]
        have h1 := Go.Joins.block_setCell (i := 0) HRX11.out (.int .u64 (IntKind.u64.wrap ((nm.seq : Int) + 1)))
        rw [wrap_next (by have := HNS.out; have := HGL.out; omega)] at h1 ⊢
        rw [HNM.out] at h1 ⊢
        exact h1)
      have TX := Lib.hid (show wW.heap[w.heap.size]? = some (.cells noM.cells.toArray 88 (0, 0)) by rw [hwW]; exact (Below.heap_setCell wx ⟨g11, 0, none⟩ _ _ hng.symm).trans HRX.out)
      have TB := Lib.hid (show Below w.heap.size w wW by rw [hwW]; exact HBX.out.setCell (by have := HGE.out; show w.heap.size ≤ g11; omega) _)
      have TS := Lib.hid (HV.out.src TB.out)
      have HFI := Lib.hid (show 1 + (ws.map uv).length ≤ sm.cells.length by rw [hsm]; simp [MkD.cells]; omega)
      clear hfm hwW hq hsm
      have hU := Try.underlying162
      have hI : (Try.prog.info? 43).map (·.size) = some 1 := by kernel_rfl
      have hcp := fun (ops : Array Oper) (rest : List Oper) (o : Oper) (a : Act) (Q : Exit → Act → World → Prop) (hg : o.guard = none) (ho : o.op = .call { callee := .builtin .copy, args := #[.tmp 53, .tmp 54], argTypes := #[162, 162] }) (hd : a.eval (.tmp 53) = .slice (some ⟨g11, 1, none⟩) 6 6) (hs : a.eval (.tmp 54) = .slice ao ws.length c) => wpList_copy_splice (ops := ops) (rest := rest) (Q := Q) hg (.tmp 53) (.tmp 54) 162 162 ho 43 hU hI (some ⟨g11, 1, none⟩) ao 6 6 ws.length c hd hs g11 1 sm.cells 88 TR.out (ws.map uv) HN.out (fun h0 => ⟨rfl, TS.out h0⟩) HFI.out (uv_one ws) g11 wW (Below.refl _ _) (Nat.le_refl _)
      clear hU hI
      have HCP := Lib.hid hcp
      clear hcp
      go_wp2_with (with_reducible show wpList _ _ _ _ _ _; rw [← HWW.out]; refine HCP.out _ _ _ _ _ rfl rfl (by with_unfolding_all rfl) (by with_unfolding_all rfl) ?_)
      intro w10 hg10 hb10
      have hrow := hg10.out
      rw [HSP.out] at hrow
      have HR10 := Lib.hid hrow
      have hlt := HGE.out
      have HX10 := Lib.hid ((hb10.block _ hlt).trans TX.out)
      have hB10 := TB.out.trans (hb10.mono (Nat.le_of_lt hlt))
      have HB10 := Lib.hid hB10
      have KW := Lib.hid (kwrite_any (H.out.below hB10 (Nat.le_refl _)) hn HIN.out first hr fm HFO.out)
      have HSF := Lib.hid (Try.markSize HFO.out)
      have HSF2 := Lib.hid (show (Try.prog.info? 88).map (·.size) = some fm.cells.toArray.size by rw [List.size_toArray]; exact HSF.out)
      have HSF0 := Lib.hid (show noM.cells.toArray.size = fm.cells.toArray.size by rw [List.size_toArray, List.size_toArray, MkD.cells_length HFO.out, MkD.cells_length noM_ok])
      clear hrow hlt hB10 hg10 hb10 HCP TR TX TB TS HSP HN HRX HRX11 HBX hc11 hf11 HWW
      go_wp2_with (with_reducible show wpList _ _ _ _ _ _; refine wpList_load_all rfl 88 (.tmp 11) rfl ⟨g11, 0, none⟩ rfl fm.cells _ (cells_row HR10.out) Try.underlying88 rfl HSF.out ?_)
      refine KW.out.mono ?_
      rintro e w11 ⟨rfl, hD11, hF11⟩
      obtain ⟨C, hC⟩ : ∃ C, C = (x.mark first fm).1 := ⟨_, rfl⟩
      rw [← hC]
      have HC := Lib.hid hC
      have HD11 := Lib.hid hD11
      have hno : ∀ k, w.heap.size ≤ k → ¬ own3 d g m k := fun k hk e => by have h1 := H.out.dlt; have h2 := H.out.glt; have h3 := H.out.mlt; rcases e with e | e | e <;> omega
      have HR11' := Lib.hid ((hF11.block _ (lt_of_row HR10.out) (hno _ (Nat.le_of_lt HGE.out))).trans HR10.out)
      have HX11 := Lib.hid ((hF11.block _ (lt_of_row HX10.out) (hno _ (Nat.le_refl _))).trans HX10.out)
      have HF11 := Lib.hid ((Frm.of_below (T := own3 d g m) HB10.out (Nat.le_refl _)).trans hF11)
      have HDS := Lib.hid (fun cs => HD11.out.keep (setRow_other w11 w.heap.size d cs (fun e => hno d (by omega) (.inl rfl))) (setRow_other w11 w.heap.size g cs (fun e => hno g (by omega) (.inr (.inl rfl)))) (setRow_other w11 w.heap.size m cs (fun e => hno m (by omega) (.inr (.inr rfl)))))
      have HSM7 := Lib.hid (show (Try.prog.info? 88).map (·.size) = some (#[Value.int .u64 0, .int .u64 0, .int .u64 0, .int .u64 0, .int .u64 0, .int .u64 0, .int .u64 0] : Array Value).size by kernel_rfl)
      clear hC hD11 hF11 hno KW HR10 HX10 HB10
      by_cases hC0 : C = 0
      · go_wp2_with (first
          | (with_reducible show wpList _ _ _ _ _ _; refine wpList_load_all rfl 88 (.tmp 11) rfl ⟨g11, 0, none⟩ rfl fm.cells _ (cells_row HR11'.out) Try.underlying88 rfl HSF.out ?_)
          | (with_reducible show wpList _ _ _ _ _ _; refine wpList_store_whole rfl 88 (.tmp 6) (.tmp 64) rfl w.heap.size 88 noM.cells.toArray fm.cells.toArray rfl rfl HX11.out HSF2.out HSF0.out fm.cells_one ?_))
        refine bodyPost_ret (results2_cell_row rfl _ _ w.heap.size 88 _ (0, 0) _ (.int .i64 0) rfl rfl (setRow_heap _ _ _ _ _ (0, 0) HX11.out) Try.underlying88 rfl HSF2.out) rfl ?_
        rw [← HFM.out, ← HC.out]
        unfold pick0
        rw [if_pos hC0, hC0]
        exact ⟨rfl, HDS.out _, HF11.out.setRow (.inr (Nat.le_refl _)) _⟩
      · go_wp2_with (with_reducible show wpList _ _ _ _ _ _; refine wpList_store_whole rfl 88 (.tmp 6) (.tmp 62) rfl w.heap.size 88 noM.cells.toArray #[Value.int .u64 0, .int .u64 0, .int .u64 0, .int .u64 0, .int .u64 0, .int .u64 0, .int .u64 0] rfl rfl HX11.out HSM7.out (by kernel_rfl) (by kernel_rfl) ?_)
        refine bodyPost_ret (results2_cell_row rfl _ _ w.heap.size 88 _ (0, 0) _ (.int .i64 C) rfl rfl (setRow_heap _ _ _ _ _ (0, 0) HX11.out) Try.underlying88 rfl HSM7.out) rfl ?_
        rw [← HFM.out, ← HC.out]
        unfold pick0
        rw [if_neg hC0]
        exact ⟨by rw [Try.zeroP7], HDS.out _, HF11.out.setRow (.inr (Nat.le_refl _)) _⟩
end Go.Proofs.Ytdjpeebekpjiiaa.Dk
/- Put's other answers. -/
namespace Go.Proofs.Ytdjpeebekpjiiaa.Dk
open Go Go.RowKit
set_option linter.unusedVariables false
set_option linter.unusedSimpArgs false
variable {w : World} {d g m n : Nat} {x : DS}
set_option maxRecDepth 100000 in
set_option maxHeartbeats 4000000 in
/-- Put where the two sectors can't be read. -/
theorem put_fail (h : DiskAt Try.prog w d g m n x) (first : Int) (c : Int) (hc : c ≠ 0) (v : Value) (hRP : ∀ w', DiskAt Try.prog w' d g m n x → Calls Try.prog 56 #[.pointer (some ⟨d, 0, none⟩), .int .i64 first] w' fun e w'' => e = .returned (.tuple #[.agg Try.zeroCells127, .int .i64 c]) ∧ Below w'.heap.size w' w'') :
    Calls Try.prog 72 #[.pointer (some ⟨d, 0, none⟩), .int .i64 first, v] w fun e w' => e = .returned (.tuple #[.agg noM.cells.toArray, .int .i64 c]) ∧ Below w.heap.size w w' := by
  have hb1 : Below w.heap.size w (w.alloc (.cells noM.cells.toArray 88)) := (Below.refl _ _).alloc (Nat.le_refl _) _
  have hr1 : (w.alloc (.cells noM.cells.toArray 88)).heap[w.heap.size]? = some (.cells noM.cells.toArray 88 (0, 0)) := heap_alloc_new _ _
  have RP := Lib.hid (hRP _ (h.below hb1 (Nat.le_refl _)))
  obtain ⟨w1, hw1⟩ : ∃ w1, w1 = w.alloc (.cells noM.cells.toArray 88) := ⟨_, rfl⟩
  rw [← hw1] at RP hb1 hr1
  have HW1 := Lib.hid hw1
  have HB1 := Lib.hid hb1
  have HR1 := Lib.hid hr1
  have HSM7 := Lib.hid (show (Try.prog.info? 88).map (·.size) = some (#[Value.int .u64 0, .int .u64 0, .int .u64 0, .int .u64 0, .int .u64 0, .int .u64 0, .int .u64 0] : Array Value).size by kernel_rfl)
  clear hw1 hb1 hr1 h hRP
  go_enter Try.func72, Try.ntmps72
  go_wp2_with fail
  rw [Try.zeroP7, ← HW1.out]
  refine RP.out.mono ?_
  rintro e w2 ⟨rfl, hb2⟩
  have HSZ := Lib.hid (show (Try.prog.info? 127).map (·.size) = some Try.zeroCells127.size by rw [Try.pairSize, Try.zeroPSize])
  have HB2 := Lib.hid (HB1.out.trans (hb2.mono HB1.out.size))
  have HR2 := Lib.hid ((hb2.block _ (lt_of_row HR1.out)).trans HR1.out)
  have HR5 := Lib.hid (show (w2.alloc (.cells Try.zeroCells127 127)).heap[w.heap.size]? = some (.cells noM.cells.toArray 88 (0, 0)) from (Below.heap_alloc _ _ _ (lt_of_row HR2.out)).trans HR2.out)
  have HB5 := Lib.hid (show Below w.heap.size w (w2.alloc (.cells Try.zeroCells127 127)) from HB2.out.alloc HB2.out.size _)
  clear hb2 RP
  go_wp2_with (first
    | (with_reducible show wpList _ _ _ _ _ _; refine wpList_store_new rfl 127 (.tmp 8) (.tmp 19) rfl 127 Try.zeroCells127 Try.zeroCells127 rfl rfl HSZ.out rfl Try.zeroPOnes ?_)
    | (with_reducible show wpList _ _ _ _ _ _; refine wpList_store_whole rfl 88 (.tmp 6) (.tmp 23) rfl w.heap.size 88 noM.cells.toArray #[Value.int .u64 0, .int .u64 0, .int .u64 0, .int .u64 0, .int .u64 0, .int .u64 0, .int .u64 0] rfl rfl HR5.out HSM7.out (by kernel_rfl) (by kernel_rfl) ?_))
  refine bodyPost_ret (results2_cell_row rfl _ _ w.heap.size 88 _ (0, 0) _ (.int .i64 c) rfl rfl (setRow_heap _ _ _ _ _ (0, 0) HR5.out) Try.underlying88 rfl HSM7.out) rfl ⟨by rw [Try.zeroP7], below_setRow HB5.out (Nat.le_refl _) _⟩
set_option maxRecDepth 100000 in
set_option maxHeartbeats 4000000 in
/-- Put of too many numbers. -/
theorem put_long (h : DiskAt Try.prog w d g m n x) (first : Nat) (hr : first + 2 ≤ x.s.length) (hdn : x.down = false) (ao : Option Addr) (N c : Nat) (h6 : 6 < N) :
    Calls Try.prog 72 #[.pointer (some ⟨d, 0, none⟩), .int .i64 (first : Int), .slice ao N c] w fun e w' => e = .returned (.tuple #[.agg noM.cells.toArray, .int .i64 2]) ∧ Below w.heap.size w w' := by
  have hb1 : Below w.heap.size w (w.alloc (.cells noM.cells.toArray 88)) := (Below.refl _ _).alloc (Nat.le_refl _) _
  have hr1 : (w.alloc (.cells noM.cells.toArray 88)).heap[w.heap.size]? = some (.cells noM.cells.toArray 88 (0, 0)) := heap_alloc_new _ _
  have RP := Lib.hid (readPair_ok (h.below hb1 (Nat.le_refl _)) first hr hdn)
  obtain ⟨w1, hw1⟩ : ∃ w1, w1 = w.alloc (.cells noM.cells.toArray 88) := ⟨_, rfl⟩
  rw [← hw1] at RP hb1 hr1
  have HW1 := Lib.hid hw1
  have HB1 := Lib.hid hb1
  have HR1 := Lib.hid hr1
  have H := Lib.hid h
  have hlen : (6 : Int) < (N : Int) := by omega
  clear hw1 hb1 hr1 h
  go_enter Try.func72, Try.ntmps72
  go_wp2_with fail
  rw [Try.zeroP7, ← HW1.out]
  refine RP.out.mono ?_
  rintro e w2 ⟨a, b, ha, hb, la, lb, rfl, hb2⟩
  have HA := Lib.hid ha
  have HBB := Lib.hid hb
  have HLA := Lib.hid la
  have HLB := Lib.hid lb
  have HSZ := Lib.hid (show (Try.prog.info? 127).map (·.size) = some (bvs a ++ bvs b).toArray.size by rw [Try.pairSize]; simp [la, lb, bvs_length])
  have HSO := Lib.hid (show Try.zeroCells127.size = (bvs a ++ bvs b).toArray.size by rw [Try.zeroPSize]; simp [la, lb, bvs_length])
  have H1 := Lib.hid (show (bvs a ++ bvs b).toArray.all (·.oneCell') = true from all_oneCell_toArray (fun u hu => by rcases List.mem_append.1 hu with h | h; exact bvs_one _ u h; exact bvs_one _ u h))
  have HB2 := Lib.hid (HB1.out.trans (hb2.mono HB1.out.size))
  have HR2 := Lib.hid ((hb2.block _ (lt_of_row HR1.out)).trans HR1.out)
  clear ha hb la lb hb2 RP
  have HX := Lib.hid (show (w2.alloc (.cells (bvs a ++ bvs b).toArray 127)).heap[w.heap.size]? = some (.cells noM.cells.toArray 88 (0, 0)) from (Below.heap_alloc _ _ _ (lt_of_row HR2.out)).trans HR2.out)
  have HBE := Lib.hid (show Below w.heap.size w (w2.alloc (.cells (bvs a ++ bvs b).toArray 127)) from HB2.out.alloc HB2.out.size _)
  have HSM7 := Lib.hid (show (Try.prog.info? 88).map (·.size) = some (#[Value.int .u64 0, .int .u64 0, .int .u64 0, .int .u64 0, .int .u64 0, .int .u64 0, .int .u64 0] : Array Value).size by kernel_rfl)
  go_wp2_with (first
    | (with_reducible show wpList _ _ _ _ _ _; refine wpList_store_new rfl 127 (.tmp 8) (.tmp 19) rfl 127 Try.zeroCells127 (bvs a ++ bvs b).toArray rfl rfl HSZ.out HSO.out H1.out ?_)
    | (with_reducible show wpList _ _ _ _ _ _; refine wpList_store_whole rfl 88 (.tmp 6) (.tmp 28) rfl w.heap.size 88 noM.cells.toArray #[Value.int .u64 0, .int .u64 0, .int .u64 0, .int .u64 0, .int .u64 0, .int .u64 0, .int .u64 0] rfl rfl HX.out HSM7.out (by kernel_rfl) (by kernel_rfl) ?_))
  refine bodyPost_ret (results2_cell_row rfl _ _ w.heap.size 88 _ (0, 0) _ (.int .i64 2) rfl rfl (setRow_heap _ _ _ _ _ (0, 0) HX.out) Try.underlying88 rfl HSM7.out) rfl ⟨by rw [Try.zeroP7], below_setRow HBE.out (Nat.le_refl _) _⟩
set_option maxRecDepth 100000 in
set_option maxHeartbeats 4000000 in
/-- Put where no number is left. -/
theorem put_full (h : DiskAt Try.prog w d g m n x) (first : Nat) (hr : first + 2 ≤ x.s.length) (hdn : x.down = false) (ao : Option Addr) (N c : Nat) (h6 : N ≤ 6) (hgr : 18446744073709551613 < x.great first) :
    Calls Try.prog 72 #[.pointer (some ⟨d, 0, none⟩), .int .i64 (first : Int), .slice ao N c] w fun e w' => e = .returned (.tuple #[.agg noM.cells.toArray, .int .i64 3]) ∧ Below w.heap.size w w' := by
  have hb1 : Below w.heap.size w (w.alloc (.cells noM.cells.toArray 88)) := (Below.refl _ _).alloc (Nat.le_refl _) _
  have hr1 : (w.alloc (.cells noM.cells.toArray 88)).heap[w.heap.size]? = some (.cells noM.cells.toArray 88 (0, 0)) := heap_alloc_new _ _
  have RP := Lib.hid (readPair_ok (h.below hb1 (Nat.le_refl _)) first hr hdn)
  obtain ⟨w1, hw1⟩ : ∃ w1, w1 = w.alloc (.cells noM.cells.toArray 88) := ⟨_, rfl⟩
  rw [← hw1] at RP hb1 hr1
  have HW1 := Lib.hid hw1
  have HB1 := Lib.hid hb1
  have HR1 := Lib.hid hr1
  have H := Lib.hid h
  have HGR := Lib.hid hgr
  have hlen : ¬ ((6 : Int) < (N : Int)) := by omega
  clear hw1 hb1 hr1 h hgr
  go_enter Try.func72, Try.ntmps72
  go_wp2_with fail
  rw [Try.zeroP7, ← HW1.out]
  refine RP.out.mono ?_
  rintro e w2 ⟨a, b, ha, hb, la, lb, rfl, hb2⟩
  have HA := Lib.hid ha
  have HBB := Lib.hid hb
  have HLA := Lib.hid la
  have HLB := Lib.hid lb
  have HSZ := Lib.hid (show (Try.prog.info? 127).map (·.size) = some (bvs a ++ bvs b).toArray.size by rw [Try.pairSize]; simp [la, lb, bvs_length])
  have HSO := Lib.hid (show Try.zeroCells127.size = (bvs a ++ bvs b).toArray.size by rw [Try.zeroPSize]; simp [la, lb, bvs_length])
  have H1 := Lib.hid (show (bvs a ++ bvs b).toArray.all (·.oneCell') = true from all_oneCell_toArray (fun u hu => by rcases List.mem_append.1 hu with h | h; exact bvs_one _ u h; exact bvs_one _ u h))
  have HB2 := Lib.hid (HB1.out.trans (hb2.mono HB1.out.size))
  have HR2 := Lib.hid ((hb2.block _ (lt_of_row HR1.out)).trans HR1.out)
  clear ha hb la lb hb2 RP
  go_wp2_with (with_reducible show wpList _ _ _ _ _ _; refine wpList_store_new rfl 127 (.tmp 8) (.tmp 19) rfl 127 Try.zeroCells127 (bvs a ++ bvs b).toArray rfl rfl HSZ.out HSO.out H1.out ?_)
  obtain ⟨g8, hg8⟩ : ∃ g8, g8 = w2.heap.size := ⟨_, rfl⟩
  obtain ⟨w3, hw3⟩ : ∃ w3, w3 = w2.alloc (.cells (bvs a ++ bvs b).toArray 127) := ⟨_, rfl⟩
  rw [← hg8, ← hw3]
  have hr8 : w3.heap[g8]? = some (.cells (bvs a ++ bvs b).toArray 127 (0, 0)) := by rw [hw3, hg8]; exact heap_alloc_new _ _
  have b3 : Below w2.heap.size w2 w3 := by rw [hw3]; exact (Below.refl _ _).alloc (Nat.le_refl _) _
  have HP := Lib.hid (show PairAt w3 g8 a b from ⟨hr8, HLA.out, HLB.out⟩)
  have GA := Lib.hid (greatest_any HP.out)
  have HB3 := Lib.hid (HB2.out.trans (b3.mono HB2.out.size))
  have HR3 := Lib.hid ((b3.block _ (lt_of_row HR2.out)).trans HR2.out)
  obtain ⟨G, hG⟩ : ∃ G, G = greatN a b 2 := ⟨_, rfl⟩
  rw [← hG] at GA
  have HG := Lib.hid (show G = x.great first by rw [hG, HA.out, HBB.out]; rfl)
  have hGl : 18446744073709551613 < G := by rw [HG.out]; exact HGR.out
  have hcg : (18446744073709551613 : Int) < (G : Int) := by omega
  have HGL := Lib.hid hGl
  clear hr8 b3 hw3 hG HB2 HR2 HSZ HSO H1 hGl hg8
  refine GA.out.mono ?_
  rintro e w4 ⟨rfl, hb4⟩
  have HBE := Lib.hid (HB3.out.trans (hb4.mono HB3.out.size))
  have HX := Lib.hid ((hb4.block _ (lt_of_row HR3.out)).trans HR3.out)
  have HSM7 := Lib.hid (show (Try.prog.info? 88).map (·.size) = some (#[Value.int .u64 0, .int .u64 0, .int .u64 0, .int .u64 0, .int .u64 0, .int .u64 0, .int .u64 0] : Array Value).size by kernel_rfl)
  clear hb4 GA HB3 HR3 HP
  go_wp2_with (with_reducible show wpList _ _ _ _ _ _; refine wpList_store_whole rfl 88 (.tmp 6) (.tmp 32) rfl w.heap.size 88 noM.cells.toArray #[Value.int .u64 0, .int .u64 0, .int .u64 0, .int .u64 0, .int .u64 0, .int .u64 0, .int .u64 0] rfl rfl HX.out HSM7.out (by kernel_rfl) (by kernel_rfl) ?_)
  refine bodyPost_ret (results2_cell_row rfl _ _ w.heap.size 88 _ (0, 0) _ (.int .i64 3) rfl rfl (setRow_heap _ _ _ _ _ (0, 0) HX.out) Try.underlying88 rfl HSM7.out) rfl ⟨by rw [Try.zeroP7], below_setRow HBE.out (Nat.le_refl _) _⟩
end Go.Proofs.Ytdjpeebekpjiiaa.Dk
