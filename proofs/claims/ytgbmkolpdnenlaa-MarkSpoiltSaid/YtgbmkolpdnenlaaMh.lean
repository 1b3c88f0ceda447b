/- A mark is durable on its sector. -/
import Derived.Test.YtgbmkolpdnenlaaMe
import Derived.Test.YtgbmkolpdnenlaaDl
namespace Go.Proofs.Ytgbmkolpdnenlaa.Dk
open Go Go.RowKit
set_option linter.unusedVariables false
set_option linter.unusedSimpArgs false

/-- On which sector a mark stands. -/
def MkD.at_ (mk : MkD) (first : Nat) : Int := ((first + mk.seq % 2 : Nat) : Int)
/-- What it is to write a mark: what is answered, and the disk then. -/
def DS.mark (x : DS) (first : Nat) (mk : MkD) : Int × DS :=
  if x.wcode (mk.at_ first) 128 = 0 then ((x.write (mk.at_ first) (layM mk)).fcode, (x.write (mk.at_ first) (layM mk)).flush) else (x.wcode (mk.at_ first) 128, x.write (mk.at_ first) (layM mk))
/-- What the operations of the second region leave in their slots. -/
def wrF (d first g7 : Nat) (mk : MkD) (c : Int) (j : Nat) (v : Value) (_ : World) : Prop := match j with
  | 0 => v = .pointer (some ⟨d, 0, none⟩)
  | 1 => v = .int .i64 (first : Int)
  | 2 => v = .agg mk.cells.toArray
  | 3 => v = .int .i64 ((mk.seq % 2 : Nat) : Int)
  | 4 => v = .int .i64 (mk.at_ first)
  | 5 => v = .slice (some ⟨g7, 0, none⟩) 128 128
  | 6 | 7 => v = .int .i64 c
  | _ => True
structure WrSt (w0 : World) (d g m n : Nat) (x y : DS) (l6 : Bool) (w : World) : Prop where
  frm : Frm (own3 d g m) w0 w
  disk : if l6 then DiskAt Try.prog w d g m (n + 1) y else DiskAt Try.prog w d g m n x
theorem wrapEq64 (x : Int) : IntKind.i64.wrap x = wrap64 x := by rw [IntKind.wrap_i64]; unfold wrap64; rfl
theorem WrSt.keep {w0 w w' : World} {d g m n : Nat} {x y : DS} {b : Bool} (h : WrSt w0 d g m n x y b w) (hb : Below w.heap.size w w') : WrSt w0 d g m n x y b w' := by
  refine ⟨h.frm.thenBelow hb (Nat.le_refl _), ?_⟩
  have := h.disk
  cases b
  · exact DiskAt.below (by simpa using this) hb (Nat.le_refl _)
  · exact DiskAt.below (by simpa using this) hb (Nat.le_refl _)
theorem hin_write {x : DS} (hin : ∀ i l, wfi i → x.S i = some l → x.has i = true) (j : Int) (b : List UInt8) : ∀ i l, wfi i → (x.write j b).S i = some l → (x.write j b).has i = true := by
  intro i l hw h
  unfold DS.write at h ⊢
  by_cases h1 : x.down = true
  · simp only [h1, if_true] at h ⊢; exact hin i l hw h
  · rw [if_neg h1] at h ⊢
    by_cases h2 : x.has j = false
    · simp only [h2, if_true] at h ⊢; exact hin i l hw h
    · rw [if_neg h2] at h ⊢
      by_cases h3 : 128 < b.length
      · simp only [h3, if_true] at h ⊢; exact hin i l hw h
      · rw [if_neg h3] at h ⊢
        by_cases h4 : b.length < 128
        · simp only [h4, if_true] at h ⊢; exact hin i l hw h
        · rw [if_neg h4] at h ⊢
          have e1 : x.spend.S = x.S := by unfold DS.spend; (repeat' split) <;> rfl
          have e2 : x.spend.s = x.s := by unfold DS.spend; (repeat' split) <;> rfl
          by_cases h5 : x.fuse = 0
          · simp only [h5, if_true] at h ⊢
            rw [e1] at h
            have := hin i l hw h
            unfold DS.has at this ⊢
            rw [e2]
            exact this
          · rw [if_neg h5] at h ⊢
            have hh : x.has i = true := by
              by_cases h6 : i = j
              · subst h6
                cases hb : x.has i with
                | false => exact absurd hb h2
                | true => rfl
              · simp only [upd, h6, if_false] at h
                exact hin i l hw h
            unfold DS.has at hh ⊢
            dsimp only
            rw [e2]
            exact hh
variable {w : World} {d g m n : Nat} {x : DS}
set_option maxRecDepth 100000 in
set_option maxHeartbeats 4000000 in
theorem kwrite_any (h : DiskAt Try.prog w d g m n x) (hn : n < maxLen) (hin : ∀ i l, wfi i → x.S i = some l → x.has i = true) (first : Nat) (hr : first + 2 ≤ x.s.length) (mk : MkD) (hmk : mk.Ok) :
    Calls Try.prog 37 #[.pointer (some ⟨d, 0, none⟩), .int .i64 (first : Int), .agg mk.cells.toArray] w fun e w' => e = .returned (.int .i64 (x.mark first mk).1) ∧ DiskAt Try.prog w' d g m (n + 1) (x.mark first mk).2 ∧ Frm (own3 d g m) w w' := by
  have hfw := h.few
  have hb1 : Below w.heap.size w (w.alloc (.cells mk.cells.toArray 34)) := (Below.refl _ _).alloc (Nat.le_refl _) _
  have hr1 : (w.alloc (.cells mk.cells.toArray 34)).heap[w.heap.size]? = some (.cells mk.cells.toArray 34 (0, 0)) := heap_alloc_new _ _
  have HR1 := Lib.hid hr1
  have HB1 := Lib.hid hb1
  have H := Lib.hid h
  have HSM := Lib.hid (Try.markSize hmk)
  have HOK := Lib.hid hmk
  have LY := Lib.hid (lay_any mk hmk (w.alloc (.cells mk.cells.toArray 34)))
  have hll := layM_length (m := mk) hmk.len
  have HLL := Lib.hid hll
  have HSZ2 := Lib.hid (show (Try.prog.info? 93).map (·.size) = some (bvs (layM mk)).toArray.size by rw [List.size_toArray, bvs_length, hll]; kernel_rfl)
  have HSO := Lib.hid (show Try.zeroCells93.size = (bvs (layM mk)).toArray.size by rw [Try.zeroM, List.size_toArray, bvs_length, hll])
  clear h hb1 hr1 hll
  go_enter Try.func37, Try.ntmps37
  go_wp2_with (with_reducible show wpList _ _ _ _ _ _; refine wpList_load_all rfl 34 (.tmp 5) rfl ⟨w.heap.size, 0, none⟩ rfl mk.cells _ (cells_row HR1.out) Try.underlying34 rfl HSM.out ?_)
  refine LY.out.mono ?_
  rintro e w2 ⟨rfl, hb2⟩
  have HB2 := Lib.hid (HB1.out.trans (hb2.mono HB1.out.size))
  have HR2 := Lib.hid ((hb2.block _ (lt_of_row HR1.out)).trans HR1.out)
  clear hb2 LY
  go_wp2_with (with_reducible show wpList _ _ _ _ _ _; refine wpList_store_new rfl 93 (.tmp 7) (.tmp 10) rfl 93 Try.zeroCells93 (bvs (layM mk)).toArray rfl rfl HSZ2.out HSO.out (all_bvs _) ?_)
  obtain ⟨g7, hg7⟩ : ∃ g7, g7 = w2.heap.size := ⟨_, rfl⟩
  obtain ⟨w3, hw3⟩ : ∃ w3, w3 = w2.alloc (.cells (bvs (layM mk)).toArray 93) := ⟨_, rfl⟩
  rw [← hg7, ← hw3]
  have hr7 : w3.heap[g7]? = some (.cells (bvs (layM mk)).toArray 93 (0, 0)) := by rw [hw3, hg7]; exact heap_alloc_new _ _
  have b3 : Below w2.heap.size w2 w3 := by rw [hw3]; exact (Below.refl _ _).alloc (Nat.le_refl _) _
  have b03 : Below w.heap.size w w3 := HB2.out.trans (b3.mono HB2.out.size)
  have hr5 := (b3.block _ (lt_of_row HR2.out)).trans HR2.out
  have hD3 := H.out.below b03 (Nat.le_refl _)
  have hz : w.heap.size ≤ g7 := by rw [hg7]; exact HB2.out.size
  have ho5 : ¬ own3 d g m w.heap.size := fun e => by have h1 := H.out.dlt; have h2 := H.out.glt; have h3 := H.out.mlt; rcases e with e | e | e <;> omega
  have ho7 : ¬ own3 d g m g7 := fun e => by have h1 := H.out.dlt; have h2 := H.out.glt; have h3 := H.out.mlt; rcases e with e | e | e <;> omega
  obtain ⟨c, hc⟩ : ∃ c, c = x.wcode (mk.at_ first) 128 := ⟨_, rfl⟩
  obtain ⟨y, hy⟩ : ∃ y, y = x.write (mk.at_ first) (layM mk) := ⟨_, rfl⟩
  have hmod : mk.seq % 2 < 2 := Nat.mod_lt _ (by decide)
  have hat : wrap64 ((first : Int) + ((mk.seq % 2 : Nat) : Int)) = mk.at_ first := by unfold wrap64 MkD.at_; omega
  have hwat : wfi (mk.at_ first) := WalkArith.wf_i64 (by unfold MkD.at_; omega)
  have HC := Lib.hid hc
  have HY := Lib.hid hy
  have HAT := Lib.hid hat
  have HB03 := Lib.hid b03
  clear b3 hc hy hg7 hw3 HB2 HR1 HR2 HB1 hat
  refine wp_region_slots (by kernel_rfl) (by kernel_rfl)
    (fun z => ⟨#[.pointer (some ⟨d, 0, none⟩), .int .i64 (first : Int), .agg mk.cells.toArray, undef, undef, .pointer (some ⟨w.heap.size, 0, none⟩), .int .i64 0, .pointer (some ⟨g7, 0, none⟩), z 7, .agg mk.cells.toArray, .agg (bvs (layM mk)).toArray, z 0, z 1, z 2, z 3, z 4, z 5, z 6, undef, undef, undef, undef, undef], []⟩)
    (wrF d first g7 mk c) (fun L w' => WrSt w3 d g m n x y (L 6) w') (fun _ _ => True) (fun _ _ _ _ _ h => h) ?_ ?_ (fun _ => undef) rfl ?_
  · intro i' o ho L z wx hd hi' hx hs
    match i', ho with
    | 0, ho =>
      obtain rfl := Option.some.inj ho
      exact slot_run rfl ⟨_, rfl, trivial, rfl, hs⟩
    | 1, ho =>
      obtain rfl := Option.some.inj ho
      exact slot_run rfl ⟨_, rfl, trivial, rfl, hs⟩
    | 2, ho =>
      obtain rfl := Option.some.inj ho
      exact slot_load 34 (.tmp 5) rfl ⟨w.heap.size, 0, none⟩ rfl mk.cells _ (cells_row ((hs.frm.block _ (lt_of_row hr5) ho5).trans hr5)) Try.underlying34 rfl HSM.out ⟨_, rfl, trivial, rfl, hs⟩
    | 3, ho =>
      obtain rfl := Option.some.inj ho
      have z2 : z 2 = .agg mk.cells.toArray := hx 2 (hd ⟨2, .data⟩ (by simp) rfl)
      refine slot_call #[.agg mk.cells.toArray] rfl Try.func36 (by kernel_rfl) (by kernel_rfl) (by simp [Act.eval, z2]) ?_
      refine (place_any mk HOK.out wx).mono ?_
      rintro e w' ⟨rfl, hb⟩
      exact ⟨_, rfl, _, rfl, trivial, rfl, hs.keep hb⟩
    | 4, ho =>
      obtain rfl := Option.some.inj ho
      have z1 : z 1 = .int .i64 (first : Int) := hx 1 (hd ⟨1, .data⟩ (by simp) rfl)
      have z3 : z 3 = .int .i64 ((mk.seq % 2 : Nat) : Int) := hx 3 (hd ⟨3, .data⟩ (by simp) rfl)
      refine slot_run (v := .int .i64 (mk.at_ first)) (w' := wx) ?_ ⟨_, rfl, trivial, rfl, hs⟩
      refine runWith (fun q => match q with | .tmp 12 => z 1 | _ => z 3) (by kernel_rfl) ?_
      rw [z1, z3, ← HAT.out]
      go_simp
      exact wrapEq64 _
    | 5, ho =>
      obtain rfl := Option.some.inj ho
      exact slot_run (v := .slice (some ⟨g7, 0, none⟩) 128 128) (w' := wx) (by kernel_rfl) ⟨_, rfl, trivial, rfl, hs⟩
    | 6, ho =>
      obtain rfl := Option.some.inj ho
      have z0 : z 0 = .pointer (some ⟨d, 0, none⟩) := hx 0 (hd ⟨0, .data⟩ (by simp) rfl)
      have z4 : z 4 = .int .i64 (mk.at_ first) := hx 4 (hd ⟨4, .data⟩ (by simp) rfl)
      have z5 : z 5 = .slice (some ⟨g7, 0, none⟩) 128 128 := hx 5 (hd ⟨5, .data⟩ (by simp) rfl)
      have hdk := hs.disk
      rw [hi', if_neg (by decide)] at hdk
      refine slot_call #[.pointer (some ⟨d, 0, none⟩), .int .i64 (mk.at_ first), .slice (some ⟨g7, 0, none⟩) 128 128] rfl Try.func18 (by kernel_rfl) (by kernel_rfl) (by simp [Act.eval, z0, z4, z5]) ?_
      refine (write_own hdk hn (mk.at_ first) hwat (l := layM mk) (t := 93) ⟨g7, rfl, (hs.frm.block _ (lt_of_row hr7) ho7).trans hr7, HLL.out, ho7⟩).mono ?_
      rintro e w' ⟨rfl, hD', hF'⟩
      rw [← HC.out]
      rw [← HY.out] at hD'
      exact ⟨_, rfl, _, rfl, trivial, rfl, ⟨hs.frm.trans hF', hD'⟩⟩
    | 7, ho =>
      obtain rfl := Option.some.inj ho
      have z6 : z 6 = .int .i64 c := hx 6 (hd ⟨6, .data⟩ (by simp) rfl)
      exact slot_run rfl ⟨_, rfl, trivial, z6, hs⟩
    | k + 8, ho => simp at ho
  · intro L z wx hall hx hs
    have z7 : z 7 = .int .i64 c := hx 7 (hall 7 (by decide))
    rw [z7]
    have hdk := hs.disk
    rw [hall 6 (by decide), if_pos rfl] at hdk
    have HF := Lib.hid ((Frm.of_below (T := own3 d g m) HB03.out (Nat.le_refl _)).trans hs.frm)
    have HDK := Lib.hid hdk
    have FL := Lib.hid (flush_any hdk (by rw [HY.out]; exact hin_write hin _ _))
    clear hall hx hs z7 hdk
    have HMK := Lib.hid (show x.mark first mk = if c = 0 then (y.fcode, y.flush) else (c, y) by unfold DS.mark; rw [← HC.out, ← HY.out])
    by_cases hc0 : c = 0
    · go_wp2_with fail
      refine FL.out.mono ?_
      rintro e w' ⟨rfl, hD', hF'⟩
      have HD' := Lib.hid hD'
      have HF' := Lib.hid hF'
      clear hD' hF'
      go_wp2_with fail
      go_ret
      rw [HMK.out, if_pos hc0]
      exact ⟨rfl, HD'.out, HF.out.trans HF'.out⟩
    · go_wp2_with fail
      go_ret
      rw [HMK.out, if_neg hc0]
      exact ⟨rfl, HDK.out, HF.out⟩
  · exact ⟨(Frm.refl _ _).drew, hD3.keep rfl rfl rfl⟩
end Go.Proofs.Ytgbmkolpdnenlaa.Dk
