/- A task is done by who has it. -/
import Derived.Test.YtkmhbbcppjckiaaMY9
namespace Go.Proofs.Ytkmhbbcppjckiaa.Ma
open Go Go.RowKit Go.Proofs.Ytkmhbbcppjckiaa
open Go.Proofs.Ytkmhbbcppjckiaa.Hp (i64wf K3 wf3)
open Go.Proofs.Ytkmhbbcppjckiaa.Qu
open Go.Proofs.Ytkmhbbcppjckiaa.Dk (Frm below_drewN)
set_option linter.unusedVariables false
set_option linter.unusedSimpArgs false
set_option maxRecDepth 100000
variable {w w' wx : World} {X : Nat → Prop} {b gm c n : Nat} {Mm : MM} {now : Int} {S : Int → Bool} {D : Nat → Bool}
/-- A world above, with boxes that are new. -/
theorem HX.belowX {Y : Nat → Prop} (h : HX w b gm X Mm now c S wx) (hb : Below wx.heap.size wx w') (hY : ∀ q, Y q → wx.heap.size ≤ q ∧ q < w'.heap.size) : HX w b gm (fun q => X q ∨ Y q) Mm now c S w' ∧ KX X wx w' := by
  obtain ⟨⟨T', hM, hT⟩, hF, hX, hm⟩ := h
  refine ⟨⟨⟨T', hM.below hb, fun q hq => ⟨(hT q hq).1, Nat.lt_of_lt_of_le (hT q hq).2.1 hb.size, fun hx => ?_, (hT q hq).2.2.2⟩⟩, hF.thenBelow hb (Nat.le_refl _), fun q hq => ?_, hm.keep (hb.block gm hm.lt)⟩, ⟨fun q hq => hb.block q (hX q hq).1, hb.size⟩⟩
  · rcases hx with hx | hx
    · exact (hT q hq).2.2.1 hx
    · have := (hT q hq).2.1; have := hY q hx; omega
  · rcases hq with hq | hq
    · exact ⟨Nat.lt_of_lt_of_le (hX q hq).1 hb.size, (hX q hq).2⟩
    · have := hm.lt
      have := hY q hq
      exact ⟨by omega, by omega⟩
theorem KX.lessX {Y : Nat → Prop} (h : KX (fun q => X q ∨ Y q) wx w') : KX X wx w' := ⟨fun q hq => h.keep q (.inl hq), h.size⟩
/-- What stands while a lease is looked at. -/
structure FiI (w0 : World) (L : Ls) (s12 s13 : Bool) (p : Nat) (wx : World) : Prop where
  low : Below w0.heap.size w0 wx
  new : s12 = true → w0.heap.size ≤ p ∧ wx.heap[p]? = some (.cells (if s13 = true then L else l0).cs.toArray 80 (0, 0))
theorem FiI.call {w0 : World} {L : Ls} {s12 s13 : Bool} {p : Nat} (h : FiI w0 L s12 s13 p wx) (hb : Below wx.heap.size wx w') : FiI w0 L s12 s13 p w' :=
  ⟨h.low.trans (hb.mono h.low.size), fun e => ⟨(h.new e).1, (hb.block p (lt_of_rowW (h.new e).2)).trans (h.new e).2⟩⟩
theorem FiI.made {w0 : World} {L : Ls} {p : Nat} (h : FiI w0 L false false p wx) : FiI w0 L true false wx.heap.size (wx.alloc (.cells l0.cs.toArray 80)) := by
  have b1 : Below wx.heap.size wx (wx.alloc (.cells l0.cs.toArray 80)) := (Below.refl _ _).alloc (Nat.le_refl _) _
  exact ⟨h.low.trans (b1.mono h.low.size), fun _ => ⟨h.low.size, heap_alloc_new _ _⟩⟩
theorem FiI.stored {w0 : World} {L : Ls} {p : Nat} (h : FiI w0 L true false p wx) : FiI w0 L true true p (wx.setRow p L.cs.toArray) :=
  ⟨below_setRowK h.low (h.new rfl).1 _, fun _ => ⟨(h.new rfl).1, setRow_heap _ p _ _ _ _ (h.new rfl).2⟩⟩
theorem wpList_putI {ops : Array Oper} {rest : List Oper} {o : Oper} {a : Act} {Q : Exit → Act → World → Prop} {m c : Nat} (hg : o.guard = none) (x1 x2 x3 : Operand) (hop : o.op = Op.mapUpdate 103 x1 x2 x3) (hm : a.eval x1 = .map (some m)) (h : IMap w m c S) (hc : c < maxLen) {x : Int} (hx : a.eval x2 = .int .i64 x) (hw : i64wf x) (hn : S x = false) (hv : a.eval x3 = .bool true)
    (hK : ∀ w', IMap w' m (c + 1) (fun y => if y = x then true else S y) → w.mapTurned w' m → wpList Try.prog ops Q rest (a.put o.dst undef) w') : wpList Try.prog ops Q (o :: rest) a w := by
  refine wpList_plain hg fun K' hK' => ?_
  obtain ⟨w', hrun, r1, r2⟩ := h.put_run hc hw hn
  unfold Oper.wp
  simp [execOp, hop, hm, hx, hv, hrun, Result.andThen]
  exact hK' _ _ (hK w' r1 r2)
set_option maxHeartbeats 2000000 in
theorem hx_finish (h : HX w b gm X Mm now c S wx) (tok : Int) (hE : Mm.E.length ≤ 1000) (hc : c ≤ 1000) (i : Int) (hi : (Mm.gt tok now).2 = 0 → (Mm.gt tok now).1.key.1 = i ∧ i64wf i ∧ S i = false ∧ (Mm.E.any fun l => decide (l.tok = tok)) = true) :
    Calls Try.prog 44 #[.pointer (some ⟨b, 0, none⟩), .int .u64 tok] wx fun e w' => e = .returned (.bool true) ∧ KX X wx w' ∧ ((Mm.gt tok now).2 = 0 → HX w b gm X (Mm.dn tok) now (c + 1) (fun y => if y = i then true else S y) w') ∧ ((Mm.gt tok now).2 ≠ 0 → HX w b gm X Mm now c S w') := by
  obtain ⟨L, e0, hL⟩ : ∃ L e0, Mm.gt tok now = (L, e0) := ⟨_, _, rfl⟩
  have GE := Lib.hid (fun (W : World) (hW : Below wx.heap.size wx W) => hx_get (h.below hW).1 tok now hE)
  rw [hL] at GE hi ⊢
  have he : e0 = 0 ∨ e0 = 210 := by
    have := gt_cases Mm tok now
    rw [hL] at this
    rcases this with h | h
    · exact .inl h
    · exact .inr h.1
  have HH := Lib.hid h
  have CN := Lib.hid (fun (W : World) (hW : Below wx.heap.size wx W) => (h.below hW).1.cells)
  have SL := Lib.hid (fun l : Ls => lsSizeA l)
  have OL := Lib.hid (fun l : Ls => l.oneA)
  have HI := Lib.hid hi
  have I0 := Lib.hid (show FiI wx L false false 0 wx.drew from ⟨below_drewN (Below.refl _ _) 1, (fun e => by cases e)⟩)
  obtain ⟨w0, hw0⟩ : ∃ w0, w0 = wx := ⟨_, rfl⟩
  rw [← hw0] at GE HH CN I0 ⊢
  clear hw0 h hi hL
  go_enter Try.func44, Try.ntmps44
  go_upto_region 1 with fail
  refine wp_region_par (α := Nat) (by kernel_rfl) (by kernel_rfl) (by kernel_rfl) (fun y => ⟨#[.pointer (some ⟨b, 0, none⟩), .int .u64 tok, undef, undef, .bool false, y 12, y 14, y 9, y 0, y 1, y 2, y 3, y 4, y 5, y 6, y 7, y 8, y 10, y 11, undef, undef, undef, undef, undef, undef, undef, undef, undef, undef, undef, undef, undef, undef, undef, undef, undef, undef, undef, undef, undef, undef, undef, undef, undef], []⟩) (fun p j q => match j with | 0 => q = .pointer (some ⟨b, 0, none⟩) | 1 => q = .pointer (some ⟨b, 0, none⟩) | 2 => q = .pointer (some ⟨b, 0, none⟩) | 3 => q = .int .u64 tok | 4 => q = .pointer (some ⟨b, 0, none⟩) | 5 => q = .pointer (some ⟨b, 0, none⟩) | 6 => q = .pointer (some ⟨b, 197, none⟩) | 7 => q = .int .i64 now | 8 => q = .tuple #[.agg L.cs.toArray, .int .i64 e0] | 9 => q = .tuple #[.agg L.cs.toArray, .int .i64 e0] | 10 => q = .agg L.cs.toArray | 11 => q = .int .i64 e0 | 12 => q = .pointer (some ⟨p, 0, none⟩) | 14 => q = .int .i64 e0 | _ => True) (fun M p wx => FiI w0 L (M 12) (M 13) p wx) (fun i => [8, 12, 13].contains i) (fun i j => (i == 8 && decide (j == 9 || j == 10 || j == 11 || j == 13 || j == 14)) || (i == 12 && j == 13)) (parOk_spec (by kernel_rfl)) ?_ ?_ ?_ (fun _ => undef) 0 rfl (by exact I0.out)
  · intro i' o hsrc ho M p y wx hd hi' hI
    match i', ho with
    | 0, ho =>
      obtain rfl := Option.some.inj ho
      refine ⟨.pointer (some ⟨b, 0, none⟩), ?_, rfl, rfl, hI⟩
      refine runWithP (fun z => match z with  | .tmp 0 => .pointer (some ⟨b, 0, none⟩) | .const c => c | _ => undef) (by kernel_rfl) ?_
      go_simp
    | 1, ho =>
      obtain rfl := Option.some.inj ho
      have y0 : y 0 = .pointer (some ⟨b, 0, none⟩) := hd ⟨0, .data⟩ (by simp) rfl
      refine ⟨.pointer (some ⟨b, 0, none⟩), ?_, rfl, rfl, hI⟩
      refine runWithP (fun z => match z with | .tmp 8 => y 0 | .const c => c | _ => undef) (by kernel_rfl) ?_
      rw [y0]
      go_simp
    | 2, ho =>
      obtain rfl := Option.some.inj ho
      have y0 : y 1 = .pointer (some ⟨b, 0, none⟩) := hd ⟨1, .data⟩ (by simp) rfl
      refine ⟨.pointer (some ⟨b, 0, none⟩), ?_, rfl, rfl, hI⟩
      refine runWithP (fun z => match z with | .tmp 9 => y 1 | .const c => c | _ => undef) (by kernel_rfl) ?_
      rw [y0]
      go_simp
    | 3, ho =>
      obtain rfl := Option.some.inj ho
      refine ⟨.int .u64 tok, ?_, rfl, rfl, hI⟩
      refine runWithP (fun z => match z with  | .tmp 1 => .int .u64 tok | .const c => c | _ => undef) (by kernel_rfl) ?_
      go_simp
    | 4, ho =>
      obtain rfl := Option.some.inj ho
      refine ⟨.pointer (some ⟨b, 0, none⟩), ?_, rfl, rfl, hI⟩
      refine runWithP (fun z => match z with  | .tmp 0 => .pointer (some ⟨b, 0, none⟩) | .const c => c | _ => undef) (by kernel_rfl) ?_
      go_simp
    | 5, ho =>
      obtain rfl := Option.some.inj ho
      have y0 : y 4 = .pointer (some ⟨b, 0, none⟩) := hd ⟨4, .data⟩ (by simp) rfl
      refine ⟨.pointer (some ⟨b, 0, none⟩), ?_, rfl, rfl, hI⟩
      refine runWithP (fun z => match z with | .tmp 12 => y 4 | .const c => c | _ => undef) (by kernel_rfl) ?_
      rw [y0]
      go_simp
    | 6, ho =>
      obtain rfl := Option.some.inj ho
      have y0 : y 5 = .pointer (some ⟨b, 0, none⟩) := hd ⟨5, .data⟩ (by simp) rfl
      refine ⟨.pointer (some ⟨b, 197, none⟩), ?_, rfl, rfl, hI⟩
      refine runWithP (fun z => match z with | .tmp 13 => y 5 | .const c => c | _ => undef) (by kernel_rfl) ?_
      rw [y0]
      go_simp
    | 7, ho =>
      obtain rfl := Option.some.inj ho
      have y0 : y 6 = .pointer (some ⟨b, 197, none⟩) := hd ⟨6, .data⟩ (by simp) rfl
      have cx := (CN.out wx hI.low).1
      refine ⟨.int .i64 now, ?_, rfl, rfl, hI⟩
      refine runWithP (fun z => match z with | .tmp 14 => y 6 | .const c => c | _ => undef) (by kernel_rfl) ?_
      rw [y0]
      go_simp
    | 8, ho =>
      obtain rfl := Option.some.inj ho
      cases hsrc
    | 9, ho =>
      obtain rfl := Option.some.inj ho
      have y0 : y 8 = .tuple #[.agg L.cs.toArray, .int .i64 e0] := hd ⟨8, .data⟩ (by simp) rfl
      refine ⟨.tuple #[.agg L.cs.toArray, .int .i64 e0], ?_, rfl, rfl, hI⟩
      refine runWithP (fun z => match z with | .tmp 16 => y 8 | .const c => c | _ => undef) (by kernel_rfl) ?_
      rw [y0]
      go_simp
    | 10, ho =>
      obtain rfl := Option.some.inj ho
      have y0 : y 9 = .tuple #[.agg L.cs.toArray, .int .i64 e0] := hd ⟨9, .data⟩ (by simp) rfl
      refine ⟨.agg L.cs.toArray, ?_, rfl, rfl, hI⟩
      refine runWithP (fun z => match z with | .tmp 7 => y 9 | .const c => c | _ => undef) (by kernel_rfl) ?_
      rw [y0]
      go_simp
    | 11, ho =>
      obtain rfl := Option.some.inj ho
      have y0 : y 9 = .tuple #[.agg L.cs.toArray, .int .i64 e0] := hd ⟨9, .data⟩ (by simp) rfl
      refine ⟨.int .i64 e0, ?_, rfl, rfl, hI⟩
      refine runWithP (fun z => match z with | .tmp 7 => y 9 | .const c => c | _ => undef) (by kernel_rfl) ?_
      rw [y0]
      go_simp
    | 12, ho =>
      obtain rfl := Option.some.inj ho
      cases hsrc
    | 13, ho =>
      obtain rfl := Option.some.inj ho
      cases hsrc
    | 14, ho =>
      obtain rfl := Option.some.inj ho
      have y0 : y 11 = .int .i64 e0 := hd ⟨11, .data⟩ (by simp) rfl
      refine ⟨.int .i64 e0, ?_, rfl, rfl, hI⟩
      refine runWithP (fun z => match z with | .tmp 18 => y 11 | .const c => c | _ => undef) (by kernel_rfl) ?_
      rw [y0]
      go_simp
    | j + 15, ho => cases ho
  · intro i' o hsrc ho M p y wx hd hi' hlat hI
    match i', hsrc, ho with
    | 0, hsrc, ho =>
      cases hsrc
    | 1, hsrc, ho =>
      cases hsrc
    | 2, hsrc, ho =>
      cases hsrc
    | 3, hsrc, ho =>
      cases hsrc
    | 4, hsrc, ho =>
      cases hsrc
    | 5, hsrc, ho =>
      cases hsrc
    | 6, hsrc, ho =>
      cases hsrc
    | 7, hsrc, ho =>
      cases hsrc
    | 8, hsrc, ho =>
      obtain rfl := Option.some.inj ho
      have y2 : y 2 = .pointer (some ⟨b, 0, none⟩) := (hd ⟨2, .data⟩ (by simp) rfl).2
      have y3 : y 3 = .int .u64 tok := (hd ⟨3, .data⟩ (by simp) rfl).2
      have y7 : y 7 = .int .i64 now := (hd ⟨7, .data⟩ (by simp) rfl).2
      refine slot_call #[.pointer (some ⟨b, 0, none⟩), .int .u64 tok, .int .i64 now] rfl Try.func29 (by kernel_rfl) (by kernel_rfl) (by simp [Act.eval, y2, y3, y7]) ?_
      refine (GE.out wx hI.low).mono ?_
      rintro e w' ⟨rfl, hb⟩
      refine ⟨_, rfl, _, p, rfl, rfl, fun j q _ _ h => h, ?_⟩
      exact hI.call hb
    | 9, hsrc, ho =>
      cases hsrc
    | 10, hsrc, ho =>
      cases hsrc
    | 11, hsrc, ho =>
      cases hsrc
    | 12, hsrc, ho =>
      obtain rfl := Option.some.inj ho
      have h13 : M 13 = false := hlat 13 rfl
      rw [hi', h13] at hI
      refine slot_giveP (v := .pointer (some ⟨wx.heap.size, 0, none⟩)) (w' := wx.alloc (.cells l0.cs.toArray 80)) ?_ ⟨_, wx.heap.size, rfl, rfl, ?_, ?_⟩
      · kernel_rfl
      · intro j q hne hl hF
        match j, hne, hF with
        | 0, _, hF => exact hF
        | 1, _, hF => exact hF
        | 2, _, hF => exact hF
        | 3, _, hF => exact hF
        | 4, _, hF => exact hF
        | 5, _, hF => exact hF
        | 6, _, hF => exact hF
        | 7, _, hF => exact hF
        | 8, _, hF => exact hF
        | 9, _, hF => exact hF
        | 10, _, hF => exact hF
        | 11, _, hF => exact hF
        | 12, hne, _ => exact absurd rfl hne
        | 13, _, _ => exact absurd hl (by decide)
        | 14, _, hF => exact hF
        | j + 15, _, _ => trivial
      · show FiI w0 L true (M 13) wx.heap.size _
        rw [h13]
        exact hI.made
    | 13, hsrc, ho =>
      obtain rfl := Option.some.inj ho
      have h12 := hd ⟨12, .data⟩ (by simp) rfl
      have y12 : y 12 = .pointer (some ⟨p, 0, none⟩) := h12.2
      have y10 : y 10 = .agg L.cs.toArray := (hd ⟨10, .data⟩ (by simp) rfl).2
      rw [h12.1, hi'] at hI
      refine slot_storeP 80 (.tmp 5) (.tmp 17) rfl p 80 l0.cs.toArray L.cs.toArray y12 y10 (hI.new rfl).2 (SL.out _) rfl (OL.out _) ?_
      refine ⟨undef, p, rfl, trivial, fun j q _ _ h => h, ?_⟩
      show FiI w0 L (M 12) true p _
      rw [h12.1]
      exact hI.stored
    | 14, hsrc, ho =>
      cases hsrc
    | j + 15, hsrc, ho => cases ho
  · rintro M p y wx hall hI
    have y12 : y 12 = .pointer (some ⟨p, 0, none⟩) := (hall 12 (by decide)).2
    have y14 : y 14 = .int .i64 e0 := (hall 14 (by decide)).2
    try dsimp only
    rw [y12, y14]
    rw [(hall 12 (by decide)).1, (hall 13 (by decide)).1] at hI
    obtain ⟨p5, hp5⟩ : ∃ q, q = p := ⟨_, rfl⟩
    obtain ⟨w3, hw3⟩ : ∃ w3, w3 = wx := ⟨_, rfl⟩
    rw [← hp5, ← hw3] at hI ⊢
    have hz : ∃ z0 z1 z2 z3 z4 z5 z6 z7 z8 z9 z10 z11 : Value, z0 = y 0 ∧ z1 = y 1 ∧ z2 = y 2 ∧ z3 = y 3 ∧ z4 = y 4 ∧ z5 = y 5 ∧ z6 = y 6 ∧ z7 = y 7 ∧ z8 = y 8 ∧ z9 = y 9 ∧ z10 = y 10 ∧ z11 = y 11 := ⟨_, _, _, _, _, _, _, _, _, _, _, _, rfl, rfl, rfl, rfl, rfl, rfl, rfl, rfl, rfl, rfl, rfl, rfl⟩
    obtain ⟨z0, z1, z2, z3, z4, z5, z6, z7, z8, z9, z10, z11, hz0, hz1, hz2, hz3, hz4, hz5, hz6, hz7, hz8, hz9, hz10, hz11⟩ := hz
    rw [← hz0, ← hz1, ← hz2, ← hz3, ← hz4, ← hz5, ← hz6, ← hz7, ← hz8, ← hz9, ← hz10, ← hz11]
    have N3 := Lib.hid (show w3.heap[p5]? = some (.cells L.cs.toArray 80 (0, 0)) from (hI.new rfl).2)
    have H3 := Lib.hid (HH.out.belowX (Y := fun q => q = p5) hI.low (fun q hq => by rw [hq]; exact ⟨(hI.new rfl).1, lt_of_rowW (hI.new rfl).2⟩))
    clear hI hall y12 y14 hp5 hw3 hz0 hz1 hz2 hz3 hz4 hz5 hz6 hz7 hz8 hz9 hz10 hz11 I0 GE
    rcases he with rfl | rfl
    · obtain ⟨hi1, hi2, hi3, hi4⟩ := HI.out rfl
      obtain ⟨c197, f197, c198⟩ := H3.out.1.cells
      have k0 : w3.cell? ⟨p5, 1, none⟩ = some (.int .i64 i) := by
        rw [cell_of_row w3 p5 1 _ _ _ N3.out, ← hi1]
        rfl
      have LK := fun (nq : Nat) => (show (Instr.lookup 103 (.map (some gm)) (.int .i64 i) false).run Try.prog (w3.drewN nq) = .ok (.bool false) (w3.drewN nq) from by
        have := ((H3.out.1.below (below_drewN (Below.refl _ _) nq)).1.map.look hi2)
        rw [hi3] at this
        exact this)
      have DN := Lib.hid (fun (W : World) (hW : Below w3.heap.size w3 W) => hx_done (H3.out.1.below hW).1 tok hE)
      rw [hi4] at DN
      have HI3 := Lib.hid hi3
      clear hi1 hi3 hi4 f197 HI
      go_upto_region 4 with fail
      refine wp_region_quiet_tail 13 (by kernel_rfl) (by kernel_rfl) ?_
      simp only [List.take_succ_cons, List.take_zero, List.drop_succ_cons, List.drop_zero]
      repeat (go_big_quiet_step (fail))
      refine wpQuiet_nil ?_
      intro _ hw'
      obtain ⟨nq, hw''⟩ := hw'
      subst hw''
      have B4 := Lib.hid (below_drewN (Below.refl w3.heap.size w3) nq)
      obtain ⟨w4, hw4⟩ : ∃ x, x = w3.drewN nq := ⟨_, rfl⟩
      have K4 := Lib.hid (show KX (fun q => X q ∨ q = p5) w3 w4 from by rw [hw4]; exact ⟨fun q _ => rfl, Nat.le_refl _⟩)
      rw [← hw4] at B4 ⊢
      clear hw4 LK
      go_upto_region 6 with (first
        | ((with_reducible refine (DN.out _ B4.out).mono ?_); rintro e w5 ⟨rfl, hx5, hk5⟩))
      have n5 := (hk5.keep p5 (.inr rfl)).trans ((K4.out.keep p5 (.inr rfl)).trans N3.out)
      have k5 : w5.cell? ⟨p5, 1, none⟩ = some (.int .i64 i) := by
        have := (cell_of_row w3 p5 1 _ _ _ N3.out).symm.trans k0
        rw [cell_of_row w5 p5 1 _ _ _ n5]
        exact this
      obtain ⟨d197, _, d198⟩ := hx5.cells
      have H5 := Lib.hid hx5
      have K5 := Lib.hid (H3.out.2.trans (K4.out.lessX.trans hk5.lessX))
      clear hx5 hk5 n5 k0 c197 c198 d197 DN
      refine wp_region_quiet_tail 7 (by kernel_rfl) (by kernel_rfl) ?_
      simp only [List.take_succ_cons, List.take_zero, List.drop_succ_cons, List.drop_zero]
      repeat (go_big_quiet_step (fail))
      refine wpQuiet_nil ?_
      intro _ hw'
      obtain ⟨nq, hw''⟩ := hw'
      subst hw''
      have B6 := Lib.hid (below_drewN (Below.refl w5.heap.size w5) nq)
      obtain ⟨w6, hw6⟩ : ∃ x, x = w5.drewN nq := ⟨_, rfl⟩
      have K6 := Lib.hid (show KX X w5 w6 from by rw [hw6]; exact ⟨fun q _ => rfl, Nat.le_refl _⟩)
      rw [← hw6] at B6 ⊢
      clear hw6
      have H6 := Lib.hid (H5.out.below B6.out).1
      have LM := Lib.hid (show c < maxLen by unfold maxLen; omega)
      refine wpList_putI rfl (.tmp 40) (.tmp 43) _ rfl (by with_unfolding_all rfl) H6.out.map LM.out (by with_unfolding_all rfl) hi2 HI3.out (by with_unfolding_all rfl) ?_
      intro w7 hm7 ht7
      have H7 := Lib.hid (H6.out.put ht7 hm7)
      clear hm7 ht7
      go_wp2_with fail
      go_ret
      have HF := H7.out.1.less (X' := X) (fun q hq => .inl hq)
      refine ⟨rfl, K5.out.trans (K6.out.trans H7.out.2.lessX), ?_⟩
      exact (show (fun y => if y = i then true else S y) = (fun y => decide (y = i) || S y) from by funext y; by_cases hh : y = i <;> simp [hh]) ▸ HF
    · have RL := Lib.hid H3.out
      clear H3 HI
      go_wp2_with fail
      go_ret
      exact ⟨rfl, ⟨fun q hq => RL.out.2.keep q hq, RL.out.2.size⟩, (fun h => by cases h), fun _ => RL.out.1.less (fun q hq => .inl hq)⟩
end Go.Proofs.Ytkmhbbcppjckiaa.Ma
