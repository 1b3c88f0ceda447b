/- Clone: a disk with its own sectors and map. -/
import Derived.Test.YthcliaaoadfegaaSc2
import Derived.Test.YthcliaaoadfegaaPm
import Derived.Test.YthcliaaoadfegaaUk
import Derived.Test.YthcliaaoadfegaaUi
namespace Go.Proofs.Ythcliaaoadfegaa.Dk
open Go Go.RowKit
set_option linter.unusedVariables false
set_option linter.unusedSimpArgs false
theorem runCl {P : Program} {o : Oper} {a : Act} {w : World} {r : Result Next} (ev : Operand → Value) (h1 : (execOp a.eval o).run P w = (execOp ev o).run P w) (h2 : (execOp ev o).run P w = r) : (execOp a.eval o).run P w = r := h1.trans h2
/-- What Clone answers. -/
def DS.copied (x : DS) (c : Nat) (T : List Value) : DS := { x with wr := 0, fl := 0, cap := c, tail := T }
def ClF (B d g m n : Nat) (x : DS) (i : Nat) (v : Value) (w : World) : Prop :=
  match i with
  | 0 | 1 | 5 | 6 | 10 | 11 | 14 | 15 => v = .pointer (some ⟨d, 0, none⟩)
  | 2 => v = .pointer (some ⟨d, 2, none⟩)
  | 3 => v = .slice (some ⟨g, 0, none⟩) x.s.length x.cap
  | 4 => ∃ g' c' T', v = .slice (some ⟨g', 0, none⟩) x.s.length c' ∧ w.heap[g']? = some (.cells (flat x.s ++ T').toArray 75 (0, 0)) ∧ B ≤ g'
  | 7 => v = .pointer (some ⟨d, 3, none⟩)
  | 8 => v = .map (some m)
  | 9 => ∃ m', v = .map (some m') ∧ MapIs Try.prog 3 w m' n x.S ∧ B ≤ m'
  | 12 => v = .pointer (some ⟨d, 4, none⟩)
  | 13 => v = .int .i64 x.fuse
  | 16 => v = .pointer (some ⟨d, 5, none⟩)
  | 17 => v = .bool x.down
  | 18 => ∃ g' c' T' m', v = .agg #[.int .i64 0, .int .i64 0, .slice (some ⟨g', 0, none⟩) x.s.length c', .map (some m'), .int .i64 x.fuse, .bool x.down] ∧ w.heap[g']? = some (.cells (flat x.s ++ T').toArray 75 (0, 0)) ∧ B ≤ g' ∧ MapIs Try.prog 3 w m' n x.S ∧ B ≤ m'
  | 19 | 20 => ∃ d' g' m' c' T', v = .pointer (some ⟨d', 0, none⟩) ∧ DiskAt Try.prog w d' g' m' n (x.copied c' T') ∧ B ≤ d' ∧ B ≤ g' ∧ B ≤ m'
  | _ => True
theorem ClF.frame {B d g m n : Nat} {x : DS} (i : Nat) (v : Value) (w w' : World) (hb : Below w.heap.size w w') (h : ClF B d g m n x i v w) : ClF B d g m n x i v w' := by
  unfold ClF at h ⊢
  split at h
  all_goals first
    | exact h
    | (obtain ⟨g', c', T', e, hr, hB⟩ := h; exact ⟨g', c', T', e, (hb.block g' (lt_of_row hr)).trans hr, hB⟩)
    | (obtain ⟨m', e, hm, hB⟩ := h; exact ⟨m', e, hm.keep (hb.block m' hm.lt), hB⟩)
    | (obtain ⟨g', c', T', m', e, hr, hB, hm, hB2⟩ := h; exact ⟨g', c', T', m', e, (hb.block g' (lt_of_row hr)).trans hr, hB, hm.keep (hb.block m' hm.lt), hB2⟩)
    | (obtain ⟨d', g', m', c', T', e, hD, h1, h2, h3⟩ := h; exact ⟨d', g', m', c', T', e, hD.below hb (Nat.le_refl _), h1, h2, h3⟩)
theorem mapClone_any {w : World} {m n : Nat} {S : Int → Option (List UInt8)} (h : MapIs Try.prog 3 w m n S) :
    Calls Try.prog 31 #[.map (some m)] w fun e w' => ∃ m', e = .returned (.map (some m')) ∧ MapIs Try.prog 3 w' m' n S ∧ w.heap.size ≤ m' ∧ Below w.heap.size w w' := by
  obtain ⟨D, ho, hS⟩ := h
  refine (AnyW.maps_Clone_owns Try.mapsCloneA 3 secElem m n D w ho).mono ?_
  rintro e w' ⟨rfl, h1, _, hb⟩
  exact ⟨_, rfl, ⟨D, h1, hS⟩, Nat.le_refl _, hb⟩
set_option maxRecDepth 100000 in
set_option maxHeartbeats 3200000 in
theorem clone_any {w : World} {d g m n : Nat} {x : DS} (h : DiskAt Try.prog w d g m n x) (h0 : 0 < x.s.length) :
    Calls Try.prog 10 #[.pointer (some ⟨d, 0, none⟩)] w fun e w' => ∃ d' g' m' c' T', e = .returned (.pointer (some ⟨d', 0, none⟩)) ∧ DiskAt Try.prog w' d' g' m' n (x.copied c' T') ∧ w.heap.size ≤ d' ∧ w.heap.size ≤ g' ∧ w.heap.size ≤ m' ∧ Below w.heap.size w w' := by
  have HD := Lib.hid h
  have H0 := Lib.hid h0
  clear h h0
  go_enter Try.func10, Try.ntmps10
  go_wp2_with fail
  refine wp_region_slots (by kernel_rfl) (by kernel_rfl)
    (fun y => ⟨#[Value.pointer (some ⟨d, 0, none⟩), undef, y 20, y 0, y 1, y 2, y 3, y 4, y 5, y 6, y 7, y 8, y 9, y 10, y 11, y 12, y 13, y 14, y 15, y 16, y 17, y 18, y 19], []⟩)
    (ClF w.heap.size d g m n x) (fun _ W => Below w.heap.size w W) (fun a b => Below a.heap.size a b) ClF.frame ?_ ?_ (fun j => if j = 20 then .pointer none else undef) rfl (Below.refl _ _).drew
  · intro i o ho L y wx hd hi hy hs
    have KR : Below wx.heap.size wx wx := Below.refl _ _
    have HX := HD.out.below hs (Nat.le_refl _)
    match i, ho with
    | 0, ho =>
      obtain rfl := Option.some.inj ho
      exact slot_run (v := .pointer (some ⟨d, 0, none⟩)) (w' := wx) rfl ⟨_, rfl, KR, rfl, hs⟩
    | 1, ho =>
      obtain rfl := Option.some.inj ho
      have ya : y 0 = .pointer (some ⟨d, 0, none⟩) := hy 0 (hd ⟨0, .data⟩ (by simp) rfl)
      refine slot_run (v := .pointer (some ⟨d, 0, none⟩)) (w' := wx) ?_ ⟨_, rfl, KR, rfl, hs⟩
      refine runCl (fun z => match z with | .tmp 3 => y 0 | _ => undef) (by kernel_rfl) ?_
      rw [ya]
      go_simp
    | 2, ho =>
      obtain rfl := Option.some.inj ho
      have ya : y 1 = .pointer (some ⟨d, 0, none⟩) := hy 1 (hd ⟨1, .data⟩ (by simp) rfl)
      refine slot_run (v := .pointer (some ⟨d, 2, none⟩)) (w' := wx) ?_ ⟨_, rfl, KR, rfl, hs⟩
      refine runCl (fun z => match z with | .tmp 4 => y 1 | _ => undef) (by kernel_rfl) ?_
      rw [ya]
      go_simp
    | 3, ho =>
      obtain rfl := Option.some.inj ho
      have ya : y 2 = .pointer (some ⟨d, 2, none⟩) := hy 2 (hd ⟨2, .data⟩ (by simp) rfl)
      have cc := HX.c2
      refine slot_run (v := .slice (some ⟨g, 0, none⟩) x.s.length x.cap) (w' := wx) ?_ ⟨_, rfl, KR, rfl, hs⟩
      refine runCl (fun z => match z with | .tmp 5 => y 2 | _ => undef) (by kernel_rfl) ?_
      rw [ya]
      go_simp
    | 4, ho =>
      obtain rfl := Option.some.inj ho
      have ya : y 3 = .slice (some ⟨g, 0, none⟩) x.s.length x.cap := hy 3 (hd ⟨3, .data⟩ (by simp) rfl)
      refine slot_call #[.slice (some ⟨g, 0, none⟩) x.s.length x.cap] rfl Try.func30 (by kernel_rfl) (by kernel_rfl) (by simp [Act.eval, ya]) ?_
      refine (cloneSecs_any HX.row HX.len H0.out HX.few).mono ?_
      rintro e w' ⟨g', c', T', rfl, hr, hg, hb⟩
      exact ⟨_, rfl, _, rfl, hb, ⟨g', c', T', rfl, hr, Nat.le_trans hs.size hg⟩, hs.trans (hb.mono hs.size)⟩
    | 5, ho =>
      obtain rfl := Option.some.inj ho
      exact slot_run (v := .pointer (some ⟨d, 0, none⟩)) (w' := wx) rfl ⟨_, rfl, KR, rfl, hs⟩
    | 6, ho =>
      obtain rfl := Option.some.inj ho
      have ya : y 5 = .pointer (some ⟨d, 0, none⟩) := hy 5 (hd ⟨5, .data⟩ (by simp) rfl)
      refine slot_run (v := .pointer (some ⟨d, 0, none⟩)) (w' := wx) ?_ ⟨_, rfl, KR, rfl, hs⟩
      refine runCl (fun z => match z with | .tmp 8 => y 5 | _ => undef) (by kernel_rfl) ?_
      rw [ya]
      go_simp
    | 7, ho =>
      obtain rfl := Option.some.inj ho
      have ya : y 6 = .pointer (some ⟨d, 0, none⟩) := hy 6 (hd ⟨6, .data⟩ (by simp) rfl)
      refine slot_run (v := .pointer (some ⟨d, 3, none⟩)) (w' := wx) ?_ ⟨_, rfl, KR, rfl, hs⟩
      refine runCl (fun z => match z with | .tmp 9 => y 6 | _ => undef) (by kernel_rfl) ?_
      rw [ya]
      go_simp
    | 8, ho =>
      obtain rfl := Option.some.inj ho
      have ya : y 7 = .pointer (some ⟨d, 3, none⟩) := hy 7 (hd ⟨7, .data⟩ (by simp) rfl)
      have cc := HX.c3
      refine slot_run (v := .map (some m)) (w' := wx) ?_ ⟨_, rfl, KR, rfl, hs⟩
      refine runCl (fun z => match z with | .tmp 10 => y 7 | _ => undef) (by kernel_rfl) ?_
      rw [ya]
      go_simp
    | 9, ho =>
      obtain rfl := Option.some.inj ho
      have ya : y 8 = .map (some m) := hy 8 (hd ⟨8, .data⟩ (by simp) rfl)
      refine slot_call #[.map (some m)] rfl Try.func31 (by kernel_rfl) (by kernel_rfl) (by simp [Act.eval, ya]) ?_
      refine (mapClone_any HX.map).mono ?_
      rintro e w' ⟨m', rfl, hm, hg, hb⟩
      exact ⟨_, rfl, _, rfl, hb, ⟨m', rfl, hm, Nat.le_trans hs.size hg⟩, hs.trans (hb.mono hs.size)⟩
    | 10, ho =>
      obtain rfl := Option.some.inj ho
      exact slot_run (v := .pointer (some ⟨d, 0, none⟩)) (w' := wx) rfl ⟨_, rfl, KR, rfl, hs⟩
    | 11, ho =>
      obtain rfl := Option.some.inj ho
      have ya : y 10 = .pointer (some ⟨d, 0, none⟩) := hy 10 (hd ⟨10, .data⟩ (by simp) rfl)
      refine slot_run (v := .pointer (some ⟨d, 0, none⟩)) (w' := wx) ?_ ⟨_, rfl, KR, rfl, hs⟩
      refine runCl (fun z => match z with | .tmp 13 => y 10 | _ => undef) (by kernel_rfl) ?_
      rw [ya]
      go_simp
    | 12, ho =>
      obtain rfl := Option.some.inj ho
      have ya : y 11 = .pointer (some ⟨d, 0, none⟩) := hy 11 (hd ⟨11, .data⟩ (by simp) rfl)
      refine slot_run (v := .pointer (some ⟨d, 4, none⟩)) (w' := wx) ?_ ⟨_, rfl, KR, rfl, hs⟩
      refine runCl (fun z => match z with | .tmp 14 => y 11 | _ => undef) (by kernel_rfl) ?_
      rw [ya]
      go_simp
    | 13, ho =>
      obtain rfl := Option.some.inj ho
      have ya : y 12 = .pointer (some ⟨d, 4, none⟩) := hy 12 (hd ⟨12, .data⟩ (by simp) rfl)
      have cc := HX.c4
      refine slot_run (v := .int .i64 x.fuse) (w' := wx) ?_ ⟨_, rfl, KR, rfl, hs⟩
      refine runCl (fun z => match z with | .tmp 15 => y 12 | _ => undef) (by kernel_rfl) ?_
      rw [ya]
      go_simp
    | 14, ho =>
      obtain rfl := Option.some.inj ho
      exact slot_run (v := .pointer (some ⟨d, 0, none⟩)) (w' := wx) rfl ⟨_, rfl, KR, rfl, hs⟩
    | 15, ho =>
      obtain rfl := Option.some.inj ho
      have ya : y 14 = .pointer (some ⟨d, 0, none⟩) := hy 14 (hd ⟨14, .data⟩ (by simp) rfl)
      refine slot_run (v := .pointer (some ⟨d, 0, none⟩)) (w' := wx) ?_ ⟨_, rfl, KR, rfl, hs⟩
      refine runCl (fun z => match z with | .tmp 17 => y 14 | _ => undef) (by kernel_rfl) ?_
      rw [ya]
      go_simp
    | 16, ho =>
      obtain rfl := Option.some.inj ho
      have ya : y 15 = .pointer (some ⟨d, 0, none⟩) := hy 15 (hd ⟨15, .data⟩ (by simp) rfl)
      refine slot_run (v := .pointer (some ⟨d, 5, none⟩)) (w' := wx) ?_ ⟨_, rfl, KR, rfl, hs⟩
      refine runCl (fun z => match z with | .tmp 18 => y 15 | _ => undef) (by kernel_rfl) ?_
      rw [ya]
      go_simp
    | 17, ho =>
      obtain rfl := Option.some.inj ho
      have ya : y 16 = .pointer (some ⟨d, 5, none⟩) := hy 16 (hd ⟨16, .data⟩ (by simp) rfl)
      have cc := HX.c5
      refine slot_run (v := .bool x.down) (w' := wx) ?_ ⟨_, rfl, KR, rfl, hs⟩
      refine runCl (fun z => match z with | .tmp 19 => y 16 | _ => undef) (by kernel_rfl) ?_
      rw [ya]
      go_simp
    | 18, ho =>
      obtain rfl := Option.some.inj ho
      obtain ⟨g', c', T', y4, hr, hg⟩ := hy 4 (hd ⟨4, .data⟩ (by simp) rfl)
      obtain ⟨m', y9, hm, hm'⟩ := hy 9 (hd ⟨9, .data⟩ (by simp) rfl)
      have y13 : y 13 = .int .i64 x.fuse := hy 13 (hd ⟨13, .data⟩ (by simp) rfl)
      have y17 : y 17 = .bool x.down := hy 17 (hd ⟨17, .data⟩ (by simp) rfl)
      refine slot_run (v := .agg #[.int .i64 0, .int .i64 0, .slice (some ⟨g', 0, none⟩) x.s.length c', .map (some m'), .int .i64 x.fuse, .bool x.down]) (w' := wx) ?_ ⟨_, rfl, KR, ⟨g', c', T', m', rfl, hr, hg, hm, hm'⟩, hs⟩
      refine runCl (fun z => match z with | .tmp 7 => y 4 | .tmp 12 => y 9 | .tmp 16 => y 13 | .tmp 20 => y 17 | _ => undef) (by kernel_rfl) ?_
      rw [y4, y9, y13, y17]
      go_simp
    | 19, ho =>
      obtain rfl := Option.some.inj ho
      obtain ⟨g', c', T', m', y18, hr, hg, hm, hm'⟩ := hy 18 (hd ⟨18, .data⟩ (by simp) rfl)
      have hb : Below wx.heap.size wx (wx.alloc (.cells #[.int .i64 0, .int .i64 0, .slice (some ⟨g', 0, none⟩) x.s.length c', .map (some m'), .int .i64 x.fuse, .bool x.down] 53 (0, 0))) := (Below.refl _ _).alloc (Nat.le_refl _) _
      refine slot_run (v := .pointer (some ⟨wx.heap.size, 0, none⟩)) (w' := wx.alloc (.cells #[.int .i64 0, .int .i64 0, .slice (some ⟨g', 0, none⟩) x.s.length c', .map (some m'), .int .i64 x.fuse, .bool x.down] 53 (0, 0))) ?_ ⟨_, rfl, hb, ⟨wx.heap.size, g', m', c', T', rfl, ⟨heap_alloc_new _ _, (hb.block g' (lt_of_row hr)).trans hr, hm.keep (hb.block m' hm.lt), HX.len, by have := lt_of_row hr; show wx.heap.size ≠ g'; omega, HX.few, HX.wfu, show wfi 0 from (by unfold wfi; decide), show wfi 0 from (by unfold wfi; decide)⟩, hs.size, hg, hm'⟩, hs.trans (hb.mono hs.size)⟩
      refine runCl (fun z => match z with | .tmp 21 => y 18 | _ => undef) (by kernel_rfl) ?_
      rw [y18]
      go_simp
    | 20, ho =>
      obtain rfl := Option.some.inj ho
      have yf := hy 19 (hd ⟨19, .data⟩ (by simp) rfl)
      exact slot_run (v := y 19) (w' := wx) rfl ⟨_, rfl, KR, yf, hs⟩
    | n + 21, ho => simp at ho
  · intro L y wq hall hy hs
    try dsimp only
    obtain ⟨d', g', m', c', T', y20, hD, h1, h2, h3⟩ := hy 20 (hall 20 (by decide))
    rw [y20]
    generalize y 0 = v0
    generalize y 1 = v1
    generalize y 2 = v2
    generalize y 3 = v3
    generalize y 4 = v4
    generalize y 5 = v5
    generalize y 6 = v6
    generalize y 7 = v7
    generalize y 8 = v8
    generalize y 9 = v9
    generalize y 10 = v10
    generalize y 11 = v11
    generalize y 12 = v12
    generalize y 13 = v13
    generalize y 14 = v14
    generalize y 15 = v15
    generalize y 16 = v16
    generalize y 17 = v17
    generalize y 18 = v18
    generalize y 19 = v19
    have R := Lib.hid hD
    have B := Lib.hid hs
    have G := Lib.hid (And.intro h1 (And.intro h2 h3))
    clear hD hs h1 h2 h3 hy hall y20
    go_wp2_with fail
    go_ret
    exact ⟨d', g', m', c', T', rfl, R.out, G.out.1, G.out.2.1, G.out.2.2, B.out⟩
end Go.Proofs.Ythcliaaoadfegaa.Dk
