/- The first one is taken. -/
import Derived.Test.YtjjmjbemflhlbaaNB
import Derived.Test.YtjjmjbemflhlbaaND
namespace Go.Proofs.Ytjjmjbemflhlbaa.Qu
open Go Go.RowKit Go.Proofs.Ytjjmjbemflhlbaa
open Go.Proofs.Ytjjmjbemflhlbaa.Hp (K3 kv KLit wf3 i64wf kv_inj)
open Go.Proofs.Ytjjmjbemflhlbaa.Dk (Frm below_drewN Frm.of_below Frm.setCell Frm.refl Frm.drewN Frm.drew Frm.transT Frm.turned Frm.trans Frm.mono Frm.setRow)
set_option linter.unusedVariables false
set_option linter.unusedSimpArgs false
set_option maxRecDepth 100000
variable {w : World} {b o : Nat} {R : Array Value} {ty : TypeId} {mo : Option Nat} {L : List Lk}
/-- What stands while the last region is under way. -/
structure TakeI (w : World) (b o : Nat) (R : Array Value) (ty : TypeId) (mo : Option Nat) (L : List Lk) (k : K3) (g g4 : Nat) (T : Nat → Prop) (s5 s7 : Bool) (wx : World) : Prop where
  box : wx.heap[g4]? = some (.cells (kcs k).toArray 32 (0, 0))
  res : wx.heap[g]? = some (.cells (kcs (if s7 = true then k else k0)).toArray 32 (0, 0))
  one : s5 = false → Below w.heap.size w wx
  two : s5 = true → QAt wx b o R ty mo L ∧ Frm T w wx
section
variable {k : K3} {g g4 : Nat} {T : Nat → Prop} {wx w' : World}
theorem TakeI.call (h : TakeI w b o R ty mo L k g g4 T false false wx) (hQ : QAt w' b o R ty mo L) (hF : Frm T wx w') (hT : ∀ q, T q → q < w.heap.size) (hg : w.heap.size ≤ g) (hg4 : w.heap.size ≤ g4) : TakeI w b o R ty mo L k g g4 T true false w' :=
  ⟨(hF.block g4 (lt_of_rowW h.box) (fun e => by have := hT _ e; omega)).trans h.box, (hF.block g (lt_of_rowW h.res) (fun e => by have := hT _ e; omega)).trans h.res, (fun e => by cases e), fun _ => ⟨hQ, (Frm.of_below (h.one rfl) (Nat.le_refl _)).trans hF⟩⟩
theorem TakeI.store {s5 : Bool} (h : TakeI w b o R ty mo L k g g4 T s5 false wx) (hg : w.heap.size ≤ g) (hn : g4 ≠ g) (ho : ¬ own b mo L g) : TakeI w b o R ty mo L k g g4 T s5 true (wx.setRow g (kcs k).toArray) :=
  ⟨(setRow_other _ _ _ _ hn).trans h.box, setRow_heap _ g _ _ _ _ h.res, fun e => below_setRowK (h.one e) hg _, fun e => ⟨(h.two e).1.keep fun q hq => setRow_other _ _ _ _ (fun e => ho (e ▸ hq)), (h.two e).2.setRow (.inr hg) _⟩⟩
end
theorem qtake_any (h : QAt w b o R ty mo L) (V : Value) (k : K3) (s : Int) (ok : Bool) (hV : V = .tuple #[.agg (kcs k).toArray, .int .i64 s, .bool ok])
    (hF : ∀ w', Below w.heap.size w w' → Calls Try.prog 23 #[.pointer (some ⟨b, o, none⟩)] w' fun e w'' => e = .returned V ∧ Below w'.heap.size w' w'') (mo' : Option Nat) (L' : List Lk)
    (hR : ok = true → ∀ w', Below w.heap.size w w' → Calls Try.prog 17 #[.pointer (some ⟨b, o, none⟩), .agg (kcs k).toArray] w' fun e w'' => e = .returned (.bool true) ∧ QAt w'' b o R ty mo' L' ∧ Frm (own b mo L) w' w'') (hN : ok = false → mo' = mo ∧ L' = L) (hO : ∀ q, own b mo' L' q → own b mo L q) :
    Calls Try.prog 15 #[.pointer (some ⟨b, o, none⟩)] w fun e w' => e = .returned (.tuple #[.agg (kcs k).toArray, .bool ok]) ∧ QAt w' b o R ty mo' L' ∧ Frm (own b mo L) w w' := by
  obtain ⟨w2, hw2⟩ : ∃ w2, w2 = w.alloc (.cells (kcs k0).toArray 32) := ⟨_, rfl⟩
  obtain ⟨g, hg⟩ : ∃ g, g = w.heap.size := ⟨_, rfl⟩
  have b2 : Below w.heap.size w w2 := by rw [hw2]; exact (Below.refl _ _).alloc (Nat.le_refl _) _
  have n2 : w2.heap[g]? = some (.cells (kcs k0).toArray 32 (0, 0)) := by rw [hw2, hg]; exact heap_alloc_new _ _
  have FI := Lib.hid (hF w2 b2)
  rw [hV] at FI
  have SZ := Lib.hid (show (Try.prog.info? 32).map (·.size) = some (kcs k).toArray.size by kernel_rfl)
  have OK := Lib.hid (kcs_one k)
  have B2 := Lib.hid b2
  have N2 := Lib.hid n2
  have H := Lib.hid h
  have HW2 := Lib.hid hw2
  have HG := Lib.hid hg
  have HR := Lib.hid hR
  have HN := Lib.hid hN
  obtain ⟨T, hT⟩ : ∃ T, T = own b mo L := ⟨_, rfl⟩
  have HT := Lib.hid hT
  rw [← hT] at HR ⊢
  clear h b2 n2 hw2 hg hF hR hN hV hT
  go_enter Try.func15, Try.ntmps15
  go_upto_region 1 with fail
  rw [show (#[.int .i64 0, .int .i64 0, .int .i64 0] : Array Value) = (kcs k0).toArray from rfl, ← HW2.out, ← HG.out]
  go_upto_region 2 with (first
    | (with_reducible refine FI.out.mono ?_; rintro e w3 ⟨rfl, hb3⟩; have B3 := Lib.hid (B2.out.trans (hb3.mono B2.out.size)); have N3 := Lib.hid ((hb3.block g (lt_of_rowW N2.out)).trans N2.out); clear hb3)
    | (with_reducible show wpList _ _ _ _ _ _; refine wpList_store_newW rfl 32 (.tmp 4) (.tmp 10) rfl 32 _ (kcs k).toArray (by with_unfolding_all rfl) (by with_unfolding_all rfl) SZ.out rfl OK.out ?_))
  obtain ⟨w4, hw4⟩ : ∃ w4, w4 = w3.alloc (.cells (kcs k).toArray 32) := ⟨_, rfl⟩
  obtain ⟨g4, hg4⟩ : ∃ g, g = w3.heap.size := ⟨_, rfl⟩
  have b4 : Below w3.heap.size w3 w4 := by rw [hw4]; exact (Below.refl _ _).alloc (Nat.le_refl _) _
  have n4 : w4.heap[g4]? = some (.cells (kcs k).toArray 32 (0, 0)) := by rw [hw4, hg4]; exact heap_alloc_new _ _
  have r4 : w4.heap[g]? = some (.cells (kcs k0).toArray 32 (0, 0)) := (b4.block g (lt_of_rowW N3.out)).trans N3.out
  rw [← hw4, ← hg4]
  have I0 := Lib.hid (show TakeI w b o R ty mo' L' k g g4 T false false w4.drew from ⟨n4, r4, fun _ => below_drewN (B3.out.trans (b4.mono B3.out.size)) 1, (fun e => by cases e)⟩)
  have HT2 := Lib.hid (show ∀ q, T q → q < w.heap.size from fun q hq => by rw [HT.out] at hq; exact H.out.lt hq)
  have GL := Lib.hid (show w.heap.size ≤ g from Nat.le_of_eq HG.out.symm)
  have G4L := Lib.hid (show w.heap.size ≤ g4 from by rw [hg4]; exact B3.out.size)
  have G4N := Lib.hid (show g4 ≠ g from fun e => by have := lt_of_rowW N3.out; omega)
  have GO := Lib.hid (show ¬ own b mo' L' g from fun e => by have := H.out.lt (hO _ e); have h2 := GL.out; omega)
  clear hw4 hg4 b4 n4 r4 hO
  cases ok with
  | true =>
    refine wp_region_parG (α := Unit) (by kernel_rfl) (by kernel_rfl) (fun y => ⟨#[.pointer (some ⟨b, o, none⟩), undef, .pointer (some ⟨g, 0, none⟩), y 8, .pointer (some ⟨g4, 0, none⟩), .int .i64 s, .bool true, Value.tuple #[.agg (kcs k).toArray, .int .i64 s, .bool true], .pointer (some ⟨b, o, none⟩), Value.tuple #[.agg (kcs k).toArray, .int .i64 s, .bool true], .agg (kcs k).toArray, .int .i64 s, .bool true, y 0, y 1, y 2, y 3, y 4, y 5, y 6], []⟩) (fun p j q => match j with | 0 => q = .agg (kcs k).toArray | 1 => q = .bool true | 2 => q = .bool true | 3 => q = .pointer (some ⟨b, o, none⟩) | 4 => q = .agg (kcs k).toArray | 5 => q = .bool true | 6 => q = .bool true | 8 => q = .bool true | _ => True) (fun M p wx => TakeI w b o R ty mo' L' k g g4 T (M 5) (M 7) wx) (fun i => [5, 7].contains i) (fun i j => (i == 5 && decide (5 < j)) || (i == 7 && j == 8)) (parOk_spec (by kernel_rfl)) ?_ ?_ ?_ (fun k => match k with | 8 => .bool false | _ => undef) () rfl (by exact I0.out)
    · intro i' o hsrc ho M p y wx hd hi' hI
      match i', ho with
      | 0, ho =>
        obtain rfl := Option.some.inj ho
        refine .inl ⟨rfl, ?_⟩
        exact ⟨.agg (kcs k).toArray, run_loadP 32 (.tmp 4) rfl ⟨g4, 0, none⟩ (by rfl) (kcs k) _ (box_at hI.box) Try.underlying32 rfl (tkSize _), rfl, rfl, hI⟩
      | 1, ho =>
        obtain rfl := Option.some.inj ho
        refine .inl ⟨rfl, ?_⟩
        refine ⟨.bool true, ?_, rfl, rfl, hI⟩
        refine runWithP (fun z => match z with  | .tmp 6 => .bool true | .const c => c | _ => undef) (by kernel_rfl) ?_
        go_simp
      | 2, ho =>
        obtain rfl := Option.some.inj ho
        have y0 : y 1 = .bool true := hd ⟨1, .data⟩ (by simp) rfl
        refine .inl ⟨rfl, ?_⟩
        refine ⟨.bool true, ?_, rfl, rfl, hI⟩
        refine runWithP (fun z => match z with | .tmp 14 => y 1 | .const c => c | _ => undef) (by kernel_rfl) ?_
        rw [y0]
        go_simp
      | 3, ho =>
        obtain rfl := Option.some.inj ho
        have yg : y 2 = .bool true := hd ⟨2, .guard⟩ (by simp) rfl
        refine .inl ⟨Eq.trans (b := gdP (y 2) true) (by kernel_rfl) (by rw [yg]; rfl), ?_⟩
        refine ⟨.pointer (some ⟨b, o, none⟩), ?_, rfl, rfl, hI⟩
        refine runWithP (fun z => match z with  | .tmp 0 => .pointer (some ⟨b, o, none⟩) | .const c => c | _ => undef) (by kernel_rfl) ?_
        go_simp
      | 4, ho =>
        obtain rfl := Option.some.inj ho
        have yg : y 2 = .bool true := hd ⟨2, .guard⟩ (by simp) rfl
        refine .inl ⟨Eq.trans (b := gdP (y 2) true) (by kernel_rfl) (by rw [yg]; rfl), ?_⟩
        exact ⟨.agg (kcs k).toArray, run_loadP 32 (.tmp 4) rfl ⟨g4, 0, none⟩ (by rfl) (kcs k) _ (box_at hI.box) Try.underlying32 rfl (tkSize _), rfl, rfl, hI⟩
      | 5, ho =>
        obtain rfl := Option.some.inj ho
        cases hsrc
      | 6, ho =>
        obtain rfl := Option.some.inj ho
        have y0 : y 2 = .bool true := hd ⟨2, .data⟩ (by simp) rfl
        have y1 : y 5 = .bool true := hd ⟨5, .data⟩ (by simp) rfl
        refine .inl ⟨rfl, ?_⟩
        refine ⟨.bool true, ?_, rfl, rfl, hI⟩
        refine runWithP (fun z => match z with | .tmp 15 => y 2 | .tmp 18 => y 5 | .const c => c | _ => undef) (by kernel_rfl) ?_
        rw [y0, y1]
        kernel_rfl
      | 7, ho =>
        obtain rfl := Option.some.inj ho
        cases hsrc
      | 8, ho =>
        obtain rfl := Option.some.inj ho
        have y0 : y 6 = .bool true := hd ⟨6, .data⟩ (by simp) rfl
        refine .inl ⟨rfl, ?_⟩
        refine ⟨.bool true, ?_, rfl, rfl, hI⟩
        refine runWithP (fun z => match z with | .tmp 19 => y 6 | .const c => c | _ => undef) (by kernel_rfl) ?_
        rw [y0]
        go_simp
      | j + 9, ho => cases ho
    · intro i' o hsrc ho M p y wx hd hi' hlat hI
      match i', hsrc, ho with
      | 0, hsrc, ho =>
        cases hsrc
      | 1, hsrc, ho =>
        cases hsrc
      | 2, hsrc, ho =>
        cases hsrc
      | 3, hsrc, ho =>
        cases hsrc
      | 4, hsrc, ho =>
        cases hsrc
      | 5, hsrc, ho =>
        obtain rfl := Option.some.inj ho
        have yg : y 2 = .bool true := (hd ⟨2, .guard⟩ (by simp) rfl).2
        refine ⟨Eq.trans (b := gdP (y 2) true) (by kernel_rfl) (by rw [yg]; rfl), ?_⟩
        have h7 : M 7 = false := hlat 7 rfl
        have y3 : y 3 = .pointer (some ⟨b, o, none⟩) := (hd ⟨3, .data⟩ (by simp) rfl).2
        have y4 : y 4 = .agg (kcs k).toArray := (hd ⟨4, .data⟩ (by simp) rfl).2
        rw [hi', h7] at hI
        refine slot_call #[.pointer (some ⟨b, o, none⟩), .agg (kcs k).toArray] rfl Try.func17 (by kernel_rfl) (by kernel_rfl) (by simp [Act.eval, y3, y4]) ?_
        refine (HR.out rfl wx (hI.one rfl)).mono ?_
        rintro e w' ⟨rfl, hQ, hF⟩
        refine ⟨_, rfl, _, (), rfl, rfl, fun j q _ _ h => h, ?_⟩
        show TakeI w b o R ty mo' L' k g g4 T true (M 7) w'
        rw [h7]
        exact hI.call hQ hF HT2.out GL.out G4L.out
      | 6, hsrc, ho =>
        cases hsrc
      | 7, hsrc, ho =>
        obtain rfl := Option.some.inj ho
        refine ⟨rfl, ?_⟩
        have y0 : y 0 = .agg (kcs k).toArray := (hd ⟨0, .data⟩ (by simp) rfl).2
        have h5 := (hd ⟨5, .chain⟩ (by simp) rfl).1
        rw [h5, hi'] at hI
        refine slot_storeP 32 (.tmp 2) (.tmp 13) rfl g 32 (kcs k0).toArray (kcs k).toArray rfl y0 hI.res SZ.out rfl OK.out ?_
        refine ⟨undef, (), rfl, trivial, fun j q _ _ h => h, ?_⟩
        show TakeI w b o R ty mo' L' k g g4 T (M 5) true _
        rw [h5]
        exact hI.store GL.out G4N.out GO.out
      | 8, hsrc, ho =>
        cases hsrc
      | j + 9, hsrc, ho => cases ho
    · rintro M p y wx hall hI
      have y8 : y 8 = .bool true := (hall 8 (by decide)).2
      try dsimp only
      rw [y8]
      have h7 := (hall 7 (by decide)).1
      rw [(hall 5 (by decide)).1, h7] at hI
      have N4 := Lib.hid hI.res
      have Q4 := Lib.hid (show QAt wx b o R ty mo' L' ∧ Frm T w wx from hI.two rfl)
      clear hI hall y8
      go_wp2_with fail
      refine bodyPost_ret (results_row_tmp rfl _ _ g 32 (kcs k) (0, 0) _ _ rfl rfl N4.out Try.underlying32 rfl SZ.out) rfl ?_
      exact ⟨rfl, Q4.out⟩
  | false =>
    obtain ⟨rfl, rfl⟩ := HN.out rfl
    refine wp_region_parG (α := Unit) (by kernel_rfl) (by kernel_rfl) (fun y => ⟨#[.pointer (some ⟨b, o, none⟩), undef, .pointer (some ⟨g, 0, none⟩), y 8, .pointer (some ⟨g4, 0, none⟩), .int .i64 s, .bool false, Value.tuple #[.agg (kcs k).toArray, .int .i64 s, .bool false], .pointer (some ⟨b, o, none⟩), Value.tuple #[.agg (kcs k).toArray, .int .i64 s, .bool false], .agg (kcs k).toArray, .int .i64 s, .bool false, y 0, y 1, y 2, y 3, y 4, y 5, y 6], []⟩) (fun p j q => match j with | 0 => q = .agg (kcs k).toArray | 1 => q = .bool false | 2 => q = .bool false | 6 => q = .bool false | 8 => q = .bool false | _ => True) (fun M p wx => TakeI w b o R ty mo' L' k g g4 T (false) (M 7) wx) (fun i => [7].contains i) (fun i j => (i == 5 && decide (5 < j)) || (i == 7 && j == 8)) (parOk_spec (by kernel_rfl)) ?_ ?_ ?_ (fun k => match k with | 8 => .bool false | _ => undef) () rfl (by exact I0.out)
    · intro i' o hsrc ho M p y wx hd hi' hI
      match i', ho with
      | 0, ho =>
        obtain rfl := Option.some.inj ho
        refine .inl ⟨rfl, ?_⟩
        exact ⟨.agg (kcs k).toArray, run_loadP 32 (.tmp 4) rfl ⟨g4, 0, none⟩ (by rfl) (kcs k) _ (box_at hI.box) Try.underlying32 rfl (tkSize _), rfl, rfl, hI⟩
      | 1, ho =>
        obtain rfl := Option.some.inj ho
        refine .inl ⟨rfl, ?_⟩
        refine ⟨.bool false, ?_, rfl, rfl, hI⟩
        refine runWithP (fun z => match z with  | .tmp 6 => .bool false | .const c => c | _ => undef) (by kernel_rfl) ?_
        go_simp
      | 2, ho =>
        obtain rfl := Option.some.inj ho
        have y0 : y 1 = .bool false := hd ⟨1, .data⟩ (by simp) rfl
        refine .inl ⟨rfl, ?_⟩
        refine ⟨.bool false, ?_, rfl, rfl, hI⟩
        refine runWithP (fun z => match z with | .tmp 14 => y 1 | .const c => c | _ => undef) (by kernel_rfl) ?_
        rw [y0]
        go_simp
      | 3, ho =>
        obtain rfl := Option.some.inj ho
        have yg : y 2 = .bool false := hd ⟨2, .guard⟩ (by simp) rfl
        exact .inr ⟨Eq.trans (b := gdP (y 2) true) (by kernel_rfl) (by rw [yg]; rfl), undef, rfl, trivial, hI⟩
      | 4, ho =>
        obtain rfl := Option.some.inj ho
        have yg : y 2 = .bool false := hd ⟨2, .guard⟩ (by simp) rfl
        exact .inr ⟨Eq.trans (b := gdP (y 2) true) (by kernel_rfl) (by rw [yg]; rfl), undef, rfl, trivial, hI⟩
      | 5, ho =>
        obtain rfl := Option.some.inj ho
        have yg : y 2 = .bool false := hd ⟨2, .guard⟩ (by simp) rfl
        exact .inr ⟨Eq.trans (b := gdP (y 2) true) (by kernel_rfl) (by rw [yg]; rfl), undef, rfl, trivial, hI⟩
      | 6, ho =>
        obtain rfl := Option.some.inj ho
        have y0 : y 2 = .bool false := hd ⟨2, .data⟩ (by simp) rfl
        refine .inl ⟨rfl, ?_⟩
        refine ⟨.bool false, ?_, rfl, rfl, hI⟩
        refine runWithP (fun z => match z with | .tmp 15 => y 2 | .tmp 18 => y 5 | .const c => c | _ => undef) (by kernel_rfl) ?_
        rw [y0]
        kernel_rfl
      | 7, ho =>
        obtain rfl := Option.some.inj ho
        cases hsrc
      | 8, ho =>
        obtain rfl := Option.some.inj ho
        have y0 : y 6 = .bool false := hd ⟨6, .data⟩ (by simp) rfl
        refine .inl ⟨rfl, ?_⟩
        refine ⟨.bool false, ?_, rfl, rfl, hI⟩
        refine runWithP (fun z => match z with | .tmp 19 => y 6 | .const c => c | _ => undef) (by kernel_rfl) ?_
        rw [y0]
        go_simp
      | j + 9, ho => cases ho
    · intro i' o hsrc ho M p y wx hd hi' hlat hI
      obtain rfl : i' = 7 := by simpa using hsrc
      obtain rfl := Option.some.inj ho
      refine ⟨rfl, ?_⟩
      have y0 : y 0 = .agg (kcs k).toArray := (hd ⟨0, .data⟩ (by simp) rfl).2
      rw [ hi'] at hI
      refine slot_storeP 32 (.tmp 2) (.tmp 13) rfl g 32 (kcs k0).toArray (kcs k).toArray rfl y0 hI.res SZ.out rfl OK.out ?_
      refine ⟨undef, (), rfl, trivial, fun j q _ _ h => h, ?_⟩
      show TakeI w b o R ty mo' L' k g g4 T false true _
      exact hI.store GL.out G4N.out GO.out
    · rintro M p y wx hall hI
      have y8 : y 8 = .bool false := (hall 8 (by decide)).2
      try dsimp only
      rw [y8]
      have h7 := (hall 7 (by decide)).1
      rw [ h7] at hI
      have N4 := Lib.hid hI.res
      have Q4 := Lib.hid (show QAt wx b o R ty mo' L' ∧ Frm T w wx from ⟨H.out.below (hI.one rfl), Frm.of_below (hI.one rfl) (Nat.le_refl _)⟩)
      clear hI hall y8
      go_wp2_with fail
      refine bodyPost_ret (results_row_tmp rfl _ _ g 32 (kcs k) (0, 0) _ _ rfl rfl N4.out Try.underlying32 rfl SZ.out) rfl ?_
      exact ⟨rfl, Q4.out⟩
theorem qtake_nil (h : QAt w b o R ty mo []) : Calls Try.prog 15 #[.pointer (some ⟨b, o, none⟩)] w fun e w' => e = .returned (.tuple #[.agg (kcs k0).toArray, .bool false]) ∧ QAt w' b o R ty mo [] ∧ Frm (own b mo []) w w' :=
  qtake_any h _ k0 0 false rfl (fun w' hb => qfirst_nil (h.below hb).c) mo [] (fun e => by cases e) (fun _ => ⟨rfl, rfl⟩) (fun _ h => h)
theorem qtake_cons {x : Lk} (h : QAt w b o R ty mo (x :: L)) : Calls Try.prog 15 #[.pointer (some ⟨b, o, none⟩)] w fun e w' => e = .returned (.tuple #[.agg (kcs x.key).toArray, .bool true]) ∧ QAt w' b o R ty mo L ∧ Frm (own b mo (x :: L)) w w' :=
  qtake_any h _ x.key x.since true rfl (fun w' hb => qfirst_cons (h.below hb).c) mo L (fun _ w' hb => qremove_yes (A := []) (h.below hb)) (fun e => by cases e) (fun q hq => by
    rcases hq with e | e | ⟨y, hy, e⟩
    · exact .inl e
    · exact .inr (.inl e)
    · exact .inr (.inr ⟨y, by simp [hy], e⟩))
end Go.Proofs.Ytjjmjbemflhlbaa.Qu
