/- The ring laws' head: goes answers true. -/
import Derived.Test.YtllnaocnojhlkaaUd
import Derived.Test.YtllnaocnojhlkaaUf
import Derived.Test.YtllnaocnojhlkaaUh
import Derived.Deep.RegionWith
import Derived.Deep.RegionLaw
import Derived.Test.YtllnaocnojhlkaaUi
namespace Go.Proofs.Ytllnaocnojhlkaa.Dk
open Go Go.RowKit
set_option linter.unusedVariables false
set_option linter.unusedSimpArgs false


/-- What lies behind B is kept, but for marks. -/
structure Kept (B : Nat) (w w' : World) : Prop where
  row : ∀ k, B ≤ k → ∀ cs t mk, w.heap[k]? = some (.cells cs t mk) → ∃ mk', w'.heap[k]? = some (.cells cs t mk')
theorem Kept.of {B : Nat} {T : Nat → Prop} {w w' : World} (f : Frm T w w') (hT : ∀ i, T i → i < B) : Kept B w w' :=
  ⟨fun k hk cs t mk h => ⟨mk, (f.block k (lt_of_row h) (fun ht => by have := hT k ht; omega)).trans h⟩⟩
/-- A slice of these bytes in a block behind B. -/
def NS (B : Nat) (w : World) (v : Value) (b : List UInt8) : Prop := ∃ ko c t mk, v = .slice (some ⟨ko, 0, none⟩) b.length c ∧ B ≤ ko ∧ w.heap[ko]? = some (.cells (bvs b).toArray t mk)
/-- Parts in blocks behind B. -/
def NP (B : Nat) (w : World) (v : Value) (L : List (List UInt8)) : Prop := ∃ kb c cs t mk, v = .slice (some ⟨kb, 0, none⟩) L.length c ∧ B ≤ kb ∧ w.heap[kb]? = some (.cells (List.toArray cs) t mk) ∧ cs.length = L.length ∧ ∀ j, j < L.length → ∃ u, cs[j]? = some u ∧ NS B w u (L.getD j [])
theorem NS.frame {B : Nat} {w w' : World} {v : Value} {b : List UInt8} (h : NS B w v b) (f : Kept B w w') : NS B w' v b := by
  obtain ⟨ko, c, t, mk, rfl, h1, h2⟩ := h
  obtain ⟨mk', h3⟩ := f.row ko h1 _ _ _ h2
  exact ⟨ko, c, t, mk', rfl, h1, h3⟩
theorem NP.frame {B : Nat} {w w' : World} {v : Value} {L : List (List UInt8)} (h : NP B w v L) (f : Kept B w w') : NP B w' v L := by
  obtain ⟨kb, c, cs, t, mk, rfl, h1, h2, h3, h4⟩ := h
  obtain ⟨mk', h5⟩ := f.row kb h1 _ _ _ h2
  exact ⟨kb, c, cs, t, mk', rfl, h1, h5, h3, fun j hj => by obtain ⟨u, h6, h7⟩ := h4 j hj; exact ⟨u, h6, h7.frame f⟩⟩
theorem zadd (k j : Nat) : (⟨k, 0, none⟩ : Addr).add j = ⟨k, j, none⟩ := by
  unfold Addr.add
  split
  · rename_i h; subst h; rfl
  · simp
theorem NS.sl {B : Nat} {w : World} {v : Value} {b : List UInt8} (h : NS B w v b) : Sl w v b := by
  obtain ⟨ko, c, t, mk, rfl, h1, h2⟩ := h
  refine ⟨_, _, rfl, (fun h => by cases h), ?_⟩
  rintro a ⟨⟩ j u hu
  rw [zadd, cell_of_row w ko j _ _ _ h2]
  simpa using hu
theorem NP.parts {B : Nat} {w : World} {v : Value} {L : List (List UInt8)} (h : NP B w v L) : Parts w v L := by
  obtain ⟨kb, c, cs, t, mk, rfl, h1, h2, h3, h4⟩ := h
  refine ⟨_, _, rfl, fun j hj => ⟨_, rfl, ?_⟩⟩
  obtain ⟨u, h5, h6⟩ := h4 j hj
  have h7 := h6.sl
  obtain ⟨aj, cj, rfl, h8⟩ := h7
  refine ⟨aj, cj, ?_, ⟨aj, cj, rfl, h8⟩⟩
  rw [zadd, cell_of_row w kb j _ _ _ h2]
  simpa using h5
theorem ns_alloc {B : Nat} {w : World} {b : List UInt8} {t : TypeId} (hB : B ≤ w.heap.size) (c : Nat) : NS B (w.alloc (.cells (bvs b).toArray t (0, 0))) (.slice (some ⟨w.heap.size, 0, none⟩) b.length c) b :=
  ⟨_, _, _, _, rfl, hB, heap_alloc_new w _⟩
theorem np_alloc {B : Nat} {w : World} {L : List (List UInt8)} {vs : List Value} {t : TypeId} (hB : B ≤ w.heap.size) (c : Nat) (hl : vs.length = L.length) (h : ∀ j, j < L.length → ∃ u, vs[j]? = some u ∧ NS B w u (L.getD j [])) :
    NP B (w.alloc (.cells vs.toArray t (0, 0))) (.slice (some ⟨w.heap.size, 0, none⟩) L.length c) L := by
  refine ⟨_, _, vs, _, _, rfl, hB, heap_alloc_new w _, hl, fun j hj => ?_⟩
  obtain ⟨u, h1, h2⟩ := h j hj
  exact ⟨u, h1, h2.frame (Kept.of (T := fun _ => False) ((Frm.refl _ w).alloc _) (fun _ h => h.elim))⟩
/-- A conversion of bytes to their own type marks the row. -/
theorem run_mark {w : World} {g n c : Nat} {C : Array Value} {e : TypeId} {fr : Nat × Nat} (h : w.heap[g]? = some (.cells C e fr)) :
    (convert 32 32 (.slice (some ⟨g, 0, none⟩) n c)).run Try.prog w = .ok (.slice (some ⟨g, 0, none⟩) n c) (w.freeze ⟨g, C.size, none⟩ 1) := by
  have hsh : w.shape? g = some (e, C.size) := by
    unfold World.shape?
    rw [h]
  simp [convert, run_underlying Try.underlying32, run_underlying Try.underlying5, markStringish, hsh]
theorem frm_freeze (w : World) (g o : Nat) : Frm (fun i => i = g) w (w.freeze ⟨g, o, none⟩ 1) := by
  unfold World.freeze
  rw [if_neg (by decide)]
  exact ⟨rfl, rfl, rfl, by simp, fun k hk hn => by simp [Array.getElem?_modify, Ne.symm hn]⟩
theorem freeze_row {w : World} {g : Nat} {C : Array Value} {e : TypeId} {fr : Nat × Nat} (h : w.heap[g]? = some (.cells C e fr)) (o : Nat) : ∃ mk, (w.freeze ⟨g, o, none⟩ 1).heap[g]? = some (.cells C e mk) := by
  unfold World.freeze
  rw [if_neg (by decide)]
  obtain ⟨lo, hi⟩ := fr
  simp only [Array.getElem?_modify, if_true, h, Option.map_some]
  exact ⟨_, rfl⟩
def z200 : List UInt8 := List.replicate 200 0
def z100 : List UInt8 := List.replicate 100 0
def abc6 : List UInt8 := [97, 98, 99, 100, 101, 102]
/-- The disk behind the first append, and behind the second one. -/
def gX1 : DS := (lays 1 2 200 (DS.new 3) 0 z200).1
def gX2 : DS := (lays 1 2 178 gX1 128 (List.replicate 72 0 ++ (abc6 ++ z100))).1

theorem run_with {P : Program} {o : Oper} {a : Act} {w : World} {r : Result Next} (ev : Operand → Value) (h1 : (execOp a.eval o).run P w = (execOp ev o).run P w) (h2 : (execOp ev o).run P w = r) : (execOp a.eval o).run P w = r := h1.trans h2
/-- What the operations of the seventh region leave in their slots. -/
def goF (r B j : Nat) (v : Value) (w : World) : Prop := match j with
  | 0 | 4 => v = .pointer (some ⟨r, 0, none⟩)
  | 1 => NS B w v z200
  | 2 => NP B w v [z200]
  | 5 | 6 => NS B w v abc6
  | 7 => NS B w v z100
  | 8 => NP B w v [abc6, z100]
  | 3 | 9 | 10 | 11 => v = .int .i64 0
  | _ => True
theorem goF.frame {r B : Nat} (j : Nat) (v : Value) (w w' : World) (f : Kept B w w') (h : goF r B j v w) : goF r B j v w' := by
  match j, h with
  | 0, h => exact h
  | 1, h => exact NS.frame h f
  | 2, h => exact NP.frame h f
  | 3, h => exact h
  | 4, h => exact h
  | 5, h => exact NS.frame h f
  | 6, h => exact NS.frame h f
  | 7, h => exact NS.frame h f
  | 8, h => exact NP.frame h f
  | 9, h => exact h
  | 10, h => exact h
  | 11, h => exact h
  | n + 12, h => trivial
/-- How the ring and its disk stand, by which of the two appends was done. -/
structure GoSt (w2 : World) (T : Nat → Prop) (r d g m : Nat) (b3 b9 : Bool) (w : World) : Prop where
  frm : Frm T w2 w
  imp : b9 = true → b3 = true
  at_ : ∃ k n S t, ¬ own3 d g m k ∧ ((b3 = false ∧ RingAt w r d k 1 2 0 S t ∧ DiskAt Try.prog w d g m n (DS.new 3) ∧ n = 0) ∨
       (b3 = true ∧ b9 = false ∧ RingAt w r d k 1 2 200 S t ∧ S.take 72 = List.replicate 72 0 ∧ DiskAt Try.prog w d g m n gX1 ∧ n ≤ 1000) ∨
       (b9 = true ∧ RingAt w r d k 1 2 306 S t ∧ DiskAt Try.prog w d g m n gX2 ∧ n ≤ 2000))
theorem GoSt.keep {w2 : World} {T : Nat → Prop} {r d g m : Nat} {b3 b9 : Bool} {w w' : World} (h : GoSt w2 T r d g m b3 b9 w) (f : Frm (fun _ => False) w w') : GoSt w2 T r d g m b3 b9 w' := by
  obtain ⟨h1, h2, k, n, S, t, hk, h3⟩ := h
  refine ⟨h1.transT f (fun _ _ h => h.elim), h2, k, n, S, t, hk, ?_⟩
  rcases h3 with ⟨e, hR, hD, hn⟩ | ⟨e, e9, hR, hS, hD, hn⟩ | ⟨e, hR, hD, hn⟩
  · exact .inl ⟨e, hR.frame f id id, hD.frame f id id id, hn⟩
  · exact .inr (.inl ⟨e, e9, hR.frame f id id, hS, hD.frame f id id id, hn⟩)
  · exact .inr (.inr ⟨e, hR.frame f id id, hD.frame f id id id, hn⟩)
theorem GoSt.mark {w2 : World} {T : Nat → Prop} {r d g m : Nat} {b3 b9 : Bool} {w : World} (TL : ∀ i, T i → i < w2.heap.size) (hT : T = fun i => i = r ∨ own3 d g m i) (h : GoSt w2 T r d g m b3 b9 w) {ko : Nat} {t : TypeId} {mk : Nat × Nat} (hko : w2.heap.size ≤ ko) (hrow : w.heap[ko]? = some (.cells (bvs abc6).toArray t mk)) (o : Nat) :
    GoSt w2 T r d g m b3 b9 (w.freeze ⟨ko, o, none⟩ 1) := by
  obtain ⟨h1, h2, k, n, S, t, hk, h3⟩ := h
  have f := frm_freeze w ko o
  have nT : ∀ i, T i → ¬ i = ko := fun i hi e => by have := TL i hi; omega
  have nr : ¬ r = ko := nT r (by rw [hT]; exact .inl rfl)
  have nd : ¬ d = ko := nT d (by rw [hT]; exact .inr (.inl rfl))
  have ng : ¬ g = ko := nT g (by rw [hT]; exact .inr (.inr (.inl rfl)))
  have nm : ¬ m = ko := nT m (by rw [hT]; exact .inr (.inr (.inr rfl)))
  have nk : ∀ {tl : Nat}, RingAt w r d k 1 2 tl S t → ¬ k = ko := fun hR e => by
    have h5 := hR.row
    have h6 := hR.len
    rw [e, hrow] at h5
    have h7 := congrArg (fun o => match o with | some (Obj.cells cs _ _) => cs.size | _ => 0) h5
    simp [bvs_length, h6, abc6] at h7
  refine ⟨h1.transT f (fun i hi e => absurd e (by omega)), h2, k, n, S, t, hk, ?_⟩
  rcases h3 with ⟨e, hR, hD, hn⟩ | ⟨e, e9, hR, hS, hD, hn⟩ | ⟨e, hR, hD, hn⟩
  · exact .inl ⟨e, hR.frame f nr (nk hR), hD.frame f nd ng nm, hn⟩
  · exact .inr (.inl ⟨e, e9, hR.frame f nr (nk hR), hS, hD.frame f nd ng nm, hn⟩)
  · exact .inr (.inr ⟨e, hR.frame f nr (nk hR), hD.frame f nd ng nm, hn⟩)
theorem ds3 : leftN 0 0 2 = 256 ∧ leftN 200 200 2 = 184 ∧ leftN 200 306 2 = 78 ∧ sumLen [z200] = 200 ∧ sumLen [abc6, z100] = 106 := by decide +kernel
theorem lay1 : (lays 1 2 200 (DS.new 3) 0 z200).2 = 0 := by decide +kernel
theorem lay2 : (lays 1 2 178 gX1 128 (List.replicate 72 0 ++ (abc6 ++ z100))).2 = 0 := by decide +kernel
theorem pad1 : (pad (z200.drop ((200 - 1) / 128 * 128))).take 72 = List.replicate 72 0 := by decide +kernel
/-- The first append. -/
theorem go_first {w2 w : World} {T : Nat → Prop} {r d g m : Nat} (hT : T = fun i => i = r ∨ own3 d g m i) (hr : ¬ own3 d g m r) (hst : GoSt w2 T r d g m false false w) {v : Value} (hv : NP w2.heap.size w v [z200]) :
    Calls Try.prog 19 #[.pointer (some ⟨r, 0, none⟩), .int .u64 0, v] w fun e w' => e = .returned (.int .i64 0) ∧ Frm T w w' ∧ GoSt w2 T r d g m true false w' := by
  obtain ⟨h1, h2, k, n, S, t, hk, h3⟩ := hst
  rcases h3 with ⟨_, hR, hD, rfl⟩ | ⟨e, _⟩ | ⟨e, _⟩
  · have hP := hv.parts
    obtain ⟨kb, c, cs, t', mk', rfl, _⟩ := hv
    refine (append_any hR (by decide) hD hr hk (by decide) 0 (by decide) _ c [z200] hP (by decide) (by rw [ds3.2.2.2.1]; decide)).mono ?_
    rw [ds3.1, ds3.2.2.2.1]
    rintro e w' (⟨h, _⟩ | ⟨h, _⟩ | ⟨_, _, X, hX, he, hD', hF, hRk, _⟩)
    · omega
    · omega
    · have e1 : S.take (0 % 128) ++ [z200].flatten = z200 := by simp
      rw [e1] at hX hD' hRk
      have e2 : z200.length = 200 := by decide +kernel
      rw [e2] at hX hD' hRk
      have e3 : X.2 = 0 := by rw [hX]; exact lay1
      have e4 : X.1 = gX1 := by rw [hX]; rfl
      rw [e3] at he
      rw [e4] at hD'
      obtain ⟨ks, hks, hR'⟩ := hRk e3
      rw [← hT] at hF
      have q2 := hD.dlt
      have q3 := hD.glt
      have q4 := hD.mlt
      exact ⟨he, hF, ⟨h1.trans hF, (fun h => by cases h), ⟨ks, _, _, _, (by rintro (h | h | h) <;> omega), .inr (.inl ⟨rfl, rfl, hR', pad1, hD', by omega⟩)⟩⟩⟩
  · cases e
  · cases e
/-- The second append. -/
theorem go_second {w2 w : World} {T : Nat → Prop} {r d g m : Nat} (hT : T = fun i => i = r ∨ own3 d g m i) (hr : ¬ own3 d g m r) (hst : GoSt w2 T r d g m true false w) {v : Value} (hv : NP w2.heap.size w v [abc6, z100]) :
    Calls Try.prog 19 #[.pointer (some ⟨r, 0, none⟩), .int .u64 200, v] w fun e w' => e = .returned (.int .i64 0) ∧ Frm T w w' ∧ GoSt w2 T r d g m true true w' := by
  obtain ⟨h1, h2, k, n, S, t, hk, h3⟩ := hst
  rcases h3 with ⟨e, _⟩ | ⟨_, _, hR, hS, hD, hn⟩ | ⟨e, _⟩
  · cases e
  · have hP := hv.parts
    obtain ⟨kb, c, cs, t', mk', rfl, _⟩ := hv
    refine (append_any hR (by decide) hD hr hk (by omega) 200 (by decide) _ c [abc6, z100] hP (by decide) (by rw [ds3.2.2.2.2]; decide)).mono ?_
    rw [ds3.2.1, ds3.2.2.2.2]
    rintro e w' (⟨h, _⟩ | ⟨h, _⟩ | ⟨_, _, X, hX, he, hD', hF, hRk, _⟩)
    · omega
    · omega
    · have e1 : S.take (200 % 128) ++ [abc6, z100].flatten = List.replicate 72 0 ++ (abc6 ++ z100) := by
        rw [show 200 % 128 = 72 from rfl, hS]; simp
      rw [e1] at hX hD' hRk
      have e2 : (List.replicate 72 0 ++ (abc6 ++ z100)).length = 178 := by decide +kernel
      rw [e2] at hX hD' hRk
      have e3 : X.2 = 0 := by rw [hX]; exact lay2
      have e4 : X.1 = gX2 := by rw [hX]; rfl
      rw [e3] at he
      rw [e4] at hD'
      obtain ⟨ks, hks, hR'⟩ := hRk e3
      rw [← hT] at hF
      have q2 := hD.dlt
      have q3 := hD.glt
      have q4 := hD.mlt
      exact ⟨he, hF, ⟨h1.trans hF, (fun _ => rfl), ⟨ks, _, _, _, (by rintro (h | h | h) <;> omega), .inr (.inr ⟨rfl, hR', hD', by omega⟩)⟩⟩⟩
  · cases e
theorem sec0 : ((DS.new 3).read (sec 1 2 0 : Nat)) = (zeros, 0) := by
  simp [DS.read, DS.new, DS.sure, DS.has, sec]
set_option maxRecDepth 100000 in
set_option maxHeartbeats 4000000 in
theorem goes_any (w : World) : Calls Try.prog 15 #[] w fun e w' => e = .returned (.bool true) ∧ Below w.heap.size w w' := by
  have N := Lib.hid (new_any 3 (by decide) (by decide) w)
  go_enter Try.func15, Try.ntmps15
  go_wp2_with fail
  refine N.out.mono ?_
  rintro e w1 ⟨d, g, m, rfl, hD1, hb1, hd, hg, hm⟩
  have OP := Lib.hid (open_good hD1 1 2 0 (by decide) (by simp [DS.new]) (by decide) (by rw [sec0]))
  rw [sec0] at OP
  have HD1 := Lib.hid hD1
  have HB1 := Lib.hid hb1
  clear hD1 hb1 N
  go_wp2_with fail
  refine OP.out.mono ?_
  rintro e w2 ⟨r, k, rfl, hR2, hb2, hr, hk⟩
  have HR2 := Lib.hid hR2
  have HD2 := Lib.hid (HD1.out.below hb2 (Nat.le_refl _))
  have HB2 := Lib.hid (HB1.out.trans (hb2.mono HB1.out.size))
  have SZ := Lib.hid (size_any hR2)
  have LF := Lib.hid (left_any hR2 (by decide) 0 (by decide))
  rw [show leftN 0 0 2 = 256 from by decide] at LF
  clear hR2 hb2 OP
  go_wp2_with fail
  refine SZ.out.mono ?_
  rintro e w' ⟨rfl, rfl⟩
  go_wp2_with fail
  refine LF.out.mono ?_
  rintro e w3 ⟨rfl, m3, rfl⟩
  clear SZ LF
  go_wp2_with fail
  obtain ⟨T, hT⟩ : ∃ T, T = fun i => i = r ∨ own3 d g m i := ⟨_, rfl⟩
  have TL : ∀ i, T i → i < w2.heap.size := by
    have q1 := HR2.out.rlt
    have q2 := HD2.out.dlt
    have q3 := HD2.out.glt
    have q4 := HD2.out.mlt
    rw [hT]
    rintro i (h | h | h | h) <;> omega
  have HT := Lib.hid hT
  have hrn : ¬ own3 d g m r := by
    have q2 := HD1.out.dlt
    have q3 := HD1.out.glt
    have q4 := HD1.out.mlt
    rintro (h | h | h) <;> omega
  clear hT
  refine wp_region_slots (by kernel_rfl) (by kernel_rfl)
    (fun x => ⟨#[Value.bool false, Value.pointer (some { block := d, off := 0 }), Value.int IntKind.i64 0,
          Value.pointer (some { block := r, off := 0 }), Value.int IntKind.i64 0, x 10, x 11, undef, undef,
          Value.tuple #[Value.pointer (some { block := d, off := 0 }), Value.int IntKind.i64 0],
          Value.tuple #[Value.pointer (some { block := d, off := 0 }), Value.int IntKind.i64 0],
          Value.pointer (some { block := d, off := 0 }), Value.int IntKind.i64 0,
          Value.pointer (some { block := d, off := 0 }), Value.bool false,
          Value.tuple #[Value.pointer (some { block := r, off := 0 }), Value.int IntKind.i64 0],
          Value.pointer (some { block := d, off := 0 }),
          Value.tuple #[Value.pointer (some { block := r, off := 0 }), Value.int IntKind.i64 0],
          Value.pointer (some { block := r, off := 0 }), Value.int IntKind.i64 0,
          Value.pointer (some { block := r, off := 0 }), Value.bool false, Value.bool false, Value.int IntKind.i64 0,
          Value.bool false, Value.bool false, Value.bool false, Value.pointer (some { block := r, off := 0 }),
          Value.int IntKind.i64 256, Value.bool false, Value.bool false, Value.bool false,
          Value.pointer (some { block := r, off := 0 }), Value.int IntKind.i64 256, Value.bool false, Value.bool false,
          x 0, x 1, x 2, x 3, x 4, x 5, x 6, x 7, x 8, x 9,
          undef, undef, undef, undef, undef, undef, undef, undef, undef, undef, undef, undef, undef, undef,
          undef, undef, undef, undef, undef, undef, undef, undef, undef, undef, undef, undef, undef, undef], []⟩)
    (goF r w2.heap.size) (fun L w => GoSt w2 T r d g m (L 3) (L 9) w) (Kept w2.heap.size) goF.frame ?_ ?_ (fun _ => undef) rfl ?_
  · intro i o ho L x w hd hi hx hs
    have KR : ∀ w, Kept w2.heap.size w w := fun w => Kept.of (T := T) (Frm.refl _ _) TL
    have KA : ∀ w o, Kept w2.heap.size w (w.alloc o) := fun w o => Kept.of (T := T) ((Frm.refl _ _).alloc _) TL
    match i, ho with
    | 0, ho => 
      obtain rfl := Option.some.inj ho
      exact slot_run rfl ⟨_, rfl, KR _, rfl, hs⟩
    | 1, ho => 
      obtain rfl := Option.some.inj ho
      exact slot_run (v := .slice (some ⟨w.heap.size, 0, none⟩) 200 200) (w' := w.alloc (.cells (bvs z200).toArray 5 (0, 0))) (by kernel_rfl) ⟨_, rfl, KA _ _, ns_alloc (b := z200) hs.frm.size 200, hs.keep ((Frm.refl _ _).alloc _)⟩
    | 2, ho =>
      obtain rfl := Option.some.inj ho
      have x1 := hx 1 (hd ⟨1, .data⟩ (by simp) rfl)
      obtain ⟨ko, c, t1, mk1, e1, hko, hrg⟩ := x1
      refine slot_run (v := .slice (some ⟨w.heap.size, 0, none⟩) 1 1) (w' := w.alloc (.cells [x 1].toArray 32 (0, 0))) ?_ ⟨_, rfl, KA _ _, np_alloc (L := [z200]) (vs := [x 1]) hs.frm.size 1 rfl (fun j hj => ?_), hs.keep ((Frm.refl _ _).alloc _)⟩
      · refine run_with (fun _ => x 1) (by kernel_rfl) ?_
        rw [e1]
        kernel_rfl
      · obtain rfl : j = 0 := by simpa using hj
        exact ⟨x 1, rfl, ko, c, t1, mk1, e1, hko, hrg⟩
    | 3, ho => 
      obtain rfl := Option.some.inj ho
      have x0 : x 0 = .pointer (some ⟨r, 0, none⟩) := hx 0 (hd ⟨0, .data⟩ (by simp) rfl)
      have x2 := hx 2 (hd ⟨2, .data⟩ (by simp) rfl)
      have h9 : L 9 = false := by
        rcases hb : L 9 with _ | _
        · rfl
        · have := hs.imp hb; rw [hi] at this; cases this
      rw [hi, h9] at hs
      refine slot_call #[.pointer (some ⟨r, 0, none⟩), .int .u64 0, x 2] rfl Try.func19 (by kernel_rfl) (by kernel_rfl) (by simp [Act.eval, x0]) ?_
      refine (go_first HT.out hrn hs x2).mono ?_
      rintro e w' ⟨rfl, hf, hs'⟩
      exact ⟨_, rfl, _, rfl, Kept.of hf TL, rfl, by show GoSt w2 T r d g m true (L 9) w'; rw [h9]; exact hs'⟩
    | 4, ho => 
      obtain rfl := Option.some.inj ho
      exact slot_run rfl ⟨_, rfl, KR _, rfl, hs⟩
    | 5, ho =>
      obtain rfl := Option.some.inj ho
      exact slot_run (v := .slice (some ⟨w.heap.size, 0, none⟩) 6 6) (w' := w.alloc (.cells (bvs abc6).toArray 5 (0, 0))) (by kernel_rfl) ⟨_, rfl, KA _ _, ns_alloc (b := abc6) hs.frm.size 6, hs.keep ((Frm.refl _ _).alloc _)⟩
    | 6, ho => 
      obtain rfl := Option.some.inj ho
      have x5 := hx 5 (hd ⟨5, .data⟩ (by simp) rfl)
      obtain ⟨ko, c, t1, mk1, e1, hko, hrg⟩ := x5
      obtain ⟨mk2, hmk2⟩ := freeze_row hrg (bvs abc6).toArray.size
      refine slot_run (v := x 5) (w' := w.freeze ⟨ko, (bvs abc6).toArray.size, none⟩ 1) ?_ ⟨_, rfl, ⟨fun k' hk' cs t mk h => ?_⟩, ⟨ko, c, t1, mk2, e1, hko, hmk2⟩, hs.mark TL HT.out hko hrg _⟩
      · refine run_with (fun _ => x 5) (by kernel_rfl) ?_
        rw [e1]
        refine (show _ = (do pure (Next.value (← convert 32 32 (.slice (some ⟨ko, 0, none⟩) abc6.length c))) : Sem Next).run Try.prog w from rfl).trans ?_
        simp [run_mark hrg]
      · by_cases hkk : k' = ko
        · subst hkk
          rw [hrg] at h
          cases h
          exact ⟨_, hmk2⟩
        · exact ⟨mk, ((frm_freeze w ko _).block k' (lt_of_row h) hkk).trans h⟩
    | 7, ho =>
      obtain rfl := Option.some.inj ho
      exact slot_run (v := .slice (some ⟨w.heap.size, 0, none⟩) 100 100) (w' := w.alloc (.cells (bvs z100).toArray 5 (0, 0))) (by kernel_rfl) ⟨_, rfl, KA _ _, ns_alloc (b := z100) hs.frm.size 100, hs.keep ((Frm.refl _ _).alloc _)⟩
    | 8, ho =>
      obtain rfl := Option.some.inj ho
      have x6 := hx 6 (hd ⟨6, .data⟩ (by simp) rfl)
      have x7 := hx 7 (hd ⟨7, .data⟩ (by simp) rfl)
      obtain ⟨ko, c, t1, mk1, e1, hko, hrg⟩ := x6
      obtain ⟨ko', c', t2, mk2, e2, hko', hrg'⟩ := x7
      refine slot_run (v := .slice (some ⟨w.heap.size, 0, none⟩) 2 2) (w' := w.alloc (.cells [x 6, x 7].toArray 32 (0, 0))) ?_ ⟨_, rfl, KA _ _, np_alloc (L := [abc6, z100]) (vs := [x 6, x 7]) hs.frm.size 2 rfl (fun j hj => ?_), hs.keep ((Frm.refl _ _).alloc _)⟩
      · refine run_with (fun y => match y with | .tmp 42 => x 6 | _ => x 7) (by kernel_rfl) ?_
        rw [e1, e2]
        kernel_rfl
      · have hj' : j = 0 ∨ j = 1 := by simp at hj; omega
        rcases hj' with rfl | rfl
        · exact ⟨x 6, rfl, ko, c, t1, mk1, e1, hko, hrg⟩
        · exact ⟨x 7, rfl, ko', c', t2, mk2, e2, hko', hrg'⟩
    | 9, ho => 
      obtain rfl := Option.some.inj ho
      have x4 : x 4 = .pointer (some ⟨r, 0, none⟩) := hx 4 (hd ⟨4, .data⟩ (by simp) rfl)
      have x8 := hx 8 (hd ⟨8, .data⟩ (by simp) rfl)
      have h3 : L 3 = true := hd ⟨3, .chain⟩ (by simp) rfl
      rw [hi, h3] at hs
      refine slot_call #[.pointer (some ⟨r, 0, none⟩), .int .u64 200, x 8] rfl Try.func19 (by kernel_rfl) (by kernel_rfl) (by simp [Act.eval, x4]) ?_
      refine (go_second HT.out hrn hs x8).mono ?_
      rintro e w' ⟨rfl, hf, hs'⟩
      exact ⟨_, rfl, _, rfl, Kept.of hf TL, rfl, by show GoSt w2 T r d g m (L 3) true w'; rw [h3]; exact hs'⟩
    | 10, ho => 
      obtain rfl := Option.some.inj ho
      have x3 : x 3 = .int .i64 0 := hx 3 (hd ⟨3, .data⟩ (by simp) rfl)
      exact slot_run rfl ⟨_, rfl, KR _, x3, hs⟩
    | 11, ho => 
      obtain rfl := Option.some.inj ho
      have x9 : x 9 = .int .i64 0 := hx 9 (hd ⟨9, .data⟩ (by simp) rfl)
      exact slot_run rfl ⟨_, rfl, KR _, x9, hs⟩
    | n + 12, ho => simp at ho
  · intro L x wq hall hx hs
    dsimp only
    have x0 : x 0 = .pointer (some ⟨r, 0, none⟩) := hx 0 (hall 0 (by decide))
    have x4 : x 4 = .pointer (some ⟨r, 0, none⟩) := hx 4 (hall 4 (by decide))
    have x3 : x 3 = .int .i64 0 := hx 3 (hall 3 (by decide))
    have x9 : x 9 = .int .i64 0 := hx 9 (hall 9 (by decide))
    have x10 : x 10 = .int .i64 0 := hx 10 (hall 10 (by decide))
    have x11 : x 11 = .int .i64 0 := hx 11 (hall 11 (by decide))
    have h3 := hall 3 (by decide)
    have h9 := hall 9 (by decide)
    rw [h3, h9] at hs
    rw [x0, x4, x3, x9, x10, x11]
    generalize x 1 = v1
    generalize x 2 = v2
    generalize x 5 = v5
    generalize x 6 = v6
    generalize x 7 = v7
    generalize x 8 = v8
    obtain ⟨hF, _, k', n', S, t, hkn, h | h | h⟩ := hs
    · cases h.1
    · cases h.2.1
    obtain ⟨_, hR, hD, hn'⟩ := h
    have HR := Lib.hid hR
    have HD := Lib.hid hD
    have HB := Lib.hid hF
    have RD := Lib.hid (rread_ok hR (by decide) hD 200 6 (by decide) (by decide +kernel) (by decide +kernel) (by decide +kernel))
    have SZ := Lib.hid (tail_any hR)
    clear hR hD hF hx hall x0 x4 x3 x9 x10 x11 h3 h9
    go_wp2_with fail
    refine RD.out.mono ?_
    rintro e w4 ⟨ko, c, rfl, hrg, hko, hb4⟩
    rw [show bytesAt 1 2 gX2 200 6 = abc6 by decide +kernel] at hrg
    have HR4 := Lib.hid (HR.out.below hb4 (Nat.le_refl _))
    have HD4 := Lib.hid (HD.out.below hb4 (Nat.le_refl _))
    have HB4 := Lib.hid (HB.out.trans (Frm.of_below hb4 (Nat.le_refl _)))
    have TA := Lib.hid (tail_any HR4.out)
    have hsl : Sl w4 (.slice (some ⟨ko, 0, none⟩) 6 c) abc6 := by
      refine ⟨_, _, rfl, (fun h => by cases h), ?_⟩
      rintro a ⟨⟩ j u hu
      rw [zadd]
      have := hrg j u hu
      simpa using this
    have CV := hsl.convert.1
    rw [show str abc6 = ⟨#[97, 98, 99, 100, 101, 102]⟩ by kernel_rfl] at CV
    clear hrg hsl SZ RD HB1 hb4
    go_wp2_with fail
    refine TA.out.mono ?_
    rintro e w' ⟨rfl, rfl⟩
    have hmk : (Instr.makeSlice 32 (.int .i64 100) (.int .i64 100)).run Try.prog w4 = .ok (.slice (some ⟨w4.heap.size, 0, none⟩) 100 100) (w4.alloc (.cells (bvs z100).toArray 5 (0, 0))) := by kernel_rfl
    have hz := ns_alloc (B := w4.heap.size) (w := w4) (b := z100) (t := 5) (Nat.le_refl _) 100
    have f5 : Frm (fun _ => False) w4 (w4.alloc (.cells (bvs z100).toArray 5 (0, 0))) := (Frm.refl _ _).alloc _
    obtain ⟨w5, hw5⟩ : ∃ w5, w5 = w4.alloc (.cells (bvs z100).toArray 5 (0, 0)) := ⟨_, rfl⟩
    rw [← hw5] at hmk hz f5
    have HZ := Lib.hid hz
    have F5 := Lib.hid f5
    obtain ⟨g5, hg5⟩ : ∃ g5, g5 = w4.heap.size := ⟨_, rfl⟩
    rw [← hg5] at hmk
    have HG5 := Lib.hid hg5
    have hnp := np_alloc (B := w4.heap.size) (w := w5) (L := [z100]) (vs := [.slice (some ⟨g5, 0, none⟩) 100 100]) (t := 32) f5.size 1 rfl (fun j hj => by
      obtain rfl : j = 0 := by simpa using hj
      exact ⟨_, rfl, by rw [hg5]; exact hz⟩)
    have f6 : Frm (fun _ => False) w4 (w5.alloc (.cells [.slice (some ⟨g5, 0, none⟩) 100 100].toArray 32 (0, 0))) := f5.alloc _
    have AP := Lib.hid (append_any (HR4.out.frame f6 id id) (by decide) (HD4.out.frame f6 id id id) hrn hkn (by omega) 200 (by decide) _ 1 [z100] hnp.parts (by decide) (by decide +kernel))
    rw [ds3.2.2.1, show sumLen [z100] = 100 by decide +kernel] at AP
    have FB := Lib.hid (HB4.out.transT f6 (fun _ _ h => h.elim))
    clear hw5 hz f5 hg5 hnp f6
    go_wp2_with fail
    refine AP.out.mono ?_
    rintro e w7 (⟨_, rfl, q, rfl⟩ | ⟨h, _⟩ | ⟨_, h, _⟩)
    · have hfin : Below w.heap.size w ((w5.alloc (.cells [.slice (some ⟨g5, 0, none⟩) 100 100].toArray 32 (0, 0))).drewN q) := by
        refine HB2.out.trans ((FB.out.drewN q).below ?_ HB2.out.size)
        have q1 := HB2.out.size
        rw [HT.out]
        rintro i _ (h | h | h | h) <;> have := HD1.out.dlt <;> omega
      have HF := Lib.hid hfin
      clear hfin
      go_wp2_with fail
      go_ret
      exact ⟨rfl, HF.out⟩
    · omega
    · omega
  · have f0 : Frm (fun _ => False) w2 (w2.drewN m3).drew := ((Frm.refl _ w2).drewN m3).drew
    refine GoSt.mk (((Frm.refl _ w2).drewN m3).drew) (fun h => by cases h) ⟨k, 0, _, _, ?_, .inl ⟨rfl, HR2.out.frame f0 id id, HD2.out.frame f0 id id id, rfl⟩⟩
    have q2 := HD1.out.dlt
    have q3 := HD1.out.glt
    have q4 := HD1.out.mlt
    rintro (h | h | h) <;> omega
end Go.Proofs.Ytllnaocnojhlkaa.Dk
