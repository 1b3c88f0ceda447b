/- The walk of EventOwn. -/
import Derived.Test.YtgdoolchmimgbaaGreatDoorIS
import Derived.Test.YtgdoolchmimgbaaGreatDoorGQ
import Derived.Test.YtgdoolchmimgbaaGreatDoorG2
namespace Go.Proofs.YtgdoolchmimgbaaGreatDoor.Wi
open Go Go.RowKit
set_option linter.unusedVariables false
set_option linter.unusedSimpArgs false
theorem setCells_block (b : Nat) : ∀ (vs : List Value) (o : Nat) (w : World) (cur : Array Value) (t : TypeId) (fr : Nat × Nat), w.heap[b]? = some (.cells cur t fr) → ∃ cur', (w.setCells b o vs).heap[b]? = some (.cells cur' t fr) ∧ cur'.size = cur.size
  | [], _, w, cur, t, fr, h => ⟨cur, h, rfl⟩
  | v :: vs, o, w, cur, t, fr, h => by
    rw [World.setCells]
    obtain ⟨c2, h2, e2⟩ := setCells_block b vs (o + 1) (w.setCell ⟨b, o, none⟩ v) _ t fr (Go.Joins.block_setCell (i := o) h v)
    exact ⟨c2, h2, by rw [e2]; simp⟩
theorem setCells_other (b k : Nat) (hk : k ≠ b) : ∀ (vs : List Value) (o : Nat) (w : World), (w.setCells b o vs).heap[k]? = w.heap[k]?
  | [], _, w => rfl
  | v :: vs, o, w => by rw [World.setCells, setCells_other b k hk vs]; exact Below.heap_setCell w ⟨b, o, none⟩ v k hk
theorem below_setCells {B : Nat} {w0 : World} (b : Nat) (hb : B ≤ b) : ∀ (vs : List Value) (o : Nat) (w : World), Below B w0 w → Below B w0 (w.setCells b o vs)
  | [], _, w, h => h
  | v :: vs, o, w, h => by rw [World.setCells]; exact below_setCells b hb vs (o + 1) _ (h.setCell (p := ⟨b, o, none⟩) hb v)
/-- A row of values of which one is written anew is a row still. -/
theorem own_setCells {B g n c : Nat} {w : World} {cs : List Value} (h : w.ownsRow B 24 4 (.slice (some ⟨g, 0, none⟩) n c) n cs) (o : Nat) (vs : List Value) : ∃ cs', (w.setCells g o vs).ownsRow B 24 4 (.slice (some ⟨g, 0, none⟩) n c) n cs' := by
  rcases h.2 with ⟨e1, _⟩ | ⟨g', cap, cur, e1, hB, hr, hc, hm, hs, _⟩
  · cases e1
  · injection e1 with e1 e2 e3
    injection e1 with e1
    injection e1 with e1 _ _
    subst e1 e3
    obtain ⟨cur', h1, h2⟩ := setCells_block g vs o w cur _ _ hr
    refine ⟨cur'.toList.take (n * 4), ?_, Or.inr ⟨g, c, cur', rfl, hB, h1, hc, hm, by rw [h2, hs], rfl⟩⟩
    rw [List.length_take, Array.length_toList, h2, hs, Nat.min_eq_left]
    exact Nat.mul_le_mul_right 4 hc
theorem own_there {B g n c : Nat} {w : World} {cs : List Value} (h : w.ownsRow B 24 4 (.slice (some ⟨g, 0, none⟩) n c) n cs) {j : Nat} (hj : j < n) : w.there g (j * 4) 4 := by
  intro i hi
  have hl := h.1
  rcases h.2 with ⟨e1, _⟩ | ⟨g', cap, cur, e1, hB, hr, hc, hm, hs, _⟩
  · cases e1
  · injection e1 with e1 e2 e3
    injection e1 with e1
    injection e1 with e1 _ _
    subst e1 e3
    refine ⟨?_, ?_⟩
    · rw [cell_of_rowW _ g (j * 4 + i) _ _ _ hr]
      have : j * 4 + i < cur.size := by rw [hs]; omega
      simp [this]
    · simp [World.frozen?, hr]
def EoAns (w : World) (e : Ending) (w' : World) : Prop :=
  ∃ g c va n vc cs, e = .returned (.slice (some ⟨g, 0, none⟩) 1 c) ∧ 1 ≤ c ∧ Below w.heap.size w w' ∧ w.heap.size ≤ g ∧ g < w'.heap.size ∧ w'.cell? ⟨g, 10, none⟩ = some (.slice va n vc) ∧ n ≤ 140737488355328 ∧ (n ≠ 0 → w'.ownsRow w.heap.size 24 4 (.slice va n vc) n cs ∧ some g ≠ (Value.slice va n vc).ownBlock)
theorem eerase_one {x : Ev} {w : World} (hx : x.At w.heap.size w) (hd : x.val.dpr 65536 = false) (ht : eTask x.kind = false) :
    Calls Tryz.prog 29 #[.slice (some ⟨w.heap.size, 0, none⟩) 1 1] (w.alloc (.cells x.cells.toArray 26)) (EoAns w) := by
  have hb : Below w.heap.size w (w.alloc (.cells x.cells.toArray 26)) := (Below.refl _ _).alloc (Nat.le_refl _) _
  refine (eerase_any (some ⟨w.heap.size, 0, none⟩) 1 [x] _ _ (EL.one hx) (fun q hq => by rw [List.mem_singleton.1 hq]; exact hd) (by simp) (Nat.le_refl _)).mono ?_
  rintro e w' ⟨ao, c, Y, rfl, hm, hel, own, hb2⟩
  have hl := congrArg List.length hm
  rw [erE, if_neg (by rw [ht]; simp), erE] at hl
  simp only [List.length_map, List.length_cons, List.length_nil] at hl
  obtain ⟨y, rfl⟩ : ∃ y, Y = [y] := List.length_eq_one_iff.1 hl
  obtain ⟨hya, hyi, hyn, hyo⟩ := hel y (List.mem_singleton.2 rfl)
  obtain ⟨y1, y2, y3, y4, y5, y6, y7, vk, vn, vs, va, vc, vl⟩ := y
  obtain ⟨g, hg, hgB, hgl, hgc⟩ := own_cellK own (j := 10) (u := .slice va vl.length vc) (by simp [ecs, Ev.cells, VT.cells])
  subst hg
  have hcap : 1 ≤ c := by
    rcases own.2 with ⟨e1, _⟩ | ⟨g', cap, cur, e1, _, _, hc, _⟩
    · cases e1
    · injection e1 with e1 e2 e3
      subst e3
      simpa using hc
  have hbd := hya.val.fit
  refine ⟨g, c, va, vl.length, vc, vcs vl, rfl, hcap, hb.trans (hb2.mono hb.size), Nat.le_trans hb.size hgB, hgl, hgc, by omega, fun hn => ?_⟩
  have hne : vl ≠ [] := fun e => hn (by rw [e]; rfl)
  have ho := hyo hne
  refine ⟨own_base ho hb.size, fun e => ?_⟩
  rcases ho.2 with ⟨e1, e0⟩ | ⟨g', cap', cur, e1, _⟩
  · exact hn e0
  · injection e1 with e1
    subst e1
    have hyn' := hyn
    dsimp only at hyn'
    rw [VT.In] at hyn'
    exact hyn'.1 hne _ rfl e.symm
structure EoLoop (w6 : World) (g : Nat) (va : Option Addr) (n vc : Nat) (wr : World) : Prop where
  low : Below w6.heap.size w6 wr
  size : g < wr.heap.size
  cell : wr.cell? ⟨g, 10, none⟩ = some (.slice va n vc)
  own : n ≠ 0 → (∃ cs, wr.ownsRow w6.heap.size 24 4 (.slice va n vc) n cs) ∧ some g ≠ (Value.slice va n vc).ownBlock
def eoRel (w6 : World) (g : Nat) (va : Option Addr) (n vc : Nat) (i : Value) (wr : World) : Prop := ∃ j : Nat, i = .int .i64 (j : Int) ∧ j ≤ n ∧ EoLoop w6 g va n vc wr
def stE : List (Nat × Nat) := [(8, 7), (8, 6), (7, 4), (7, 5), (4, 3), (3, 2), (2, 1), (1, 0)]
theorem stE_upd {L : Nat → Bool} (h : ∀ p ∈ stE, L p.1 = true → L p.2 = true) {k : Nat} (hk : ∀ p ∈ stE, p.1 = k → L p.2 = true) : ∀ p ∈ stE, upd L k true p.1 = true → upd L k true p.2 = true := by
  intro p hp h1
  by_cases h2 : p.2 = k
  · rw [h2, upd_self]
  · rw [upd_ne _ _ h2]
    by_cases h3 : p.1 = k
    · exact hk p hp h3
    · rw [upd_ne _ _ h3] at h1
      exact h p hp h1
theorem stE_last {L : Nat → Bool} (h : ∀ p ∈ stE, L p.1 = true → L p.2 = true) {i : Nat} (hi : L i = false) (hc : i < 8) : L 8 = false := by
  cases h8 : L 8 with
  | false => rfl
  | true =>
    have a7 := h (8, 7) (by simp [stE]) h8
    have a6 := h (8, 6) (by simp [stE]) h8
    have a4 := h (7, 4) (by simp [stE]) a7
    have a5 := h (7, 5) (by simp [stE]) a7
    have a3 := h (4, 3) (by simp [stE]) a4
    have a2 := h (3, 2) (by simp [stE]) a3
    have a1 := h (2, 1) (by simp [stE]) a2
    have a0 := h (1, 0) (by simp [stE]) a1
    dsimp only at a7 a6 a5 a4 a3 a2 a1 a0
    have hc2 : i = 0 ∨ i = 1 ∨ i = 2 ∨ i = 3 ∨ i = 4 ∨ i = 5 ∨ i = 6 ∨ i = 7 := by omega
    rcases hc2 with rfl | rfl | rfl | rfl | rfl | rfl | rfl | rfl <;> simp_all
def ZN : VT := ofV 9
theorem ZN_any (w : World) : Calls Tryz.prog 32 #[.int .i64 9] w (AnsV ZN w) := vof_any 9 w
set_option maxHeartbeats 16000000 in
set_option maxRecDepth 100000 in
theorem eown_any (v : Ev) (w : World) (hv : v.At w.heap.size w) (hg : EB w.heap.size w) :
    Calls Tryz.prog 10 #[.agg v.cells.toArray] w fun e w' => e = .returned (.bool true) ∧ Below w.heap.size w w' := by
  obtain ⟨w1, hw1⟩ : ∃ bx, bx = w.alloc (.cells v.cells.toArray 26) := ⟨_, rfl⟩
  obtain ⟨g, hg⟩ : ∃ bx, bx = w.heap.size := ⟨_, rfl⟩
  have bw1 : Below w.heap.size w w1 := by rw [hw1]; exact (Below.refl _ _).alloc (Nat.le_refl _) _
  have nw1 : w1.heap[g]? = some (.cells v.cells.toArray 26 (0, 0)) := by rw [hw1, hg]; exact heap_alloc_new _ _
  have Kw1 := Lib.hid (rowE nw1)
  have Cw1 := Lib.hid (evC nw1)
  have Hw1 := Lib.hid hw1
  have Hg := Lib.hid hg
  have Bw1 := Lib.hid bw1
  have Nw1 := Lib.hid nw1
  clear hw1 hg bw1 nw1
  have HV := Lib.hid ((hv.below Bw1.out).mono Bw1.out.size)
  have G := Lib.hid ((hg.on Bw1.out).base Bw1.out.size)
  have CH := Lib.hid (tells_any w1 G.out)
  clear hv hg
  go_enter Tryz.func10, Tryz.ntmps10
  go_upto_region 1 with fail
  rw [← Hw1.out, ← Hg.out]
  go_wp2_with fail
  refine CH.out.mono ?_
  rintro e w2 ⟨rfl, hb2⟩
  have Kw2 := Lib.hid (rowEB (x := v) Nw1.out hb2)
  have CF := Lib.hid (esmall_one ((HV.out.below hb2).mono hb2.size))
  have hl4 := v.cells_len
  go_wp2_with (first | (with_reducible show wpList _ _ _ _ _ _; refine wpList_load_allW rfl 26 (.tmp 1) rfl ⟨g,0,none⟩ rfl v.cells _ Kw2.out Tryz.underlying26 rfl (Tryz.evSize v) ?_))
  clear hl4
  rw [bs1E]
  refine CF.out.mono ?_
  rintro e w3 ⟨⟨b, rfl⟩, hb3⟩
  have hb13 := hb2.trans (hb3.mono hb2.size)
  have RL3 := Lib.hid (Bw1.out.trans (hb13.mono Bw1.out.size))
  cases b
  · clear hb2 hb3 hb13
    go_wp2_with fail
    go_ret
    exact ⟨rfl, RL3.out⟩
  have Kw3 := Lib.hid (rowEB (x := v) Nw1.out hb13)
  have CG := Lib.hid (rcheckE_any v w1.heap.size w3 (HV.out.below hb13) hb13.size)
  obtain ⟨E, hE⟩ : ∃ E, E = v.vE := ⟨_, rfl⟩
  rw [← hE] at CG
  have HE := Lib.hid hE
  clear hE
  go_wp2_with (first | (with_reducible show wpList _ _ _ _ _ _; refine wpList_loadWanted (by with_unfolding_all rfl) 26 (.tmp 1) rfl ⟨g,0,none⟩ (by with_unfolding_all rfl) v.cells _ Kw3.out Tryz.underlying26 rfl (Tryz.evSize v) ?_))
  refine CG.out.mono ?_
  rintro e w4 ⟨rfl, hb4⟩
  have hb14 := hb13.trans (hb4.mono hb13.size)
  have RL4 := Lib.hid (Bw1.out.trans (hb14.mono Bw1.out.size))
  by_cases hE0 : E = 0
  case neg =>
    have hE1 : (E != 0) = true := by simpa using hE0
    clear hb2 hb3 hb13 hb4 hb14
    go_wp2_with fail
    go_ret
    exact ⟨rfl, RL4.out⟩
  subst hE0
  have HVE := Lib.hid (show v.vE = 0 from HE.out.symm)
  have HF := Lib.hid (fine (Ev.fits HVE.out).val.1)
  have Kw4 := Lib.hid (rowEB (x := v) Nw1.out hb14)
  have CT := etask_any v w4
  obtain ⟨T, hT⟩ : ∃ T, T = eTask v.kind := ⟨_, rfl⟩
  rw [← hT] at CT
  have HCT := Lib.hid CT
  have HT := Lib.hid hT
  clear CT hT
  go_wp2_with (first | (with_reducible show wpList _ _ _ _ _ _; refine wpList_loadWanted (by with_unfolding_all rfl) 26 (.tmp 1) rfl ⟨g,0,none⟩ (by with_unfolding_all rfl) v.cells _ Kw4.out Tryz.underlying26 rfl (Tryz.evSize v) ?_))
  refine HCT.out.mono ?_
  rintro e w5 ⟨rfl, hb5⟩
  have B15 := Lib.hid (hb14.trans (hb5.mono hb14.size))
  have RL5 := Lib.hid (Bw1.out.trans (B15.out.mono Bw1.out.size))
  clear hb2 hb3 hb13 hb4 hb14 hb5 CF CG CH HE RL3 HCT
  cases T
  case true =>
    go_wp2_with fail
    go_ret
    exact ⟨rfl, RL5.out⟩
  have Kw5 := Lib.hid (fun (W : World) (h : Below w5.heap.size w5 W) => rowEB (x := v) Nw1.out (B15.out.trans (h.mono B15.out.size)))
  have HV5 := Lib.hid ((HV.out.below B15.out).mono B15.out.size)
  have G5 := Lib.hid ((G.out.on B15.out).base B15.out.size)
  obtain ⟨S, hS⟩ : ∃ S, S = str v.ln := ⟨_, rfl⟩
  have PR := Lib.hid (fun (W : World) (h : Below w5.heap.size w5 W) => show Calls Tryz.prog 27 #[.agg v.cells.toArray] W fun e w' => e = .returned (.string S) ∧ Below W.heap.size W w' from by
    rw [hS]; exact eprint_any v w5.heap.size W (HV5.out.below h) HVE.out h.size (G5.out.on h))
  have P5 := Lib.hid (PR.out w5 (Below.refl _ _))
  have K5 := Lib.hid (Kw5.out w5 (Below.refl _ _))
  clear hS
  go_wp2_with (first | (with_reducible show wpList _ _ _ _ _ _; refine wpList_load_allW rfl 26 (.tmp 1) rfl ⟨g,0,none⟩ rfl v.cells _ K5.out Tryz.underlying26 rfl (Tryz.evSize v) ?_))
  refine P5.out.mono ?_
  rintro e w6 ⟨rfl, hb6⟩
  have K6 := Lib.hid (Kw5.out w6 hb6)
  have CE := Lib.hid (eerase_one (w := w6) ((HV5.out.below hb6).mono hb6.size) HF.out.dpr HT.out.symm)
  have B56 := Lib.hid hb6
  have hl4 := v.cells_len
  clear hb6
  go_wp2_with (first | (with_reducible show wpList _ _ _ _ _ _; refine wpList_load_allW rfl 26 (.tmp 1) rfl ⟨g,0,none⟩ rfl v.cells _ K6.out Tryz.underlying26 rfl (Tryz.evSize v) ?_))
  clear hl4
  rw [bs1E]
  refine CE.out.mono ?_
  rintro e w7 ⟨go, c, va, n, vc, cs, rfl, hc1, hb7, hgo, hgl, hcl, hnb, hown⟩
  have hc1' : (1 : Int) ≤ (c : Int) := by omega
  have L0 := Lib.hid (show EoLoop w6 go va n vc w7 from ⟨hb7, hgl, hcl, fun h => ⟨⟨_, (hown h).1⟩, (hown h).2⟩⟩)
  have HNB := Lib.hid hnb
  clear hgo hgl hown hb7 hnb CE P5 K5 K6
  go_wp2_with fail
  clear hcl
  go_loopw [35] (fun i wr => eoRel w6 go va n vc i wr) (fun i _ => n - (intOf i).toNat)
  case atStart => exact ⟨0, rfl, Nat.zero_le _, L0.out⟩
  case round =>
    obtain ⟨wq, rfl⟩ : ∃ wq : World, wq = wr := ⟨_, rfl⟩
    obtain ⟨j, rfl, hj, hL⟩ := hrel
    have q0 : (0 : Int) ≤ (j : Int) := by omega
    by_cases hjn : j < n
    · have q1 : (j : Int) < (n : Int) := by omega
      have f10 := Lib.hid (hL.cell)
      obtain ⟨⟨cs, own⟩, hne⟩ := hL.own (by omega)
      obtain ⟨gr, rfl⟩ : ∃ gr, va = some ⟨gr, 0, none⟩ := by
        rcases own.2 with ⟨_, h0⟩ | ⟨g', cap, cur, e1, _⟩
        · omega
        · injection e1 with e1 _ _
          exact ⟨g', e1⟩
      have HGR := Lib.hid (own.lt gr rfl)
      have OWN := Lib.hid own
      have HLL := Lib.hid hL
      have HNE := Lib.hid hne
      have SZ := Lib.hid (Tryz.valSize' ZN)
      clear own hne hL
      go_upto_region 12 with fail
      refine wp_region_slotsG (by kernel_rfl) (by kernel_rfl)
        (fun y => ⟨#[Value.agg v.cells.toArray, Value.pointer (some { block := g, off := 0 }), Value.bool false, Value.string S, Value.slice (some { block := go, off := 0 }) 1 c, Value.int IntKind.i64 ↑j, Value.bool true, Value.bool false, Value.agg v.cells.toArray, Value.slice (some { block := w2.heap.size, off := 0 }) 1 1, Value.bool true, Value.bool false, Value.bool false, Value.agg v.cells.toArray, Value.int IntKind.i64 0, Value.bool false, Value.bool false, Value.bool false, Value.agg v.cells.toArray, Value.bool false, Value.bool false, Value.agg v.cells.toArray, Value.string S, Value.agg v.cells.toArray, Value.slice (some { block := w6.heap.size, off := 0 }) 1 1, Value.slice (some { block := go, off := 0 }) 1 c, Value.slice (some { block := go, off := 0 }) 1 c, Value.int IntKind.i64 1, Value.bool false, Value.slice (some { block := go, off := 0 }) 1 c, Value.pointer (some { block := go, off := 0 }), Value.pointer (some { block := go, off := 7 }), Value.pointer (some { block := go, off := 10 }), Value.slice (some { block := gr, off := 0 }) n vc, Value.int IntKind.i64 ↑n, Value.int IntKind.i64 ↑j, Value.bool true, Value.int IntKind.i64 ↑j, y 0, y 1, y 2, y 3, y 4, y 5, y 6, y 7, u46, undef, undef, undef, undef], []⟩)
        (fun j' q => fun _ => match j' with | 0 => q = .slice (some ⟨go, 0, none⟩) 1 c | 1 => q = .pointer (some ⟨go, 0, none⟩) | 2 => q = .pointer (some ⟨go, 7, none⟩) | 3 => q = .pointer (some ⟨go, 10, none⟩) | 4 => q = .slice (some ⟨gr, 0, none⟩) n vc | 5 => q = .int .i64 (j : Int) | 6 => q = .agg ZN.cells.toArray | 7 => q = .pointer (some ⟨gr, j * 4, none⟩) | _ => True)
        (fun L w => (∀ p ∈ stE, L p.1 = true → L p.2 = true) ∧ (L 8 = false → Below wq.heap.size wq w) ∧ (L 8 = true → ∃ w0, Below wq.heap.size wq w0 ∧ w = w0.setCells gr (j * 4) ZN.cells)) (fun _ _ => True) (fun _ _ _ _ _ h => h) ?_ ?_ (fun j' => match j' with | 0 => u38 | 1 => u39 | 2 => u40 | 3 => u41 | 4 => u42 | 5 => u43 | 6 => u44 | 7 => u45 | _ => undef) rfl
        ⟨(fun p _ h => by cases h), (fun _ => below_drewG (Below.refl _ _) 1), (fun h => by cases h)⟩
      · intro i' o ho L y wx hd hi' hx hs
        obtain ⟨hp, hs0, hs1⟩ := hs
        match i', ho with
        | 0, ho =>
          obtain rfl := Option.some.inj ho
          have h8 := stE_last hp hi' (by omega)
          exact .inl ⟨rfl, slot_run (v := .slice (some ⟨go, 0, none⟩) 1 c) (w' := wx) rfl ⟨_, rfl, trivial, rfl, stE_upd hp (by simp [stE]), (fun _ => hs0 h8), (fun h => by rw [upd_ne _ _ (by decide), h8] at h; cases h)⟩⟩
        | 1, ho =>
          obtain rfl := Option.some.inj ho
          have h8 := stE_last hp hi' (by omega)
          have l0 : L 0 = true := hd ⟨0, .data⟩ (by simp) rfl
          have y0 : y 0 = .slice (some ⟨go, 0, none⟩) 1 c := hx 0 l0
          refine .inl ⟨rfl, slot_run (v := .pointer (some ⟨go, 0, none⟩)) (w' := wx) ?_ ⟨_, rfl, trivial, rfl, stE_upd hp (by simp [stE, l0]), (fun _ => hs0 h8), (fun h => by rw [upd_ne _ _ (by decide), h8] at h; cases h)⟩⟩
          refine runWithK (fun z => match z with | .tmp 38 => y 0 | .const c => c | _ => undef) (by kernel_rfl) ?_
          rw [y0]
          go_simp
        | 2, ho =>
          obtain rfl := Option.some.inj ho
          have h8 := stE_last hp hi' (by omega)
          have l1 : L 1 = true := hd ⟨1, .data⟩ (by simp) rfl
          have y1 : y 1 = .pointer (some ⟨go, 0, none⟩) := hx 1 l1
          refine .inl ⟨rfl, slot_run (v := .pointer (some ⟨go, 7, none⟩)) (w' := wx) ?_ ⟨_, rfl, trivial, rfl, stE_upd hp (by simp [stE, l1]), (fun _ => hs0 h8), (fun h => by rw [upd_ne _ _ (by decide), h8] at h; cases h)⟩⟩
          refine runWithK (fun z => match z with | .tmp 39 => y 1 | .const c => c | _ => undef) (by kernel_rfl) ?_
          rw [y1]
          go_simp
        | 3, ho =>
          obtain rfl := Option.some.inj ho
          have h8 := stE_last hp hi' (by omega)
          have l2 : L 2 = true := hd ⟨2, .data⟩ (by simp) rfl
          have y2 : y 2 = .pointer (some ⟨go, 7, none⟩) := hx 2 l2
          refine .inl ⟨rfl, slot_run (v := .pointer (some ⟨go, 10, none⟩)) (w' := wx) ?_ ⟨_, rfl, trivial, rfl, stE_upd hp (by simp [stE, l2]), (fun _ => hs0 h8), (fun h => by rw [upd_ne _ _ (by decide), h8] at h; cases h)⟩⟩
          refine runWithK (fun z => match z with | .tmp 40 => y 2 | .const c => c | _ => undef) (by kernel_rfl) ?_
          rw [y2]
          go_simp
        | 4, ho =>
          obtain rfl := Option.some.inj ho
          have h8 := stE_last hp hi' (by omega)
          have l3 : L 3 = true := hd ⟨3, .data⟩ (by simp) rfl
          have y3 : y 3 = .pointer (some ⟨go, 10, none⟩) := hx 3 l3
          have c1 : wx.cell? ⟨go, 10, none⟩ = some (.slice (some ⟨gr, 0, none⟩) n vc) := (World.cell?_of_block (a := ⟨go, 10, none⟩) ((hs0 h8).block go HLL.out.size)).trans f10.out
          refine .inl ⟨rfl, slot_run (v := .slice (some ⟨gr, 0, none⟩) n vc) (w' := wx) ?_ ⟨_, rfl, trivial, rfl, stE_upd hp (by simp [stE, l3]), (fun _ => hs0 h8), (fun h => by rw [upd_ne _ _ (by decide), h8] at h; cases h)⟩⟩
          refine runWithK (fun z => match z with | .tmp 41 => y 3 | .const c => c | _ => undef) (by kernel_rfl) ?_
          rw [y3]
          go_simp
        | 5, ho =>
          obtain rfl := Option.some.inj ho
          have h8 := stE_last hp hi' (by omega)
          exact .inl ⟨rfl, slot_run (v := .int .i64 (j : Int)) (w' := wx) rfl ⟨_, rfl, trivial, rfl, stE_upd hp (by simp [stE]), (fun _ => hs0 h8), (fun h => by rw [upd_ne _ _ (by decide), h8] at h; cases h)⟩⟩
        | 6, ho =>
          obtain rfl := Option.some.inj ho
          have h8 := stE_last hp hi' (by omega)
          refine .inl ⟨rfl, slot_call #[.int .i64 9] rfl Tryz.func32 (by kernel_rfl) (by kernel_rfl) (by simp [Act.eval]) ?_⟩
          refine (ZN_any wx).mono ?_
          rintro e w' ⟨rfl, hbz⟩
          exact ⟨_, rfl, _, rfl, trivial, rfl, stE_upd hp (by simp [stE]), (fun _ => (hs0 h8).trans (hbz.mono (hs0 h8).size)), (fun h => by rw [upd_ne _ _ (by decide), h8] at h; cases h)⟩
        | 7, ho =>
          obtain rfl := Option.some.inj ho
          have h8 := stE_last hp hi' (by omega)
          have l4 : L 4 = true := hd ⟨4, .data⟩ (by simp) rfl
          have y4 : y 4 = .slice (some ⟨gr, 0, none⟩) n vc := hx 4 l4
          have l5 : L 5 = true := hd ⟨5, .data⟩ (by simp) rfl
          have y5 : y 5 = .int .i64 (j : Int) := hx 5 l5
          refine .inl ⟨rfl, slot_run (v := .pointer (some ⟨gr, j * 4, none⟩)) (w' := wx) ?_ ⟨_, rfl, trivial, rfl, stE_upd hp (by simp [stE, l4, l5]), (fun _ => hs0 h8), (fun h => by rw [upd_ne _ _ (by decide), h8] at h; cases h)⟩⟩
          refine runWithK (fun z => match z with | .tmp 42 => y 4 | .tmp 43 => y 5 | .const c => c | _ => undef) (by kernel_rfl) ?_
          rw [y4, y5]
          go_simp
        | 8, ho =>
          obtain rfl := Option.some.inj ho
          have l7 : L 7 = true := hd ⟨7, .data⟩ (by simp) rfl
          have y7 : y 7 = .pointer (some ⟨gr, j * 4, none⟩) := hx 7 l7
          have l6 : L 6 = true := hd ⟨6, .data⟩ (by simp) rfl
          have y6 : y 6 = .agg ZN.cells.toArray := hx 6 l6
          have hbx := hs0 hi'
          have thx : wx.there gr (j * 4) ZN.cells.toArray.size := by
            rw [List.size_toArray, VT.cells_len]
            exact own_there (own_belowK OWN.out hbx) hjn
          refine .inl ⟨rfl, wp_store_mid 24 (.tmp 45) (.tmp 44) rfl gr (j * 4) ZN.cells.toArray (show _ = Value.pointer (some ⟨gr, j * 4, none⟩) by exact y7) (show _ = Value.agg ZN.cells.toArray by exact y6) thx SZ.out ZN.cells_one ⟨undef, rfl, trivial, trivial, stE_upd hp (by simp [stE, l6, l7]), (fun h => by rw [upd_self] at h; cases h), (fun _ => ⟨wx, hbx, rfl⟩)⟩⟩
        | k + 9, ho => simp at ho
      · intro L y wx hall hx hs
        obtain ⟨w0, hb0, rfl⟩ := hs.2.2 (hall 8 (by decide))
        have RL := Lib.hid (show EoLoop w6 go (some ⟨gr, 0, none⟩) n vc (w0.setCells gr (j * 4) ZN.cells) from by
          have hl := HLL.out
          have hbl := hl.low.trans (hb0.mono hl.low.size)
          obtain ⟨cs', own'⟩ := own_setCells (own_belowK OWN.out hb0) (j * 4) ZN.cells
          have hne : go ≠ gr := fun e => HNE.out (by rw [e]; rfl)
          have hrow := (setCells_other gr go hne ZN.cells (j * 4) w0).trans (hb0.block go hl.size)
          have hlt : go < (w0.setCells gr (j * 4) ZN.cells).heap.size := by
            have h1 := below_setCells (w0 := wq) gr (Nat.zero_le gr) ZN.cells (j * 4) w0 (hb0.mono (Nat.zero_le _))
            exact Nat.lt_of_lt_of_le hl.size h1.size
          exact ⟨below_setCells gr HGR.out.1 _ _ _ hbl, hlt, (World.cell?_of_block (a := ⟨go, 10, none⟩) hrow).trans hl.cell, fun _ => ⟨⟨cs', own'⟩, HNE.out⟩⟩)
        have hnb := HNB.out
        clear hx hs hall hb0
        go_wp2_with fail
        exact ⟨⟨j + 1, rfl, hjn, RL.out⟩, by simp [intOf]; omega⟩
    · have q1 : ¬ (j : Int) < (n : Int) := by omega
      have HLw := Lib.hid hL.low
      have B5q := Lib.hid (B56.out.trans (HLw.out.mono B56.out.size))
      have Kq := Lib.hid (Kw5.out wq B5q.out)
      have Pq := Lib.hid (PR.out wq B5q.out)
      have RLq := Lib.hid (RL5.out.trans (B5q.out.mono RL5.out.size))
      have HQ : (S.toList == S.toList) = true := beq_self_eq_true _
      clear hL
      go_wp2_with (first | (with_reducible show wpList _ _ _ _ _ _; refine wpList_load_allW rfl 26 (.tmp 1) rfl ⟨g,0,none⟩ rfl v.cells _ Kq.out Tryz.underlying26 rfl (Tryz.evSize v) ?_))
      refine Pq.out.mono ?_
      rintro e w8 ⟨rfl, hb8⟩
      have RLF := Lib.hid (RLq.out.trans (hb8.mono RLq.out.size))
      clear hb8
      go_wp2_with fail
      go_ret
      exact ⟨by simp, RLF.out⟩
end Go.Proofs.YtgdoolchmimgbaaGreatDoor.Wi
