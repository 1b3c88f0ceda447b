/- Erase. -/
import Derived.Test.YtgdoolchmimgbaaGreatDoorGP
import Derived.Test.YtgdoolchmimgbaaGreatDoorG5
namespace Go.Proofs.YtgdoolchmimgbaaGreatDoor.Wi
open Go Go.RowKit
set_option linter.unusedVariables false
set_option linter.unusedSimpArgs false
theorem ecs_app (a b : List Ev) : ecs (a ++ b) = ecs a ++ ecs b := by simp [ecs]
theorem ecs_one (l : List Ev) : ∀ u ∈ ecs l, u.oneCell' = true := by
  intro u hu
  simp only [ecs, List.mem_flatten, List.mem_map] at hu
  obtain ⟨q, ⟨x, _, rfl⟩, hu⟩ := hu
  exact x.cells_one' u hu
/-- An event is written behind a row of events. -/
theorem wpList_apEv {ops : Array Oper} {rest : List Oper} {o : Oper} {a : Act} {Q : Exit → Act → World → Prop} {w : World} (hgd : o.guard = none) (s x : Operand)
    (ho : o.op = .call { callee := .builtin .append, args := #[s, x], argTypes := #[45, 45] })
    (B : Nat) (ao : Option Addr) (c : Nat) (L : List Ev) (n : Nat) (hn : n = L.length) (hsv : a.eval s = .slice ao n c) (own : w.ownsRow B 26 11 (.slice ao n c) n (ecs L)) (hB : B ≤ w.heap.size)
    (z : Ev) (hx : a.eval x = .slice (some ⟨w.heap.size, 0, none⟩) 1 1) (hlim : n + 1 ≤ 1000000)
    (h : ∀ ao' c' w', w'.ownsRow B 26 11 (.slice ao' (n + 1) c') (n + 1) (ecs (L ++ [z])) → Below B w w' → (∀ k, k < w.heap.size → some k ≠ (Value.slice ao n c).ownBlock → w'.heap[k]? = w.heap[k]?) → ((Value.slice ao' (n + 1) c').ownBlock = (Value.slice ao n c).ownBlock ∨ (Value.slice ao' (n + 1) c').ownBlock = some (w.heap.size + 1)) → w.heap.size ≤ w'.heap.size → wpList Tryz.prog ops Q rest (a.put o.dst (.slice ao' (n + 1) c')) w') :
    wpList Tryz.prog ops Q (o :: rest) a (w.alloc (.cells z.cells.toArray 26)) := by
  obtain ⟨i0, hi, hz0, hz1, hz2⟩ := info_parts (show (Tryz.prog.info? 26).map (fun i => (i.zero, i.size, i.bytes)) = some (some (.agg z11.toArray), 11, 128) by kernel_rfl)
  refine wpList_append_own_src _ hgd s x 45 45 ho B 26 i0 (.agg z11.toArray) 11 128 Tryz.underlying45 hi hz0 hz1 hz2 rfl _ n (ecs L) hsv (own.alloc _) _ 1 z.cells hx ?_ (by unfold maxLen; omega) (by omega) (by simp; omega) ?_
  · exact src_oneK Tryz.underlying45 w z.cells z.cells_len z.cells_one'
  · intro v' w' hg
    have gr := hg.2.2
    obtain ⟨a2, c2, rfl, own4, hb4, blk4⟩ := grew_oneK own hB (Nat.le_refl _) hg
    rw [show ecs L ++ z.cells = ecs (L ++ [z]) by simp [ecs]] at own4
    exact h a2 c2 w' own4 hb4 blk4 (by simpa using gr) hb4.size
/-- A value's list, where it has one, lies in a row of its own. -/
def VT.Own (B : Nat) (w : World) : VT → Prop
  | .mk _ _ _ ao c l => l ≠ [] → w.ownsRow B 24 4 (.slice ao l.length c) l.length (vcs l)
theorem VT.Own.keep {B : Nat} {w w' : World} {P : Nat → Prop} : ∀ {v : VT}, v.Own B w → v.In P → (∀ k, k < w.heap.size → B ≤ k → P k → w'.heap[k]? = w.heap[k]?) → v.Own B w'
  | .mk k n s ao c l, h, hi, hk => fun hl => by
    have own := h hl
    rw [VT.In] at hi
    refine own_keepK own fun b hb hlt => hk b hlt (own.lt b hb).1 ?_
    rcases own.2 with ⟨e1, e0⟩ | ⟨g, cap', cur, e1, _⟩
    · exact absurd (List.eq_nil_of_length_eq_zero e0) hl
    · injection e1 with e1
      subst e1
      injection hb with hb
      have := hi.1 hl _ rfl
      rwa [← hb]
theorem VT.Own.base {B C : Nat} {w : World} (hC : C ≤ B) : ∀ {v : VT}, v.Own B w → v.Own C w
  | .mk k n s ao c l, h => fun hl => own_base (h hl) hC
def ErPost (w : World) (l : List Ev) (e : Ending) (w' : World) : Prop :=
  ∃ ao c Y, e = .returned (.slice ao (Y : List Ev).length c) ∧ Y.map Ev.nz = (erE 1 l).map Ev.nz ∧ (∀ y ∈ Y, y.At w'.heap.size w' ∧ y.val.In (w.heap.size ≤ ·) ∧ y.val.In (fun k => some k ≠ (Value.slice ao Y.length c).ownBlock) ∧ y.val.Own w.heap.size w') ∧ w'.ownsRow w.heap.size 26 11 (.slice ao Y.length c) Y.length (ecs Y) ∧ Below w.heap.size w w'
def erRel (w : World) (l : List Ev) (lv i : Value) (wr : World) : Prop :=
  ∃ (j : Nat) (Y : List Ev) (ao : Option Addr) (c : Nat), i = .int .i64 (j : Int) ∧ j ≤ l.length ∧ lv = .slice ao Y.length c ∧ Y.length ≤ j ∧ Y.map Ev.nz ++ (erE ((Y.length : Int) + 1) (l.drop j)).map Ev.nz = (erE 1 l).map Ev.nz ∧
    wr.ownsRow w.heap.size 26 11 (.slice ao Y.length c) Y.length (ecs Y) ∧ (∀ y ∈ Y, y.At wr.heap.size wr ∧ y.val.In (w.heap.size ≤ ·) ∧ y.val.In (fun k => some k ≠ (Value.slice ao Y.length c).ownBlock) ∧ y.val.Own w.heap.size wr) ∧ Below w.heap.size w wr
theorem eelems_app {B n c m : Nat} {ao : Option Addr} {wq w4 w5 : World} {Y : List Ev} {z : Ev} {v' : Value} (hBq : B ≤ wq.heap.size)
    (hel : ∀ y ∈ Y, y.At wq.heap.size wq ∧ y.val.In (B ≤ ·) ∧ y.val.In (fun k => some k ≠ (Value.slice ao n c).ownBlock)) (hs : wq.heap.size ≤ w4.heap.size) (hk : ∀ k, k < wq.heap.size → B ≤ k → w4.heap[k]? = wq.heap[k]?)
    (hz : z.At w4.heap.size w4 ∧ z.val.In (wq.heap.size ≤ ·)) (hlt : ∀ g, (Value.slice ao n c).ownBlock = some g → g < wq.heap.size) (h45 : w4.heap.size ≤ w5.heap.size) (blk : ∀ k, k < w4.heap.size → some k ≠ (Value.slice ao n c).ownBlock → w5.heap[k]? = w4.heap[k]?)
    (gr : v'.ownBlock = (Value.slice ao n c).ownBlock ∨ v'.ownBlock = some m) (hm : w4.heap.size ≤ m) : ∀ y ∈ Y ++ [z], y.At w5.heap.size w5 ∧ y.val.In (B ≤ ·) ∧ y.val.In (fun k => some k ≠ v'.ownBlock) := by
  have h := elems_app (B := B) (n := n) (c := c) (m := m) (ao := ao) (wq := wq) (w4 := w4) (w5 := w5) (Y := Y.map Ev.val) (z := z.val) (v' := v') hBq (fun y hy => by
    obtain ⟨x, hx, rfl⟩ := List.mem_map.1 hy
    obtain ⟨a, b, c⟩ := hel x hx
    exact ⟨a.val, b, c⟩) hs hk ⟨hz.1.val, hz.2⟩ hlt h45 blk gr hm
  intro y hy
  have hv := h y.val (by
    rcases List.mem_append.1 hy with hy | hy
    · exact List.mem_append.2 (.inl (List.mem_map_of_mem hy))
    · rw [List.mem_singleton.1 hy]; exact List.mem_append.2 (.inr (List.mem_singleton.2 rfl)))
  have ha : ∃ (N : Nat) (W : World), y.At N W := by
    rcases List.mem_append.1 hy with hy | hy
    · exact ⟨_, _, (hel y hy).1⟩
    · rw [List.mem_singleton.1 hy]; exact ⟨_, _, hz.1⟩
  obtain ⟨N, W, ha⟩ := ha
  exact ⟨⟨ha.id, ha.time, ha.kind, ha.a, ha.b, ha.name, ha.text, hv.1⟩, hv.2.1, hv.2.2⟩
theorem eelems_app4 {B n c m : Nat} {ao : Option Addr} {wq w4 w5 : World} {Y : List Ev} {z : Ev} {v' : Value} (hBq : B ≤ wq.heap.size)
    (hel : ∀ y ∈ Y, y.At wq.heap.size wq ∧ y.val.In (B ≤ ·) ∧ y.val.In (fun k => some k ≠ (Value.slice ao n c).ownBlock) ∧ y.val.Own B wq) (hs : wq.heap.size ≤ w4.heap.size) (hk : ∀ k, k < wq.heap.size → B ≤ k → w4.heap[k]? = wq.heap[k]?)
    (hz : z.At w4.heap.size w4 ∧ z.val.In (wq.heap.size ≤ ·) ∧ z.val.Own wq.heap.size w4) (hlt : ∀ g, (Value.slice ao n c).ownBlock = some g → g < wq.heap.size) (h45 : w4.heap.size ≤ w5.heap.size) (blk : ∀ k, k < w4.heap.size → some k ≠ (Value.slice ao n c).ownBlock → w5.heap[k]? = w4.heap[k]?)
    (gr : v'.ownBlock = (Value.slice ao n c).ownBlock ∨ v'.ownBlock = some m) (hm : w4.heap.size ≤ m) : ∀ y ∈ Y ++ [z], y.At w5.heap.size w5 ∧ y.val.In (B ≤ ·) ∧ y.val.In (fun k => some k ≠ v'.ownBlock) ∧ y.val.Own B w5 := by
  intro y hy
  have h3 := eelems_app hBq (fun y hy => ⟨(hel y hy).1, (hel y hy).2.1, (hel y hy).2.2.1⟩) hs hk ⟨hz.1, hz.2.1⟩ hlt h45 blk gr hm y hy
  refine ⟨h3.1, h3.2.1, h3.2.2, ?_⟩
  rcases List.mem_append.1 hy with hy | hy
  · have h := hel y hy
    exact (h.2.2.2.keep h.2.1 fun k h1 h2 _ => hk k h1 h2).keep h.2.2.1 fun k h1 _ h2 => blk k h1 h2
  · rw [List.mem_singleton.1 hy]
    refine (hz.2.2.keep hz.2.1 fun k h1 h2 _ => blk k h1 fun e => ?_).base hBq
    have := hlt k e.symm
    omega
theorem own_keepE {w w' : World} {B n c : Nat} {ao : Option Addr} {xs : List Value} (h : w.ownsRow B 26 11 (.slice ao n c) n xs) (hk : ∀ k, k < w.heap.size → w'.heap[k]? = w.heap[k]?) : w'.ownsRow B 26 11 (.slice ao n c) n xs := own_keepK h fun b _ h => hk b h
set_option maxHeartbeats 16000000 in
set_option maxRecDepth 100000 in
theorem eerase_any (ao : Option Addr) (c : Nat) (l : List Ev) (N : Nat) (w : World) (hv : EL N w ao l) (hd : ∀ x ∈ l, x.val.dpr 65536 = false) (hl : l.length ≤ 100000) (hN : N ≤ w.heap.size) :
    Calls Tryz.prog 29 #[.slice ao l.length c] w (ErPost w l) := by
  have HV := Lib.hid hv
  have HD := Lib.hid hd
  have R0 := Lib.hid (show erRel w l (.slice none 0 0) (.int .i64 0) w from ⟨0, [], none, 0, rfl, Nat.zero_le _, rfl, Nat.le_refl _, by simp, World.ownsRow_nil _ _ _ _, (fun y hy => by cases hy), Below.refl _ _⟩)
  clear hv hd
  go_enter Tryz.func29, Tryz.ntmps29
  go_wp2_with fail
  go_loopw [3, 8] (fun lv i wr => erRel w l lv i wr) (fun _ i _ => l.length - (intOf i).toNat)
  case atStart => exact R0.out
  case round =>
    obtain ⟨wq, rfl⟩ : ∃ wq : World, wq = wr := ⟨_, rfl⟩
    obtain ⟨j, Y, ay, cy, rfl, hj, rfl, hYj, hmap, own, hel, hbq⟩ := hrel
    have q0 : (0 : Int) ≤ (j : Int) := by omega
    have HMAP := Lib.hid hmap
    have OWN := Lib.hid own
    have HEL := Lib.hid hel
    have BQ := Lib.hid hbq
    clear hmap own hel hbq R0
    by_cases hjl : j < l.length
    · have q1 : (j : Int) < (l.length : Int) := by omega
      obtain ⟨x, hx⟩ : ∃ x, l[j]? = some x := ⟨_, List.getElem?_eq_getElem hjl⟩
      obtain ⟨hxv, ad, rfl, had, hxc⟩ := HV.out.elem hx
      have KX := Lib.hid (hxc wq (fun q hq => BQ.out.block q (by omega)))
      have hdr : l.drop j = x :: l.drop (j + 1) := by
        rw [List.drop_eq_getElem_cons hjl]
        rw [List.getElem?_eq_getElem hjl] at hx
        injection hx with hx
        rw [hx]
      have hxd := HD.out x (List.mem_of_getElem? hx)
      obtain ⟨w5, hw5⟩ : ∃ bx, bx = wq.alloc (.cells x.cells.toArray 26) := ⟨_, rfl⟩
      obtain ⟨g5, hg5⟩ : ∃ bx, bx = wq.heap.size := ⟨_, rfl⟩
      have bw5 : Below wq.heap.size wq w5 := by rw [hw5]; exact (Below.refl _ _).alloc (Nat.le_refl _) _
      have nw5 : w5.heap[g5]? = some (.cells x.cells.toArray 26 (0, 0)) := by rw [hw5, hg5]; exact heap_alloc_new _ _
      have Kw5 := Lib.hid (rowE nw5)
      have Cw5 := Lib.hid (evC nw5)
      have Hw5 := Lib.hid hw5
      have Hg5 := Lib.hid hg5
      have Bw5 := Lib.hid bw5
      have Nw5 := Lib.hid nw5
      clear hw5 hg5 bw5 nw5
      have HXA := Lib.hid (show x.At N w5 from hxv.keep fun k hk => (Bw5.out.block k (by have := BQ.out.size; omega)).trans (BQ.out.block k (by omega)))
      have TK := Lib.hid (etask_any x w5)
      have HDR := Lib.hid hdr
      have HXD := Lib.hid hxd
      clear hxv hxc had hx hdr hxd
      go_upto_region 5 with (first
        | (with_reducible show wpList _ _ _ _ _ _; refine wpList_load_allW rfl 26 (.tmp 10) rfl _ rfl x.cells _ KX.out Tryz.underlying26 rfl (Tryz.evSize x) ?_)
        | (with_reducible show wpList _ _ _ _ _ _; refine wpList_store_newW rfl 26 (.tmp 5) (.tmp 11) rfl 26 _ x.cells.toArray rfl rfl (Tryz.evSize' x) (by with_unfolding_all exact Ev.eleven x) x.cells_one ?_; rw [← Hw5.out, ← Hg5.out]))
      go_wp2_with (with_reducible show wpList _ _ _ _ _ _; refine wpList_load_allW rfl 26 (.tmp 5) rfl ⟨g5,0,none⟩ rfl x.cells _ Kw5.out Tryz.underlying26 rfl (Tryz.evSize x) ?_)
      refine TK.out.mono ?_
      rintro e w6 ⟨rfl, hb6⟩
      have B56 := Lib.hid hb6
      have R6 := Lib.hid (show EvRow w6 g5 x from (hb6.block g5 (lt_of_rowK Nw5.out)).trans Nw5.out)
      have hq6 : Below wq.heap.size wq w6 := Bw5.out.trans (hb6.mono Bw5.out.size)
      have BQ6 := Lib.hid hq6
      clear hb6 hq6
      obtain ⟨tk, htk⟩ : ∃ tk, tk = eTask x.kind := ⟨_, rfl⟩
      rw [← htk]
      have HTK := Lib.hid htk
      clear htk
      cases tk
      case true =>
        have RL := Lib.hid (show erRel w l (.slice ay Y.length cy) (.int .i64 ((j + 1 : Nat) : Int)) w6 from by
          refine ⟨j + 1, Y, ay, cy, rfl, hjl, rfl, by omega, ?_, own_keepE OWN.out (fun k hk => BQ6.out.block k hk), fun y hy => ?_, BQ.out.trans (BQ6.out.mono BQ.out.size)⟩
          · rw [← HMAP.out, HDR.out, erE, if_pos HTK.out.symm]
          · obtain ⟨a, b, c, d⟩ := HEL.out y hy
            exact ⟨(a.below BQ6.out).mono BQ6.out.size, b, c, d.keep b fun k hk _ _ => BQ6.out.block k hk⟩)
        go_wp2_with fail
        exact ⟨RL.out, by simp [intOf]; omega⟩
      case false =>
        have cc := (evC R6.out).c0
        have fz := R6.out.frz 0
        have hYb : (Y.length : Int) + 1 < 9223372036854775808 := by omega
        go_upto_region 7 with fail
        clear cc fz
        obtain ⟨w7, hw7⟩ : ∃ w7, w7 = w6.setCell ⟨g5, 0, none⟩ (.int .i64 ((Y.length : Int) + 1)) := ⟨_, rfl⟩
        rw [← hw7]
        have R7 := Lib.hid (show EvRow w7 g5 { x with id := (Y.length : Int) + 1 } by rw [hw7]; exact R6.out.setId _)
        have f67 : ∀ k, k ≠ g5 → w7.heap[k]? = w6.heap[k]? := fun k hk => by rw [hw7]; exact Below.heap_setCell w6 ⟨g5, 0, none⟩ _ k hk
        have s67 : w7.heap.size = w6.heap.size := by rw [hw7]; simp
        have o67 : w7.os = w6.os ∧ w7.tape = w6.tape ∧ w7.output = w6.output := by rw [hw7]; exact ⟨rfl, rfl, rfl⟩
        have hg5 : wq.heap.size ≤ g5 := by have := Hg5.out; omega
        have bq7 : Below wq.heap.size wq w7 := ⟨o67.1.trans BQ6.out.os, o67.2.1.trans BQ6.out.tape, o67.2.2.trans BQ6.out.output, by rw [s67]; exact BQ6.out.size, fun k hk => (f67 k (by omega)).trans (BQ6.out.block k hk)⟩
        have BQ7 := Lib.hid bq7
        have hxa7 : x.val.At N w7 := HXA.out.val.keep fun k hk => (f67 k (by have := BQ.out.size; omega)).trans (B56.out.block k (by have := BQ.out.size; have := Bw5.out.size; omega))
        have CLn := Lib.hid (vclone_any x.val HXD.out N w7 hxa7 (by have := BQ.out.size; have := bq7.size; omega))
        have KV := Lib.hid (evC R7.out).cv
        have HXA7 := Lib.hid hxa7
        have G5N := Lib.hid hg5
        clear hw7 f67 s67 o67 bq7 hxa7 hg5
        go_wp2_with (with_reducible show wpList _ _ _ _ _ _; refine wpList_load_allW rfl 24 (.tmp 18) rfl ⟨g5,7,none⟩ rfl x.val.cells _ KV.out Tryz.underlying24 rfl (Tryz.valSize x.val) ?_)
        refine CLn.out.mono ?_
        rintro e w8 ⟨aL, cL, YL, rfl, hC, hb8⟩
        obtain ⟨C, hCe⟩ : ∃ C, C = cln x.val aL cL YL := ⟨_, rfl⟩
        have hCz : C.nz = x.val.nz := by rw [hCe, cln_nz hC]
        have hCa : C.At w8.heap.size w8 := by rw [hCe]; exact cln_at hC HXA7.out
        have hCi : C.In (fun q => w7.heap.size ≤ q) := by rw [hCe]; exact cln_in hC
        have hCo : C.Own w7.heap.size w8 := by rw [hCe]; exact fun _ => hC.own
        rw [← hCe]
        have R8 := Lib.hid (show EvRow w8 g5 { x with id := (Y.length : Int) + 1 } from (hb8.block g5 R7.out.lt).trans R7.out)
        have TH := Lib.hid (R8.out.there C)
        have B78 := Lib.hid hb8
        have HCZ := Lib.hid hCz
        have HCA := Lib.hid hCa
        have HCI := Lib.hid hCi
        have HCO := Lib.hid hCo
        clear hCe hCz hCa hCi hCo hC hb8
        go_upto_region 8 with (with_reducible show wpList _ _ _ _ _ _; refine wpList_store_mid rfl 24 (.tmp 21) (.tmp 20) rfl g5 7 C.cells.toArray rfl rfl TH.out (Tryz.valSize' C) C.cells_one ?_)
        obtain ⟨w9, hw9⟩ : ∃ w9, w9 = w8.setCells g5 7 C.cells := ⟨_, rfl⟩
        have e9 : w8.setCells g5 7 C.cells.toArray.toList = w9 := by rw [hw9]
        try rw [e9]
        try rw [← hw9]
        obtain ⟨z, hz⟩ : ∃ z : Ev, z = { x with id := (Y.length : Int) + 1, val := C } := ⟨_, rfl⟩
        have R9 := Lib.hid (show EvRow w9 g5 z by rw [hw9, hz]; exact R8.out.setV C)
        have f89 : ∀ k, k ≠ g5 → w9.heap[k]? = w8.heap[k]? := fun k hk => by rw [hw9]; exact setCells_otherE g5 k hk _ _ _
        have fr9 := (Fr2.reflE w8 g5 g5).setCells (g := g5) 7 C.cells
        rw [← hw9] at fr9
        have hs78 := B78.out.size
        have hs9 := fr9.size
        have bq9 : Below wq.heap.size wq w9 := ⟨fr9.os.trans (B78.out.os.trans BQ7.out.os), fr9.tape.trans (B78.out.tape.trans BQ7.out.tape), fr9.output.trans (B78.out.output.trans BQ7.out.output), Nat.le_trans BQ7.out.size (Nat.le_trans hs78 hs9), fun k hk => (f89 k (by have := G5N.out; omega)).trans ((B78.out.block k (by have := BQ7.out.size; omega)).trans (BQ7.out.block k hk))⟩
        have hza : z.At w9.heap.size w9 := by
          rw [hz]
          have hv : C.At w8.heap.size w9 := HCA.out.keepT HCI.out (fun q _ h2 => f89 q (by have := R7.out.lt; omega))
          exact ⟨⟨by dsimp only; omega, by dsimp only; omega⟩, HXA.out.time, HXA.out.kind, HXA.out.a, HXA.out.b, HXA.out.name, HXA.out.text, hv.mono hs9⟩
        have hzi : z.val.In (wq.heap.size ≤ ·) := by rw [hz]; exact HCI.out.imp fun q hq => Nat.le_trans BQ7.out.size hq
        have hzo : z.val.Own wq.heap.size w9 := by rw [hz]; exact (HCO.out.keep HCI.out fun q _ _ h2 => f89 q (by have := R7.out.lt; omega)).base BQ7.out.size
        have hznz : z.nz = ({ x with id := (Y.length : Int) + 1 } : Ev).nz := by
          rw [hz]; unfold Ev.nz; dsimp only; rw [HCZ.out]
        have own9 := own_keepE OWN.out (fun k hk => bq9.block k hk)
        have OW9 := Lib.hid own9
        have BQ9 := Lib.hid bq9
        have HZA := Lib.hid hza
        have HZI := Lib.hid hzi
        have HZO := Lib.hid hzo
        have HZN := Lib.hid hznz
        have K9 := Lib.hid (rowE R9.out)
        have HW9 := Lib.hid (Nat.le_trans BQ.out.size bq9.size)
        have LIM := Lib.hid (show Y.length + 1 ≤ 1000000 by omega)
        have hl11 := z.cells_len
        clear hw9 e9 f89 fr9 hs78 hs9 bq9 hza hzi hzo hznz own9 hz
        go_wp2_with (first
          | (with_reducible show wpList _ _ _ _ _ _; refine wpList_load_allW rfl 26 (.tmp 5) rfl ⟨g5,0,none⟩ rfl z.cells _ K9.out Tryz.underlying26 rfl (Tryz.evSize z) ?_)
          | (with_reducible show wpList _ _ _ _ _ _; rw [bs1E]; refine wpList_apEv rfl (.tmp 22) (.tmp 24) rfl w.heap.size ay cy Y Y.length rfl rfl OW9.out HW9.out z rfl LIM.out ?_; intro a2 c2 wt own4 hb4 blk4 gr4 sz4))
        have RL := Lib.hid (show erRel w l (.slice a2 (Y.length + 1) c2) (.int .i64 ((j + 1 : Nat) : Int)) wt from by
          have hl2 : (Y ++ [z]).length = Y.length + 1 := by simp
          refine ⟨j + 1, Y ++ [z], a2, c2, rfl, hjl, by rw [hl2], by rw [hl2]; omega, ?_, by rw [hl2]; exact own4, ?_, ?_⟩
          · rw [← HMAP.out, HDR.out, erE, if_neg (by rw [← HTK.out]; simp), hl2]
            simp only [List.map_append, List.map_cons, List.map_nil, List.append_assoc, List.cons_append, List.nil_append, HZN.out]
            rfl
          · rw [hl2]
            exact eelems_app4 (n := Y.length) (c := cy) (ao := ay) (wq := wq) (w4 := w9) (m := w9.heap.size + 1) BQ.out.size HEL.out BQ9.out.size (fun k h1 _ => BQ9.out.block k h1) ⟨HZA.out, HZI.out, HZO.out⟩ (fun g hg => (OWN.out.lt g hg).2) sz4 blk4 gr4 (by omega)
          · exact (BQ.out.trans (BQ9.out.mono BQ.out.size)).trans hb4)
        clear own4 hb4 blk4 gr4 sz4 hl11
        go_wp2_with fail
        exact ⟨RL.out, by simp [intOf]; omega⟩
    · have q1 : ¬ (j : Int) < (l.length : Int) := by omega
      have RL := Lib.hid (show ErPost w l (.returned (.slice ay Y.length cy)) wq from by
        refine ⟨ay, cy, Y, rfl, ?_, HEL.out, OWN.out, BQ.out⟩
        rw [← HMAP.out, List.drop_of_length_le (by omega), erE]
        simp)
      go_wp2_with fail
      go_ret
      exact RL.out
end Go.Proofs.YtgdoolchmimgbaaGreatDoor.Wi
