/- Each is done, and once: the walk of WholeHanded. -/
import Derived.Test.YtkmhbbcppjckiaaMYC
import Derived.Test.YtkmhbbcppjckiaaNK
import Derived.Deep.DeepCutAuto
namespace Go.Proofs.Ytkmhbbcppjckiaa.Ma
open Go Go.RowKit Go.Proofs.Ytkmhbbcppjckiaa
open Go.Proofs.Ytkmhbbcppjckiaa.Hp (i64wf K3 wf3)
open Go.Proofs.Ytkmhbbcppjckiaa.Qu
open Go.Proofs.Ytkmhbbcppjckiaa.Dk (Frm below_drewN)
set_option linter.unusedVariables false
set_option linter.unusedSimpArgs false
set_option maxRecDepth 100000
def kA : K3 := (1, 1, 0)
theorem wf_kA : wf3 kA := ⟨rfl, rfl, rfl⟩
theorem wtK_first {W : Nat → List Tk} (h : ∀ j, 0 < j → W j = []) : ∀ n, wtK W (n + 1) = keysT (W 0)
  | 0 => by rw [wtK, wtK]; rfl
  | n + 1 => by rw [wtK, wtK_first h n, h (n + 1) (by omega)]; simp [keysT]
theorem drC_nil (run : Int) : ∀ (n i : Nat) (M : MM), (∀ j, i ≤ j → M.W j = []) → drC run n i M = 0
  | 0, _, _, _ => rfl
  | n + 1, i, M, h => by
    have hq : M.q i (othW run (M.W i)) = M := MM.q_id _ (by rw [h i (Nat.le_refl _)]; rfl)
    rw [drC, hq, drC_nil run n (i + 1) M fun j hj => h j (by omega), h i (Nat.le_refl _)]
    rfl
theorem zero_kn (k : K3) : M0.kn k = false := by
  cases h : M0.kn k with
  | false => rfl
  | true =>
    have h1 := (kn_spec M0 k).1 h
    have h2 := (HJ.zero (D := fun _ => false) (now := 0)).oth k fun i hi => by omega
    omega
theorem head_ad : M0.adE kA 0 = 0 ∧ (M0.ad kA 0 0).E = [] ∧ (M0.ad kA 0 0).wt.length = 1 ∧ (M0.ad kA 0 0).drN 1 = 1 := by
  have h := ad_ct (M := M0) (j := 0) (by decide) (zero_kn kA) (by decide) 0
  rw [show ((0 : Nat) : Int) = 0 from rfl] at h
  obtain ⟨a1, a2, a3, a4, a5⟩ := h
  obtain ⟨M, hM⟩ : ∃ M, M = M0.ad kA 0 0 := ⟨_, rfl⟩
  rw [← hM] at a2 a3 a4 a5 ⊢
  have hE : M.E = [] := a2
  have hW0 : M.W 0 = [(kA, 0)] := by rw [a4, updQ_self]; rfl
  have hW : ∀ j, 0 < j → M.W j = [] := fun j hj => by rw [a4, updQ_ne _ _ (by omega)]; rfl
  refine ⟨a1, hE, ?_, ?_⟩
  · unfold MM.wt
    rw [wtK_first hW 64, hW0]
    rfl
  · have e : M.drE 1 = M := by
      obtain ⟨g, W, E⟩ := M
      have : E = [] := hE
      subst this
      rfl
    unfold MM.drN
    rw [e, hE]
    obtain ⟨n, hn⟩ : ∃ n, n = 64 := ⟨_, rfl⟩
    rw [show (65 : Nat) = n + 1 by omega, drC, drC_nil 1 n 1 _ fun j hj => by
      show updQ M.W 0 _ j = []
      rw [updQ_ne _ _ (by omega)]
      exact hW j (by omega), hW0]
    rfl
theorem hall_row (g : Nat) : (∀ i, i < 197 → (Try.zeroCells105.setIfInBounds 198 (.map (some g)))[i]? = Try.zeroCells70[i]?) ∧ ∀ i, 197 ≤ i → (Try.zeroCells105.setIfInBounds 198 (.map (some g)))[i]? = (hrow 0 g)[i]? := by
  have hs : Try.zeroCells70.toList.length = 197 := by kernel_rfl
  refine ⟨fun i hi => ?_, fun i hi => ?_⟩
  · rw [Array.getElem?_setIfInBounds_ne (by omega), hall_zero, List.getElem?_toArray, List.getElem?_append_left (by omega)]
    simp
  · rw [hall_zero]
    by_cases h7 : i = 197
    · subst h7
      rw [hrow_now, Array.getElem?_setIfInBounds_ne (by decide), List.getElem?_toArray, List.getElem?_append_right (by omega), hs]
      rfl
    · by_cases h8 : i = 198
      · subst h8
        rw [hrow_map, Array.getElem?_setIfInBounds_self_of_lt (by simp only [List.size_toArray, List.length_append, hs]; decide)]
      · rw [Array.getElem?_eq_none (by simp only [Array.size_setIfInBounds, List.size_toArray, List.length_append, hs, List.length_cons, List.length_nil]; omega), Array.getElem?_eq_none (by rw [hrow_size]; omega)]
def ownRel (wb : World) (b gm n : Nat) (iv : Value) (wr : World) : Prop := ∃ (i : Nat) (M : MM), i ≤ n ∧ iv = .int .i64 (i : Int) ∧ HS wb b gm (fun _ => False) i 0 M (fun _ => false) 0 wr
def scRel (wb : World) (b gm n m : Nat) (iv : Value) (wr : World) : Prop := ∃ (j : Nat) (M : MM) (D : Nat → Bool) (now : Int), j ≤ m ∧ iv = .int .i64 (j : Int) ∧ HS wb b gm (fun _ => False) n (j : Int) M D now wr ∧ now ≤ 30 * (j : Int)
def scEnd (wb : World) (b gm n j : Nat) (wx : World) : Prop := ∃ (M : MM) (D : Nat → Bool) (now : Int), HS wb b gm (fun _ => False) n ((j + 1 : Nat) : Int) M D now wx ∧ now ≤ 30 * ((j + 1 : Nat) : Int)
/-- What holds of the rounds. -/
structure RdI (n : Nat) (N0 : Int) (r : Nat) (M : MM) (D : Nat → Bool) : Prop where
  til : ∀ l ∈ M.E, l.til ≤ N0 + 20
  low : 1 ≤ r → ∀ l ∈ M.E, N0 + (r : Int) < l.til
  few : 20 ≤ r → rem D n + r ≤ 60 ∨ rem D n = 0
def rdRel (wb : World) (b gm n : Nat) (N0 : Int) (iv : Value) (wr : World) : Prop := ∃ (r : Nat) (M : MM) (D : Nat → Bool), r ≤ 200 ∧ iv = .int .i64 (r : Int) ∧ HS wb b gm (fun _ => False) n (60 + 4 * (r : Int)) M D (N0 + (r : Int)) wr ∧ RdI n N0 r M D
theorem rd_start {wb wr : World} {b gm n : Nat} {j : Int} {M : MM} {D : Nat → Bool} {now : Int} (h : HS wb b gm (fun _ => False) n j M D now wr) (hj : j ≤ 60) : rdRel wb b gm n now (.int .i64 0) wr :=
  ⟨0, M, D, by decide, rfl, by rw [show now + ((0 : Nat) : Int) = now by simp]; exact h.grow (by omega), ⟨h.hj.til, fun h => absurd h (by decide), fun h => absurd h (by decide)⟩⟩
/-- What holds within a round when so many have polled. -/
structure RoI (n : Nat) (M : MM) (D : Nat → Bool) (k : Nat) (M' : MM) (D' : Nat → Bool) : Prop where
  E : M'.E = M.E
  le : rem D' n ≤ rem D n
  or : rem D' n + 1 ≤ rem D n ∨ (M' = M ∧ D' = D ∧ ∀ j, 1 ≤ j → j < k → M.W j = [] ∧ M.W 0 = [])
theorem RoI.start (n : Nat) (M : MM) (D : Nat → Bool) : RoI n M D 1 M D := ⟨rfl, Nat.le_refl _, .inr ⟨rfl, rfl, fun j h1 h2 => by omega⟩⟩
theorem RoI.got {n : Nat} {M M' M2 : MM} {D D' D2 : Nat → Bool} {k : Nat} (h : RoI n M D k M' D') (hE : M2.E = M'.E) (hr : rem D2 n + 1 = rem D' n) : RoI n M D (k + 1) M2 D2 :=
  ⟨hE.trans h.E, by have := h.le; omega, .inl (by have := h.le; omega)⟩
theorem RoI.no {n : Nat} {M M' : MM} {D D' : Nat → Bool} {k : Nat} (h : RoI n M D k M' D') (hk : 1 ≤ k) (hW : M'.W k = [] ∧ M'.W 0 = []) : RoI n M D (k + 1) M' D' := by
  refine ⟨h.E, h.le, ?_⟩
  rcases h.or with h1 | ⟨rfl, rfl, h3⟩
  · exact .inl h1
  · refine .inr ⟨rfl, rfl, fun j h1 h2 => ?_⟩
    by_cases e : j = k
    · subst e; exact hW
    · exact h3 j h1 (by omega)
theorem RdI.next {n : Nat} {N0 : Int} {r : Nat} {M M' M2 : MM} {D D' : Nat → Bool} (h : RdI n N0 r M D) (hJ : HJ n M D (N0 + (r : Int)) []) (hn : n ≤ 40) (hp : RoI n M D 5 M' D') (hE : ∀ l ∈ M2.E, l ∈ M'.E ∧ ¬ l.til ≤ N0 + (r : Int) + 1) : RdI n N0 (r + 1) M2 D' := by
  refine ⟨fun l hl => h.til l (hp.E ▸ (hE l hl).1), fun _ l hl => by have := (hE l hl).2; omega, fun h20 => ?_⟩
  by_cases h19 : r = 19
  · have := rem_le D' n
    omega
  · have hr : 20 ≤ r := by omega
    have hE0 : M.E = [] := by
      cases hq : M.E with
      | nil => rfl
      | cons l E' =>
        have hm : l ∈ M.E := by rw [hq]; simp
        have := h.til l hm
        have := h.low (by omega) l hm
        omega
    rcases hp.or with h1 | ⟨h1, h2, h3⟩
    · rcases h.few hr with h4 | h4
      · left; omega
      · omega
    · right
      rw [h2]
      refine hJ.over hE0 fun j hj => ?_
      by_cases e : j = 0
      · rw [e]; exact (h3 1 (by decide) (by decide)).2
      · exact (h3 j (by omega) hj).1
theorem RdI.done {n : Nat} {N0 : Int} {M : MM} {D : Nat → Bool} (h : RdI n N0 200 M D) : rem D n = 0 := by
  rcases h.few (by decide) with h | h
  · omega
  · exact h
def poRel (wb : World) (b gm n : Nat) (r : Nat) (N : Int) (M : MM) (D : Nat → Bool) (iv : Value) (wr : World) : Prop := ∃ (k : Nat) (M' : MM) (D' : Nat → Bool), 1 ≤ k ∧ k ≤ 5 ∧ iv = .int .i64 (k : Int) ∧ HS wb b gm (fun _ => False) n (60 + 4 * (r : Int) + ((k : Int) - 1)) M' D' N wr ∧ RoI n M D k M' D'
theorem HX.frmX {w wx w' : World} {b gm c : Nat} {X T : Nat → Prop} {M : MM} {now : Int} {S : Int → Bool} (h : HX w b gm X M now c S wx) (hF : Frm T wx w') (hT : ∀ q, q < wx.heap.size → T q → X q) (hX : ∀ q, X q → w.heap.size ≤ q) : HX w b gm X M now c S w' := by
  obtain ⟨⟨T', hM, hT'⟩, hF0, hXl, hm⟩ := h
  refine ⟨⟨T', hM.keep fun q hq hlt => hF.block q hlt fun e => (hT' q hq).2.2.1 (hT q hlt e), fun q hq => ⟨(hT' q hq).1, Nat.lt_of_lt_of_le (hT' q hq).2.1 hF.size, (hT' q hq).2.2⟩⟩, hF0.transT hF fun q hq h1 => ?_, fun q hq => ⟨Nat.lt_of_lt_of_le (hXl q hq).1 hF.size, (hXl q hq).2⟩, hm.keep (hF.block gm hm.lt fun e => (hXl gm (hT gm hm.lt e)).2 rfl)⟩
  have h2 := hF0.size
  have := hX q (hT q (by omega) h1)
  omega
/-- What stands while a lease is polled for. -/
structure PjI (wb : World) (b gm n : Nat) (G : Int) (M3 MP : MM) (D : Nat → Bool) (N : Int) (L : Ls) (s8 s12 s13 : Bool) (p : Nat) (wx : World) : Prop where
  hs : HS wb b gm (fun q => s12 = true ∧ q = p) n (if s8 = true then G + 1 else G) (if s8 = true then MP else M3) D N wx
  new : s12 = true → wb.heap.size ≤ p ∧ wx.heap[p]? = some (.cells (if s13 = true then L else l0).cs.toArray 80 (0, 0))
section
variable {wb wx w' : World} {b gm n : Nat} {G : Int} {M3 MP : MM} {D : Nat → Bool} {N : Int} {L : Ls} {s8 s12 s13 : Bool} {p : Nat}
theorem PjI.call (h : PjI wb b gm n G M3 MP D N L false s12 s13 p wx) (hx : HS wb b gm (fun q => s12 = true ∧ q = p) n (G + 1) MP D N w') (hk : KX (fun q => s12 = true ∧ q = p) wx w') : PjI wb b gm n G M3 MP D N L true s12 s13 p w' :=
  ⟨by rw [if_pos rfl, if_pos rfl]; exact hx, fun e => ⟨(h.new e).1, (hk.keep p ⟨e, rfl⟩).trans (h.new e).2⟩⟩
theorem PjI.made (h : PjI wb b gm n G M3 MP D N L s8 false false p wx) : PjI wb b gm n G M3 MP D N L s8 true false wx.heap.size (wx.alloc (.cells l0.cs.toArray 80)) := by
  have hb : wb.heap.size ≤ wx.heap.size := by
    obtain ⟨c, S, hx, _⟩ := h.hs.hx
    exact hx.frm.size
  exact ⟨(h.hs.box _).less fun q hq => .inr hq.2, fun _ => ⟨hb, heap_alloc_new _ _⟩⟩
theorem PjI.stored (h : PjI wb b gm n G M3 MP D N L s8 true false p wx) : PjI wb b gm n G M3 MP D N L s8 true true p (wx.setRow p L.cs.toArray) := by
  obtain ⟨⟨⟨c, S, hx, hc, hS⟩, hj, h1, h2, h3⟩, hn⟩ := h
  have hF : Frm (fun q => q = p) wx (wx.setRow p L.cs.toArray) := Frm.setRow (T := fun q => q = p) (Frm.refl _ wx) (g := p) (.inl rfl) _
  refine ⟨⟨⟨c, S, hx.frmX hF (fun q _ e => ⟨rfl, e⟩) (fun q hq => by rw [hq.2]; exact (hn rfl).1), hc, hS⟩, hj, h1, h2, h3⟩, fun _ => ⟨(hn rfl).1, setRow_heap _ p _ _ _ _ (hn rfl).2⟩⟩
theorem PjI.fin (h : PjI wb b gm n G M3 MP D N L true true true p wx) : HS wb b gm (fun q => q = p) n (G + 1) MP D N wx ∧ wx.heap[p]? = some (.cells L.cs.toArray 80 (0, 0)) := by
  have h1 := h.hs
  rw [if_pos rfl, if_pos rfl] at h1
  exact ⟨h1.less fun q hq => ⟨rfl, hq⟩, (h.new rfl).2⟩
end
theorem hs_waiting0 {w wx : World} {X : Nat → Prop} {b gm n : Nat} {G : Int} {M : MM} {now : Int} {D : Nat → Bool} (h : HS w b gm X n G M D now wx) (hw : M.wt = []) : Calls Try.prog 42 #[.pointer (some ⟨b, 0, none⟩)] wx fun e w' => ∃ ao c, e = .returned (.slice ao 0 c) ∧ Below wx.heap.size wx w' := by
  have := hs_waiting h
  rw [hw] at this
  exact this
theorem hs_leases0 {w wx : World} {X : Nat → Prop} {b gm n : Nat} {G : Int} {M : MM} {now : Int} {D : Nat → Bool} (h : HS w b gm X n G M D now wx) (hw : M.E = []) : Calls Try.prog 43 #[.pointer (some ⟨b, 0, none⟩)] wx fun e w' => ∃ ao c, e = .returned (.slice ao 0 c) ∧ Below wx.heap.size wx w' := by
  have := hs_leases h
  rw [hw] at this
  exact this
theorem hs_add2 {w wx : World} {X : Nat → Prop} {b gm n : Nat} {G : Int} {M : MM} {D : Nat → Bool} (h : HS w b gm X n G M D 0 wx) (hD : D n = false) (hn : n < 40) (v : Int) (h0 : 0 ≤ v) (h5 : v < 5) : Calls Try.prog 25 #[.pointer (some ⟨b, 0, none⟩), .agg #[.int .i64 (n : Int), .int .i64 1, .int .i64 0], .int .i64 v, .int .i64 0] wx fun e w' => e = .returned (.int .i64 0) ∧ HS w b gm X (n + 1) G (M.ad (kh n) v 0) D 0 w' ∧ KX X wx w' := by
  obtain ⟨j, rfl⟩ : ∃ j : Nat, v = (j : Int) := ⟨v.toNat, by omega⟩
  exact hs_add h hD hn (by omega)
set_option maxHeartbeats 8000000 in
theorem handed_any (ao : Option Addr) (c : Nat) (zs : List Int) (bo : Option Addr) (c' : Nat) (L : List K3) (w : World) (hZ : Zs w ao zs) (hz : zs.length ≤ maxLen) (hL : Tri w bo L) (hl : L.length ≤ maxLen) : Calls Try.prog 11 #[.slice ao zs.length c, .slice bo L.length c'] w fun e w' => e = .returned (.bool true) ∧ Below w.heap.size w w' := by
  obtain ⟨n, hn⟩ : ∃ n, n = zs.length := ⟨_, rfl⟩
  obtain ⟨m, hm⟩ : ∃ m, m = L.length := ⟨_, rfl⟩
  rw [← hn, ← hm]
  have HN := Lib.hid hn
  have HM := Lib.hid hm
  have HZ := Lib.hid hZ
  have HL := Lib.hid hL
  have HB := Lib.hid (And.intro hz hl)
  have SK := Lib.hid (show ∀ k : K3, (Try.prog.info? 32).map (·.size) = some (kcs k).toArray.size from fun k => by kernel_rfl)
  have OK := Lib.hid (fun k : K3 => kcs_one k)
  clear hn hm hZ hL hz hl
  go_enter Try.func11, Try.ntmps11
  go_upto_region 4 with (first
    | ((with_reducible show wpList _ _ _ _ _ _); refine wpList_store_newW rfl 32 (.tmp 7) (.tmp 17) rfl 32 _ (kcs kA).toArray (by with_unfolding_all rfl) (by with_unfolding_all rfl) (SK.out kA) rfl (OK.out kA) ?_))
  obtain ⟨w1, hw1⟩ : ∃ x, x = w.alloc (.cells Try.zeroCells70 70) := ⟨_, rfl⟩
  obtain ⟨w2, hw2⟩ : ∃ x, x = w1.alloc (.cells #[.pointer none, .pointer none, .map none] 29) := ⟨_, rfl⟩
  obtain ⟨w3, hw3l⟩ : ∃ x, x = w2.alloc (.cells #[.int .i64 1, .int .i64 1, .int .i64 0] 32) := ⟨_, rfl⟩
  have hw3 : w3 = w2.alloc (.cells (kcs kA).toArray 32) := hw3l
  obtain ⟨bM, hbM⟩ : ∃ x, x = w.heap.size := ⟨_, rfl⟩
  obtain ⟨bq, hbq⟩ : ∃ x, x = w.heap.size + 1 := ⟨_, rfl⟩
  obtain ⟨bt, hbt⟩ : ∃ x, x = w.heap.size + 1 + 1 := ⟨_, rfl⟩
  have s1 : w1.heap.size = bq := by rw [hw1, hbq, World.size_alloc]
  have s2 : w2.heap.size = bt := by rw [hw2, hbt, World.size_alloc, s1, hbq]
  have b01 : Below w.heap.size w w1 := by rw [hw1]; exact (Below.refl _ _).alloc (Nat.le_refl _) _
  have b12 : Below w1.heap.size w1 w2 := by rw [hw2]; exact (Below.refl _ _).alloc (Nat.le_refl _) _
  have b23 : Below w2.heap.size w2 w3 := by rw [hw3]; exact (Below.refl _ _).alloc (Nat.le_refl _) _
  have X1 : MX w1 bM (fun _ => False) M0 w1 := by rw [hw1, hbM]; exact MX.new w
  have X3 : MX w1 bM (fun q => (False ∨ q = w1.heap.size) ∨ q = w2.heap.size) M0 w3 := by
    have := (X1.box (.cells #[.pointer none, .pointer none, .map none] 29))
    rw [← hw2] at this
    have := this.box (.cells (kcs kA).toArray 32)
    rw [← hw3] at this
    exact this
  have n3 : w3.heap[bt]? = some (.cells (kcs kA).toArray 32 (0, 0)) := by rw [hw3, ← s2]; exact heap_alloc_new _ _
  have Q3 : QL w3 bq [] w3 := by
    refine QL.first (w := w1) (by rw [s1]) ?_ ?_
    · rw [← hw2, ← show w2.heap.size = bq + 1 from by rw [s2, hbt, hbq]]
      exact b23
    · rw [← hw2]
      exact b23.size
  have AQ := Lib.hid (ql_add Q3 kA wf_kA 0 rfl)
  have AM := Lib.hid (fun (W : World) (hW : QL w3 bq (addW [] kA 0) W) => mx_add (X3.frm hW.frm (fun q hq hT => by
    rcases hT with e | e
    · exact .inl (.inr (by rw [e, s1]))
    · omega) (fun q hq => by
    rcases hq with (hq | hq) | hq
    · exact hq.elim
    · omega
    · have := b12.size; omega)) kA wf_kA 0 0 rfl (by decide))
  have KT := Lib.hid (fun (W : World) (hW : W.heap[bt]? = some (.cells (kcs kA).toArray 32 (0, 0))) => show ∀ r v, (kcs kA)[r]? = some v → W.cell? ((⟨bt, 0, none⟩ : Addr).add r) = some v from fun r v hr => by
    rw [Addr.add_mid, cell_of_row W bt (0 + r) _ _ _ hW, Nat.zero_add]
    simpa using hr)
  have N4 := Lib.hid (fun (W : World) (hW : QL w3 bq (addW [] kA 0) W) => (hW.block (q := bt) (lt_of_rowK n3) (by omega)).trans n3)
  have N3 := Lib.hid n3
  have NB := Lib.hid (And.intro hbM (And.intro hbq (And.intro hbt (And.intro s1 s2))))
  have B3 := Lib.hid (show Below w.heap.size w w3 from b01.trans ((b12.mono b01.size).trans (b23.mono (Nat.le_trans b01.size b12.size))))
  have BL := Lib.hid (fun (W : World) (X : Nat → Prop) (M' : MM) (hW : MX w1 bM X M' W) => show Below w.heap.size w W from b01.trans (hW.low (by omega) b01.size))
  have HA := head_ad
  rw [← hw1, ← hw2, ← hbt, ← hbq, ← hbM, ← hw3l]
  obtain ⟨h1, h2, h3, h4⟩ := HA
  obtain ⟨Mh, hMh⟩ : ∃ Mh, Mh = M0.ad kA 0 0 := ⟨_, rfl⟩
  rw [h1, ← hMh] at AM
  rw [← hMh] at h2 h3 h4
  have HW := Lib.hid (fun (W : World) (X : Nat → Prop) (hW : MX w1 bM X Mh W) => show Calls _ _ _ _ _ from mx_waiting hW)
  have HD := Lib.hid (fun (W : World) (X : Nat → Prop) (hW : MX w1 bM X Mh W) => show Calls _ _ _ _ _ from mx_drop hW 1 (by rw [h2]; decide) (by rw [h4]; decide))
  rw [h3] at HW
  rw [h4] at HD
  have AQ2 := AQ
  rw [show addR [] kA = 0 from rfl] at AQ2
  clear hMh h1 h2 h3 h4 AQ X1 X3 Q3 n3 b01 b12 b23 hw1 hw2 hw3 hw3l hbM hbq hbt s1 s2
  go_upto_region 6 with (first
    | ((with_reducible show wpList _ _ _ _ _ _); refine wpList_load_allW rfl 32 (.tmp 7) rfl ⟨bt, 0, none⟩ rfl (kcs kA) _ (KT.out _ N3.out) Try.underlying32 rfl (tkSize _) ?_)
    | ((with_reducible refine AQ2.out.mono ?_); rintro e w4 ⟨rfl, hq4⟩; have Q4 := Lib.hid hq4)
    | ((with_reducible show wpList _ _ _ _ _ _); refine wpList_loadWanted (by kernel_rfl) 32 (.tmp 7) rfl ⟨bt, 0, none⟩ rfl (kcs kA) _ (KT.out _ (N4.out _ Q4.out)) Try.underlying32 rfl (tkSize _) ?_)
    | ((with_reducible refine (AM.out _ Q4.out).mono ?_); rintro e w5 ⟨rfl, hx5, hk5⟩; have X5 := Lib.hid hx5)
    | ((with_reducible refine (HW.out _ _ X5.out).mono ?_); rintro e w6 ⟨a6, c6, rfl, _, hb6, hx6, hk6⟩; have X6 := Lib.hid hx6)
    | ((with_reducible refine (HD.out _ _ X6.out).mono ?_); rintro e w7 ⟨rfl, hx7, hk7⟩; have X7 := Lib.hid hx7))
  have B7 := Lib.hid (BL.out _ _ _ X7.out)
  clear BL AM HW HD AQ2 KT N4 N3 B3 hq4 Q4 hx5 hk5 X5 hb6 hx6 hk6 X6 hx7 hk7 X7 SK OK
  by_cases h40 : 40 < n
  · have h40' : (40 : Int) < (n : Int) := by omega
    go_wp2_with fail
    go_ret
    exact ⟨rfl, B7.out⟩
  have h40' : ¬ (40 : Int) < (n : Int) := by omega
  by_cases h60 : 60 < m
  · have h60' : (60 : Int) < (m : Int) := by omega
    go_wp2_with fail
    go_ret
    exact ⟨rfl, B7.out⟩
  have h60' : ¬ (60 : Int) < (m : Int) := by omega
  have MK : (Instr.makeMap 103 none).run Try.prog w7 = .ok (.map (some w7.heap.size)) (w7.alloc (.map #[] 0)) := rfl
  go_upto_region 9 with fail
  clear MK
  have hr := hall_row w7.heap.size
  have HS0 := HS.new w7 rfl rfl hr.1 hr.2
  obtain ⟨gm, hgm⟩ : ∃ x, x = w7.heap.size := ⟨_, rfl⟩
  obtain ⟨b, hb⟩ : ∃ x, x = w7.heap.size + 1 := ⟨_, rfl⟩
  rw [World.size_alloc, ← hgm] at HS0
  rw [← hgm] at hb ⊢
  rw [← hb] at HS0 ⊢
  obtain ⟨Rh, hRh⟩ : ∃ x, x = Try.zeroCells105.setIfInBounds 198 (.map (some gm)) := ⟨_, rfl⟩
  rw [← hRh] at HS0 ⊢
  obtain ⟨wb, hwb⟩ : ∃ x, x = (w7.alloc (Obj.map #[] 0)).alloc (Obj.cells Rh 105) := ⟨_, rfl⟩
  have B8 := Lib.hid (show Below w.heap.size w wb from by
    have h7 := B7.out
    have b1 : Below w7.heap.size w7 (w7.alloc (Obj.map #[] 0)) := (Below.refl _ _).alloc (Nat.le_refl _) _
    have b2 : Below w7.heap.size w7 wb := by rw [hwb]; exact b1.alloc b1.size _
    exact h7.trans (b2.mono h7.size))
  have GL := Lib.hid (show w.heap.size ≤ b ∧ w.heap.size ≤ gm from by have := B7.out.size; omega)
  rw [← hwb] at HS0 ⊢
  have H0 := Lib.hid HS0
  clear hr HS0 hRh hwb hgm hb B7
  go_wp2_with fail
  go_loopw [48] (fun iv wr => ownRel wb b gm n iv wr) (fun iv _ => n - (intOf iv).toNat)
  case atStart => exact ⟨0, M0, Nat.zero_le _, rfl, H0.out⟩
  case round =>
    obtain ⟨wq, rfl⟩ : ∃ wq : World, wq = wr := ⟨_, rfl⟩
    obtain ⟨i, M, hi, rfl, hS⟩ := hrel
    by_cases hin : i < n
    · have hin2 : (i : Int) < (n : Int) := by omega
      have h0 : (0 : Int) ≤ (i : Int) := by omega
      obtain ⟨z, hz⟩ : ∃ z, zs[i]? = some z := ⟨_, List.getElem?_eq_getElem (by rw [← HN.out]; exact hin)⟩
      obtain ⟨ad, rfl⟩ : ∃ ad, ao = some ad := by
        cases ao with
        | none => rw [HZ.out.none rfl] at hz; cases hz
        | some ad => exact ⟨ad, rfl⟩
      have zwf := HZ.out.wf z (List.mem_of_getElem? hz)
      have hlow : Below w.heap.size w wq := B8.out.trans (by
        obtain ⟨c0, S0, hx0, _⟩ := hS.hx
        exact hx0.low GL.out.1 GL.out.2 B8.out.size)
      have CZ : wq.cell? (ad.add i) = some (.int .i64 z) := (HZ.out.below hlow (Nat.le_refl _)).cell ad rfl i z hz
      have AD := Lib.hid (fun v h0 h5 => hs_add2 hS rfl (by omega) v h0 h5)
      clear hlow hS hz
      go_wp2_with (first
        | ((with_reducible refine (AD.out _ (by omega) (by omega)).mono ?_); rintro e w5 ⟨rfl, hx5, hk5⟩))
      all_goals exact ⟨⟨i + 1, _, by omega, rfl, hx5⟩, by simp [intOf]; omega⟩
    · have hie : i = n := by omega
      subst hie
      have H1 := Lib.hid hS
      have hnn : ¬ (i : Int) < (i : Int) := by omega
      clear hS H0 hi hin
      go_wp2_with fail
      go_loopw [66] (fun iv wr => scRel wb b gm i m iv wr) (fun iv _ => m - (intOf iv).toNat)
      case atStart => exact ⟨0, M, fun _ => false, 0, Nat.zero_le _, rfl, H1.out, by decide⟩
      case round =>
        obtain ⟨wq, rfl⟩ : ∃ wq : World, wq = wr := ⟨_, rfl⟩
        obtain ⟨j, M, D, now, hj, rfl, hS, hnow⟩ := hrel
        by_cases hjm : j < m
        · have hjm2 : (j : Int) < (m : Int) := by omega
          have h0 : (0 : Int) ≤ (j : Int) := by omega
          obtain ⟨x, hx⟩ : ∃ x, L[j]? = some x := ⟨_, List.getElem?_eq_getElem (by rw [← HM.out]; exact hjm)⟩
          obtain ⟨ad, rfl⟩ : ∃ ad, bo = some ad := by
            cases bo with
            | none => rw [HL.out.none rfl] at hx; cases hx
            | some ad => exact ⟨ad, rfl⟩
          have xwf := HL.out.good x (List.mem_of_getElem? hx)
          have hlow : Below w.heap.size w wq := B8.out.trans (by
            obtain ⟨c0, S0, hx0, _⟩ := hS.hx
            exact hx0.low GL.out.1 GL.out.2 B8.out.size)
          have cx := (HL.out.below hlow (Nat.le_refl _)).cell ad rfl j x hx
          have CX : ∀ r v, (tri x)[r]? = some v → wq.cell? ((ad.add (j * 3)).add r) = some v := fun r v hv => by
            rw [Go.Deep.add_add]
            exact cx r v hv
          obtain ⟨w3, hw3⟩ : ∃ y, y = wq.alloc (.cells (tri x).toArray 106) := ⟨_, rfl⟩
          obtain ⟨g3, hg3⟩ : ∃ y, y = wq.heap.size := ⟨_, rfl⟩
          have n3 : w3.heap[g3]? = some (.cells (tri x).toArray 106 (0, 0)) := by rw [hw3, hg3]; exact heap_alloc_new _ _
          have S3 := hS.box (.cells (tri x).toArray 106)
          rw [← hw3, ← hg3] at S3
          have KC := Lib.hid (fun (W : World) (hW : W.heap[g3]? = some (.cells (tri x).toArray 106 (0, 0))) => show W.cell? ⟨g3, 0, none⟩ = some (.int .i64 x.1) ∧ W.cell? ⟨g3, 1, none⟩ = some (.int .i64 x.2.1) ∧ W.cell? ⟨g3, 2, none⟩ = some (.int .i64 x.2.2) from by
            refine ⟨?_, ?_, ?_⟩ <;> rw [cell_of_row W g3 _ _ _ _ hW] <;> rfl)
          obtain ⟨c0, c1, c2⟩ := KC.out w3 n3
          have N3 := Lib.hid n3
          have HS3 := Lib.hid S3
          have HW3 := Lib.hid hw3
          have HG3 := Lib.hid hg3
          have HNW := Lib.hid hnow
          clear hS cx hx hw3 hg3 n3 S3 hlow hnow
          go_upto_region 18 with (first
            | ((with_reducible show wpList _ _ _ _ _ _); refine wpList_load_allW rfl 106 (.tmp 68) rfl (ad.add (j * 3)) rfl (tri x) _ CX Try.underlying106 rfl (triSize _) ?_)
            | ((with_reducible show wpList _ _ _ _ _ _); refine wpList_store_newW rfl 106 (.tmp 12) (.tmp 69) rfl 106 _ (tri x).toArray (by with_unfolding_all rfl) (by with_unfolding_all rfl) (triSizeA x) rfl (tri_one x) ?_))
          rw [← HW3.out, ← HG3.out]
          simp only [Act.put, List.setIfInBounds_toArray, List.set_cons_zero, List.set_cons_succ, List.getElem_toArray, List.getElem_cons_zero, List.getElem_cons_succ]
          go_upto_region 19 with fail
          obtain ⟨q, hq⟩ : ∃ q : Nat, (q : Int) = 1 + (if 0 < x.2.1 then x.2.1 else 0) % 4 := ⟨(1 + (if 0 < x.2.1 then x.2.1 else 0) % 4).toNat, by omega⟩
          have hq1 : 1 ≤ q := by omega
          have hq2 : q < 5 := by omega
          rw [← hq]
          obtain ⟨v73, hv73⟩ : ∃ v : Int, v = (if 0 < x.2.1 then x.2.1 else 0) % 4 := ⟨_, rfl⟩
          obtain ⟨v72, hv72⟩ : ∃ v : Int, v = (if 0 < x.2.1 then x.2.1 else 0) := ⟨_, rfl⟩
          rw [← hv73, ← hv72]
          clear hq hv73 hv72 c1
          obtain ⟨kd, hkd⟩ : ∃ kd, kd = x.1 := ⟨_, rfl⟩
          rw [← hkd] at c0
          obtain ⟨x2, hx2⟩ : ∃ x2, x2 = x.2.2 := ⟨_, rfl⟩
          rw [← hx2] at c2
          have xw2 : i64wf x2 := by rw [hx2]; exact xwf.2.2
          clear hkd hx2 xwf
          obtain ⟨cn, fz, cm⟩ := HS3.out.cells
          have hnow := HNW.out
          obtain rfl | rfl | rfl | rfl | ⟨n0, n1, n2, n3⟩ : kd = 0 ∨ kd = 1 ∨ kd = 2 ∨ kd = 3 ∨ (¬ kd = 0 ∧ ¬ kd = 1 ∧ ¬ kd = 2 ∧ ¬ kd = 3) := by omega
          · as_aux_lemma =>
            have PO := Lib.hid (fun (W : World) (hW : Below w3.heap.size w3 W) => hs_poll (HS3.out.below hW).1 (by omega) hq1 hq2)
            go_upto_region 21 with fail
            refine wp_region_quiet_tail 8 (by kernel_rfl) (by kernel_rfl) ?_
            simp only [List.take_succ_cons, List.take_zero, List.drop_succ_cons, List.drop_zero]
            repeat (go_big_quiet_step (fail))
            refine wpQuiet_nil ?_
            intro _ hw'
            obtain ⟨nq, hw''⟩ := hw'
            subst hw''
            have B4 := Lib.hid (below_drewN (Below.refl w3.heap.size w3) nq)
            obtain ⟨w4, hw4⟩ : ∃ x, x = w3.drewN nq := ⟨_, rfl⟩
            rw [← hw4] at B4 ⊢
            clear hw4
            go_wp2_with (first
              | ((with_reducible refine (PO.out _ B4.out).mono ?_); rintro e w5 ⟨rfl, hx5, hk5⟩; have X5 := Lib.hid hx5))
            exact ⟨⟨j + 1, _, _, _, by omega, rfl, (X5.out.less (fun q hq => hq.elim)).grow (by omega), by omega⟩, by simp [intOf]; omega⟩
          · as_aux_lemma =>
            have FI := Lib.hid (fun tok => hs_finish HS3.out tok)
            go_wp2_with (first
              | ((with_reducible refine (FI.out _).mono ?_); rintro e w5 ⟨rfl, hk5, M5, D5, hx5, _, _⟩; have X5 := Lib.hid hx5))
            all_goals exact ⟨⟨j + 1, _, _, _, by omega, rfl, (X5.out.less (fun q hq => hq.elim)).grow (by omega), by omega⟩, by simp [intOf]; omega⟩
          · as_aux_lemma =>
            have LO := Lib.hid (fun (W : World) (hW : Below w3.heap.size w3 W) => hs_lose (HS3.out.below hW).1 hq1 hq2)
            go_upto_region 26 with fail
            (refine wp_region_quiet_tail_f 9 (by kernel_rfl) (by kernel_rfl) ?_; simp only [List.take_succ_cons, List.take_zero, List.drop_succ_cons, List.drop_zero]; (repeat (go_big_quiet_step (fail))); refine wpQuiet_nil ?_; intro _ hw'; obtain ⟨nq, hw''⟩ := hw'; subst hw'')
            have B4 := Lib.hid (below_drewN (Below.refl w3.heap.size w3) nq)
            obtain ⟨w4, hw4⟩ : ∃ x, x = w3.drewN nq := ⟨_, rfl⟩
            rw [← hw4] at B4 ⊢
            clear hw4
            go_wp2_with (first
              | ((with_reducible refine (LO.out _ B4.out).mono ?_); rintro e w5 ⟨a1, c1, rfl, ho5, hk5⟩; have AG := Lib.hid (ho_again ho5))
              | ((with_reducible refine AG.out.mono ?_); rintro e w6 ⟨rfl, hx6, hk6⟩; have X6 := Lib.hid hx6))
            first | exact ⟨⟨j + 1, _, _, _, by omega, rfl, (X6.out.less (fun q hq => hq.elim)).grow (by omega), by omega⟩, by simp [intOf]; omega⟩ | (trace_state; sorry)
          · as_aux_lemma =>
            go_upto_region 28 with fail
            (refine wp_region_quiet_tail_f 9 (by kernel_rfl) (by kernel_rfl) ?_; simp only [List.take_succ_cons, List.take_zero, List.drop_succ_cons, List.drop_zero]; (repeat (go_big_quiet_step (fail))); refine wpQuiet_nil ?_; intro _ hw'; obtain ⟨nq, hw''⟩ := hw'; subst hw'')
            have B4 := Lib.hid (below_drewN (Below.refl w3.heap.size w3) nq)
            obtain ⟨w4, hw4⟩ : ∃ x, x = w3.drewN nq := ⟨_, rfl⟩
            rw [← hw4] at B4 ⊢
            clear hw4
            have S4 := Lib.hid (HS3.out.below B4.out).1
            obtain ⟨cn4, fz4, _⟩ := S4.out.cells
            go_upto_region 29 with fail
            obtain ⟨v2, hv2⟩ : ∃ v : Int, v = (if 30 < x2 then 30 else x2) := ⟨_, rfl⟩
            rw [← hv2]
            obtain ⟨v3, hv3⟩ : ∃ v : Int, v = (if 0 < v2 then v2 else 0) := ⟨_, rfl⟩
            rw [← hv3]
            have hv30 : 0 ≤ v3 ∧ v3 ≤ 30 := by
              rw [hv3, hv2]
              split
              · split <;> omega
              · omega
            have htk := S4.out.tick
            obtain ⟨nw, hnw⟩ : ∃ nw, nw = wrap64 (now + v3) := ⟨_, rfl⟩
            have hnw2 : nw = now + v3 := by rw [hnw]; unfold wrap64; omega
            rw [← hnw]
            have S5 := S4.out.later (now' := nw) (by omega) (by omega)
            obtain ⟨w5, hw5⟩ : ∃ x, x = w4.setCell ⟨b, 197, none⟩ (.int .i64 nw) := ⟨_, rfl⟩
            rw [← hw5] at S5 ⊢
            obtain ⟨cn5, fz5, _⟩ := S5.1.cells
            have EX := Lib.hid (fun (W : World) (hW : Below w5.heap.size w5 W) => hs_expire (S5.1.below hW).1)
            have hnw3 : nw ≤ now + 30 := by omega
            clear hv2 hv3 hnw hnw2 hv30 S5 hw5 cn4 fz4 cn fz
            (refine wp_region_quiet_tail_f 8 (by kernel_rfl) (by kernel_rfl) ?_; simp only [List.take_succ_cons, List.take_zero, List.drop_succ_cons, List.drop_zero]; (repeat (go_big_quiet_step (fail))); refine wpQuiet_nil ?_; intro _ hw'; obtain ⟨nq, hw''⟩ := hw'; subst hw'')
            have B6 := Lib.hid (below_drewN (Below.refl w5.heap.size w5) nq)
            obtain ⟨w6, hw6⟩ : ∃ x, x = w5.drewN nq := ⟨_, rfl⟩
            rw [← hw6] at B6 ⊢
            clear hw6
            go_wp2_with (first
              | ((with_reducible refine (EX.out _ B6.out).mono ?_); rintro e w7 ⟨a1, c1, rfl, ho5, hk5⟩; have AG := Lib.hid (ho_again ho5))
              | ((with_reducible refine AG.out.mono ?_); rintro e w8 ⟨rfl, hx6, hk6⟩; have X6 := Lib.hid hx6))
            first | exact ⟨⟨j + 1, _, _, _, by omega, rfl, (X6.out.less (fun q hq => hq.elim)).grow (by omega), by omega⟩, by simp [intOf]; omega⟩ | (trace_state; sorry)
          · as_aux_lemma =>
            have X3 := Lib.hid HS3.out
            clear HS3
            go_wp2_with fail
            exact ⟨⟨j + 1, _, _, _, by omega, rfl, (X3.out.less (fun q hq => hq.elim)).grow (by omega), by omega⟩, by simp [intOf]; omega⟩
        · have hje : j = m := by omega
          subst hje
          have hjj : ¬ (j : Int) < (j : Int) := by omega
          obtain ⟨wr0, hwr0⟩ : ∃ x : World, x = wq := ⟨_, rfl⟩
          obtain ⟨N0, hN0⟩ : ∃ x : Int, x = now := ⟨_, rfl⟩
          have R0 := Lib.hid (rd_start (b := b) hS (by omega))
          have R1 := Lib.hid (show 0 ≤ now ∧ now ≤ 1800 from by have := hS.tick; omega)
          clear hS hj hjm
          go_wp2_with fail
          go_loopw [134] (fun iv wr => rdRel wb b gm i now iv wr) (fun iv _ => 200 - (intOf iv).toNat)
          case atStart => exact R0.out
          case round =>
            obtain ⟨wq2, rfl⟩ : ∃ wq2 : World, wq2 = wr := ⟨_, rfl⟩
            obtain ⟨r, M2, D2, hr, rfl, hS2, hI⟩ := hrel
            by_cases hr2 : r < 200
            · have hrr : (r : Int) < 200 := by omega
              have h0 : (0 : Int) ≤ (r : Int) := by omega
              have HI := Lib.hid hI
              have HS2 := Lib.hid hS2
              clear hI hS2
              go_wp2_with fail
              go_loopw [14] (fun iv wr => poRel wb b gm i r (now + (r : Int)) M2 D2 iv wr) (fun iv _ => 5 - (intOf iv).toNat)
              case atStart => exact ⟨1, M2, D2, by decide, by decide, rfl, HS2.out.grow (by omega), RoI.start _ _ _⟩
              case round =>
                obtain ⟨wq3, rfl⟩ : ∃ wq3 : World, wq3 = wr := ⟨_, rfl⟩
                obtain ⟨k, M3, D3, hk1, hk5, rfl, hS3, hP⟩ := hrel
                by_cases hk : k < 5
                · have hkk : (k : Int) ≤ 4 := by omega
                  have hk0 : (0 : Int) ≤ (k : Int) := by omega
                  obtain ⟨N, hN⟩ : ∃ N, N = now + (r : Int) := ⟨_, rfl⟩
                  rw [← hN] at hS3
                  have HJ3 := hS3.hj
                  have HF3 := hS3.few
                  obtain ⟨G, hG⟩ : ∃ G, G = 60 + 4 * (r : Int) + ((k : Int) - 1) := ⟨_, rfl⟩
                  rw [← hG] at hS3
                  have PO := Lib.hid (fun (wx : World) (X : Nat → Prop) (hW : HS wb b gm X i G M3 D3 N wx) => hs_poll hW (by omega) hk1 (show k < 5 from hk))
                  obtain ⟨LL, hLL⟩ : ∃ LL, LL = M3.plL (k : Int) 1 N := ⟨_, rfl⟩
                  obtain ⟨MP, hMP⟩ : ∃ MP, MP = M3.pl (k : Int) 1 N := ⟨_, rfl⟩
                  obtain ⟨e0, he0⟩ : ∃ e0, e0 = M3.plE (k : Int) 1 := ⟨_, rfl⟩
                  rw [← hLL, ← hMP, ← he0] at PO
                  have hpe := HJ3.plE HF3 hk1 hk
                  have he : e0 = 0 ∨ e0 = 4 := by
                    rcases hpe with h | h
                    · exact .inl (he0.trans h)
                    · exact .inr (he0.trans h.1)
                  have HE := Lib.hid (show (e0 = 0 → MP.gt LL.tok N = (LL, 0) ∧ (MP.dn LL.tok).E = M3.E) ∧ (e0 = 4 → MP = M3 ∧ M3.W k = [] ∧ M3.W 0 = []) from by
                    refine ⟨fun h => ?_, fun h => ?_⟩
                    · rw [hLL, hMP]
                      exact pl_gt HJ3 (by rw [← he0]; exact h)
                    · rcases hpe with h2 | h2
                      · rw [he0, h2] at h; cases h
                      · exact ⟨hMP.trans (MM.pl_no (by rw [h2.1]; decide)).1, h2.2⟩)
                  have I0 := Lib.hid (show PjI wb b gm i G M3 MP D3 N LL false false false 0 wq3.drew from ⟨(hS3.below (below_drewN (Below.refl _ _) 1)).1.less (fun q hq => by cases hq.1), fun e => by cases e⟩)
                  have SL := Lib.hid (fun l : Ls => lsSizeA l)
                  have OL := Lib.hid (fun l : Ls => l.oneA)
                  have HG := Lib.hid hG
                  have HNN := Lib.hid hN
                  have HP := Lib.hid hP
                  clear hS3 HJ3 HF3 hLL hMP he0 hpe hG hN hP
                  go_upto_region 36 with fail
                  refine wp_region_par (α := Nat) (by kernel_rfl) (by kernel_rfl) (by kernel_rfl) (fun y => ⟨#[Value.slice ao i c, Value.slice bo j c', undef, undef, u4, Value.pointer (some ⟨bM, 0, none⟩), Value.pointer (some ⟨bq, 0, none⟩), Value.pointer (some ⟨bt, 0, none⟩), Value.pointer (some ⟨b, 0, none⟩), u9, u10, undef, u12, u13, Value.int IntKind.i64 ↑k, y 12, y 14, Value.agg #[Value.int IntKind.i64 1, Value.int IntKind.i64 1, Value.int IntKind.i64 0], Value.agg (kcs kA).toArray, Value.int IntKind.i64 0, Value.bool false, Value.bool false, Value.agg (kcs kA).toArray, Value.int IntKind.i64 0, Value.bool false, Value.bool false, Value.bool false, Value.slice a6 1 c6, Value.int IntKind.i64 1, Value.bool false, Value.bool false, Value.bool false, Value.int IntKind.i64 1, Value.bool false, Value.bool false, Value.slice ao i c, Value.int IntKind.i64 ↑i, Value.bool false, Value.bool false, Value.slice bo j c', Value.int IntKind.i64 ↑j, Value.bool false, Value.bool false, Value.map (some gm), Value.agg Rh, Value.pointer (some ⟨b, 0, none⟩), Value.slice ao i c, Value.int IntKind.i64 ↑i, Value.int IntKind.i64 ↑i, Value.bool false, u50, u51, u52, u53, u54, u55, u56, u57, u58, u59, u60, u61, u62, u63, Value.slice bo j c', Value.int IntKind.i64 ↑j, Value.int IntKind.i64 ↑j, Value.bool false, u68, u69, u70, u71, u72, u73, u74, u75, u76, u77, u78, u79, u80, u81, u82, u83, u84, u85, u86, u87, u88, u89, u90, u91, u92, u93, u94, u95, u96, u97, u98, u99, u100, u101, u102, u103, u104, u105, u106, u107, u108, u109, u110, u111, u112, u113, u114, u115, u116, u117, u118, u119, u120, u121, u122, u123, u124, u125, u126, u127, u128, u129, u130, u131, u132, u133, Value.int IntKind.i64 ↑r, Value.bool true, Value.int IntKind.i64 ↑k, Value.bool true, u138, u139, y 9, y 0, y 1, y 2, y 3, y 4, y 5, y 6, y 7, y 8, y 10, y 11, u152, u153, u154, u155, u156, u157, u158, u159, u160, u161, u162, u163, u164, u165, u166, u167, u168, u169, u170, u171, u172, u173, u174, u175, u176, u177, u178, undef, undef, undef, undef, undef, undef, undef, undef, undef, undef, undef, undef, undef, undef, undef, undef, undef, undef, undef, undef, undef, undef], []⟩) (fun p j q => match j with | 0 => q = .pointer (some ⟨b, 0, none⟩) | 1 => q = .pointer (some ⟨b, 0, none⟩) | 2 => q = .pointer (some ⟨b, 0, none⟩) | 3 => q = .int .i64 (k : Int) | 4 => q = .pointer (some ⟨b, 0, none⟩) | 5 => q = .pointer (some ⟨b, 0, none⟩) | 6 => q = .pointer (some ⟨b, 197, none⟩) | 7 => q = .int .i64 N | 8 => q = .tuple #[.agg LL.cs.toArray, .int .i64 e0] | 9 => q = .tuple #[.agg LL.cs.toArray, .int .i64 e0] | 10 => q = .agg LL.cs.toArray | 11 => q = .int .i64 e0 | 12 => q = .pointer (some ⟨p, 0, none⟩) | 14 => q = .int .i64 e0 | _ => True) (fun M p wx => PjI wb b gm i G M3 MP D3 N LL (M 8) (M 12) (M 13) p wx) (fun i => [8, 12, 13].contains i) (fun i j => (i == 8 && decide (j == 9 || j == 10 || j == 11 || j == 13 || j == 14)) || (i == 12 && j == 13)) (parOk_spec (by kernel_rfl)) ?_ ?_ ?_ (fun j => match j with | 0 => u141 | 1 => u142 | 2 => u143 | 3 => u144 | 4 => u145 | 5 => u146 | 6 => u147 | 7 => u148 | 8 => u149 | 9 => u140 | 10 => u150 | 11 => u151 | 12 => u15 | 14 => u16 | _ => undef) 0 rfl (by exact I0.out)
                  · intro i' o hsrc ho M p y wx hd hi' hI
                    match i', ho with
                    | 0, ho =>
                      obtain rfl := Option.some.inj ho
                      refine ⟨.pointer (some ⟨b, 0, none⟩), ?_, rfl, rfl, hI⟩
                      refine runWithP (fun z => match z with  | .tmp 8 => Value.pointer (some ⟨b, 0, none⟩) | .const c => c | _ => undef) (by kernel_rfl) ?_
                      go_simp
                    | 1, ho =>
                      obtain rfl := Option.some.inj ho
                      have y0 : y 0 = .pointer (some ⟨b, 0, none⟩) := hd ⟨0, .data⟩ (by simp) rfl
                      refine ⟨.pointer (some ⟨b, 0, none⟩), ?_, rfl, rfl, hI⟩
                      refine runWithP (fun z => match z with | .tmp 141 => y 0 | .const c => c | _ => undef) (by kernel_rfl) ?_
                      rw [y0]
                      go_simp
                    | 2, ho =>
                      obtain rfl := Option.some.inj ho
                      have y0 : y 1 = .pointer (some ⟨b, 0, none⟩) := hd ⟨1, .data⟩ (by simp) rfl
                      refine ⟨.pointer (some ⟨b, 0, none⟩), ?_, rfl, rfl, hI⟩
                      refine runWithP (fun z => match z with | .tmp 142 => y 1 | .const c => c | _ => undef) (by kernel_rfl) ?_
                      rw [y0]
                      go_simp
                    | 3, ho =>
                      obtain rfl := Option.some.inj ho
                      refine ⟨.int .i64 (k : Int), ?_, rfl, rfl, hI⟩
                      refine runWithP (fun z => match z with  | .tmp 14 => Value.int IntKind.i64 ↑k | .const c => c | _ => undef) (by kernel_rfl) ?_
                      go_simp
                    | 4, ho =>
                      obtain rfl := Option.some.inj ho
                      refine ⟨.pointer (some ⟨b, 0, none⟩), ?_, rfl, rfl, hI⟩
                      refine runWithP (fun z => match z with  | .tmp 8 => Value.pointer (some ⟨b, 0, none⟩) | .const c => c | _ => undef) (by kernel_rfl) ?_
                      go_simp
                    | 5, ho =>
                      obtain rfl := Option.some.inj ho
                      have y0 : y 4 = .pointer (some ⟨b, 0, none⟩) := hd ⟨4, .data⟩ (by simp) rfl
                      refine ⟨.pointer (some ⟨b, 0, none⟩), ?_, rfl, rfl, hI⟩
                      refine runWithP (fun z => match z with | .tmp 145 => y 4 | .const c => c | _ => undef) (by kernel_rfl) ?_
                      rw [y0]
                      go_simp
                    | 6, ho =>
                      obtain rfl := Option.some.inj ho
                      have y0 : y 5 = .pointer (some ⟨b, 0, none⟩) := hd ⟨5, .data⟩ (by simp) rfl
                      refine ⟨.pointer (some ⟨b, 197, none⟩), ?_, rfl, rfl, hI⟩
                      refine runWithP (fun z => match z with | .tmp 146 => y 5 | .const c => c | _ => undef) (by kernel_rfl) ?_
                      rw [y0]
                      go_simp
                    | 7, ho =>
                      obtain rfl := Option.some.inj ho
                      have y0 : y 6 = .pointer (some ⟨b, 197, none⟩) := hd ⟨6, .data⟩ (by simp) rfl
                      have cx := hI.hs.cells.1
                      refine ⟨.int .i64 N, ?_, rfl, rfl, hI⟩
                      refine runWithP (fun z => match z with | .tmp 147 => y 6 | .const c => c | _ => undef) (by kernel_rfl) ?_
                      rw [y0]
                      go_simp
                    | 8, ho =>
                      obtain rfl := Option.some.inj ho
                      cases hsrc
                    | 9, ho =>
                      obtain rfl := Option.some.inj ho
                      have y0 : y 8 = .tuple #[.agg LL.cs.toArray, .int .i64 e0] := hd ⟨8, .data⟩ (by simp) rfl
                      refine ⟨.tuple #[.agg LL.cs.toArray, .int .i64 e0], ?_, rfl, rfl, hI⟩
                      refine runWithP (fun z => match z with | .tmp 149 => y 8 | .const c => c | _ => undef) (by kernel_rfl) ?_
                      rw [y0]
                      go_simp
                    | 10, ho =>
                      obtain rfl := Option.some.inj ho
                      have y0 : y 9 = .tuple #[.agg LL.cs.toArray, .int .i64 e0] := hd ⟨9, .data⟩ (by simp) rfl
                      refine ⟨.agg LL.cs.toArray, ?_, rfl, rfl, hI⟩
                      refine runWithP (fun z => match z with | .tmp 140 => y 9 | .const c => c | _ => undef) (by kernel_rfl) ?_
                      rw [y0]
                      go_simp
                    | 11, ho =>
                      obtain rfl := Option.some.inj ho
                      have y0 : y 9 = .tuple #[.agg LL.cs.toArray, .int .i64 e0] := hd ⟨9, .data⟩ (by simp) rfl
                      refine ⟨.int .i64 e0, ?_, rfl, rfl, hI⟩
                      refine runWithP (fun z => match z with | .tmp 140 => y 9 | .const c => c | _ => undef) (by kernel_rfl) ?_
                      rw [y0]
                      go_simp
                    | 12, ho =>
                      obtain rfl := Option.some.inj ho
                      cases hsrc
                    | 13, ho =>
                      obtain rfl := Option.some.inj ho
                      cases hsrc
                    | 14, ho =>
                      obtain rfl := Option.some.inj ho
                      have y0 : y 11 = .int .i64 e0 := hd ⟨11, .data⟩ (by simp) rfl
                      refine ⟨.int .i64 e0, ?_, rfl, rfl, hI⟩
                      refine runWithP (fun z => match z with | .tmp 151 => y 11 | .const c => c | _ => undef) (by kernel_rfl) ?_
                      rw [y0]
                      go_simp
                    | j + 15, ho => cases ho
                  · intro i' o hsrc ho M p y wx hd hi' hlat hI
                    match i', hsrc, ho with
                    | 0, hsrc, ho =>
                      cases hsrc
                    | 1, hsrc, ho =>
                      cases hsrc
                    | 2, hsrc, ho =>
                      cases hsrc
                    | 3, hsrc, ho =>
                      cases hsrc
                    | 4, hsrc, ho =>
                      cases hsrc
                    | 5, hsrc, ho =>
                      cases hsrc
                    | 6, hsrc, ho =>
                      cases hsrc
                    | 7, hsrc, ho =>
                      cases hsrc
                    | 8, hsrc, ho =>
                      obtain rfl := Option.some.inj ho
                      have y2 : y 2 = .pointer (some ⟨b, 0, none⟩) := (hd ⟨2, .data⟩ (by simp) rfl).2
                      have y3 : y 3 = .int .i64 (k : Int) := (hd ⟨3, .data⟩ (by simp) rfl).2
                      have y7 : y 7 = .int .i64 N := (hd ⟨7, .data⟩ (by simp) rfl).2
                      rw [hi'] at hI
                      refine slot_call #[.pointer (some ⟨b, 0, none⟩), .int .i64 (k : Int), .int .i64 1, .int .i64 N] rfl Try.func27 (by kernel_rfl) (by kernel_rfl) (by simp [Act.eval, y2, y3, y7]) ?_
                      refine (PO.out wx _ hI.hs).mono ?_
                      rintro e w' ⟨rfl, hx, hk⟩
                      refine ⟨_, rfl, _, p, rfl, rfl, fun j q _ _ h => h, ?_⟩
                      show PjI wb b gm i G M3 MP D3 N LL true (M 12) (M 13) p w'
                      exact hI.call hx hk
                    | 9, hsrc, ho =>
                      cases hsrc
                    | 10, hsrc, ho =>
                      cases hsrc
                    | 11, hsrc, ho =>
                      cases hsrc
                    | 12, hsrc, ho =>
                      obtain rfl := Option.some.inj ho
                      have h13 : M 13 = false := hlat 13 rfl
                      rw [hi', h13] at hI
                      refine slot_giveP (v := .pointer (some ⟨wx.heap.size, 0, none⟩)) (w' := wx.alloc (.cells l0.cs.toArray 80)) ?_ ⟨_, wx.heap.size, rfl, rfl, ?_, ?_⟩
                      · kernel_rfl
                      · intro j q hne hl hF
                        match j, hne, hF with
                        | 0, _, hF => exact hF
                        | 1, _, hF => exact hF
                        | 2, _, hF => exact hF
                        | 3, _, hF => exact hF
                        | 4, _, hF => exact hF
                        | 5, _, hF => exact hF
                        | 6, _, hF => exact hF
                        | 7, _, hF => exact hF
                        | 8, _, hF => exact hF
                        | 9, _, hF => exact hF
                        | 10, _, hF => exact hF
                        | 11, _, hF => exact hF
                        | 12, hne, _ => exact absurd rfl hne
                        | 13, _, _ => exact absurd hl (by decide)
                        | 14, _, hF => exact hF
                        | j + 15, _, _ => trivial
                      · show PjI wb b gm i G M3 MP D3 N LL (M 8) true (M 13) wx.heap.size _
                        rw [h13]
                        exact hI.made
                    | 13, hsrc, ho =>
                      obtain rfl := Option.some.inj ho
                      have h12 := hd ⟨12, .data⟩ (by simp) rfl
                      have y12 : y 12 = .pointer (some ⟨p, 0, none⟩) := h12.2
                      have y10 : y 10 = .agg LL.cs.toArray := (hd ⟨10, .data⟩ (by simp) rfl).2
                      rw [h12.1, hi'] at hI
                      refine slot_storeP 80 (.tmp 15) (.tmp 150) rfl p 80 l0.cs.toArray LL.cs.toArray y12 y10 (hI.new rfl).2 (SL.out _) rfl (OL.out _) ?_
                      refine ⟨undef, p, rfl, trivial, fun j q _ _ h => h, ?_⟩
                      show PjI wb b gm i G M3 MP D3 N LL (M 8) (M 12) true p _
                      rw [h12.1]
                      exact hI.stored
                    | 14, hsrc, ho =>
                      cases hsrc
                    | j + 15, hsrc, ho => cases ho
                  · rintro M p y wx hall hI
                    have y12 : y 12 = .pointer (some ⟨p, 0, none⟩) := (hall 12 (by decide)).2
                    have y14 : y 14 = .int .i64 e0 := (hall 14 (by decide)).2
                    try dsimp only
                    rw [y12, y14]
                    rw [(hall 8 (by decide)).1, (hall 12 (by decide)).1, (hall 13 (by decide)).1] at hI
                    obtain ⟨p5, hp5⟩ : ∃ q, q = p := ⟨_, rfl⟩
                    obtain ⟨w5, hw5⟩ : ∃ w5, w5 = wx := ⟨_, rfl⟩
                    rw [← hp5, ← hw5] at hI ⊢
                    have hz : ∃ z0 z1 z2 z3 z4 z5 z6 z7 z8 z9 z10 z11 : Value, z0 = y 0 ∧ z1 = y 1 ∧ z2 = y 2 ∧ z3 = y 3 ∧ z4 = y 4 ∧ z5 = y 5 ∧ z6 = y 6 ∧ z7 = y 7 ∧ z8 = y 8 ∧ z9 = y 9 ∧ z10 = y 10 ∧ z11 = y 11 := ⟨_, _, _, _, _, _, _, _, _, _, _, _, rfl, rfl, rfl, rfl, rfl, rfl, rfl, rfl, rfl, rfl, rfl, rfl⟩
                    obtain ⟨z0, z1, z2, z3, z4, z5, z6, z7, z8, z9, z10, z11, hz0, hz1, hz2, hz3, hz4, hz5, hz6, hz7, hz8, hz9, hz10, hz11⟩ := hz
                    rw [← hz0, ← hz1, ← hz2, ← hz3, ← hz4, ← hz5, ← hz6, ← hz7, ← hz8, ← hz9, ← hz10, ← hz11]
                    have N5 := Lib.hid hI.fin.2
                    have H5 := Lib.hid hI.fin.1
                    clear hI hall y12 y14 hp5 hw5 hz0 hz1 hz2 hz3 hz4 hz5 hz6 hz7 hz8 hz9 hz10 hz11 I0 PO
                    rcases he with rfl | rfl
                    · have k0 : w5.cell? ⟨p5, 0, none⟩ = some (.int .u64 LL.tok) := by
                        rw [cell_of_row w5 p5 0 _ _ _ N5.out]
                        rfl
                      have FI := Lib.hid (hs_finish H5.out LL.tok)
                      have HGT := Lib.hid (HE.out.1 rfl)
                      clear HE
                      go_wp2_with (first
                        | ((with_reducible refine FI.out.mono ?_); rintro e w6 ⟨rfl, hk6, M6, D6, hx6, hg6, _⟩))
                      have hgt := HGT.out
                      have h6 := hg6 (by rw [hgt.1])
                      exact ⟨⟨k + 1, M6, D6, by omega, by omega, rfl, (by rw [← HNN.out]; exact (hx6.less (X' := fun _ => False) (fun q hq => hq.elim)).grow (by have := HG.out; omega)), HP.out.got (by rw [h6.1]; exact hgt.2) h6.2⟩, by simp [intOf]; omega⟩
                    · have HGT := Lib.hid (HE.out.2 rfl)
                      clear HE
                      go_wp2_with fail
                      obtain ⟨h1, h2⟩ := HGT.out
                      exact ⟨⟨k + 1, MP, D3, by omega, by omega, rfl, (by rw [← HNN.out]; exact (H5.out.less (X' := fun _ => False) (fun q hq => hq.elim)).grow (by have := HG.out; omega)), by rw [h1]; exact HP.out.no hk1 h2⟩, by simp [intOf]; omega⟩
                · have hkk : ¬ (k : Int) ≤ 4 := by omega
                  obtain rfl : k = 5 := by omega
                  have htk := hS3.tick
                  have S3 := Lib.hid hS3
                  obtain ⟨cn3, fz3, _⟩ := hS3.cells
                  have HJ2 := Lib.hid HS2.out.hj
                  have HP := Lib.hid hP
                  obtain ⟨N, hN⟩ : ∃ N, N = now + (r : Int) := ⟨_, rfl⟩
                  have HNN := Lib.hid hN
                  have hfew := HS2.out.few
                  rw [← hN] at S3 cn3 htk HJ2
                  clear hS3 hP HS2 hN hk hk1 hk5
                  go_upto_region 40 with fail
                  obtain ⟨nw, hnw⟩ : ∃ nw, nw = N + 1 := ⟨_, rfl⟩
                  rw [← hnw]
                  have hN3 := S3.out.tick
                  have hNr := HNN.out
                  have hnow := R1.out
                  have S5 := S3.out.later (now' := nw) (by omega) (by omega)
                  obtain ⟨w5, hw5⟩ : ∃ x, x = wq3.setCell ⟨b, 197, none⟩ (.int .i64 nw) := ⟨_, rfl⟩
                  rw [← hw5] at S5 ⊢
                  obtain ⟨cn5, fz5, _⟩ := S5.1.cells
                  have EX := Lib.hid (fun (W : World) (hW : Below w5.heap.size w5 W) => hs_expire (S5.1.below hW).1)
                  have HQ := Lib.hid (show nw = now + (((r + 1 : Nat)) : Int) from by omega)
                  clear hnw hN3 hNr S5 hw5 cn3 fz3 htk hnow
                  (refine wp_region_quiet_tail_f 8 (by kernel_rfl) (by kernel_rfl) ?_; simp only [List.take_succ_cons, List.take_zero, List.drop_succ_cons, List.drop_zero]; (repeat (go_big_quiet_step (fail))); refine wpQuiet_nil ?_; intro _ hw'; obtain ⟨nq, hw''⟩ := hw'; subst hw'')
                  have B6 := Lib.hid (below_drewN (Below.refl w5.heap.size w5) nq)
                  obtain ⟨w6, hw6⟩ : ∃ x, x = w5.drewN nq := ⟨_, rfl⟩
                  rw [← hw6] at B6 ⊢
                  clear hw6
                  go_wp2_with (first
                    | ((with_reducible refine (EX.out _ B6.out).mono ?_); rintro e w7 ⟨a1, c1, rfl, ho5, hk5⟩; have AG := Lib.hid (ho_again ho5))
                    | ((with_reducible refine AG.out.mono ?_); rintro e w8 ⟨rfl, hx6, hk6⟩; have X6 := Lib.hid hx6))
                  refine ⟨⟨r + 1, agn nw (M3.E.filter fun l => decide (l.til ≤ nw)) (M3.ex nw), D3, by omega, rfl, ?_, HI.out.next (by rw [← HNN.out]; exact HJ2.out) hfew HP.out fun l hl => ?_⟩, by simp [intOf]; omega⟩
                  · rw [← HQ.out]
                    exact X6.out.grow (by omega)
                  · rw [(agn_E _ _).1] at hl
                    have hl2 : l ∈ M3.E.filter fun l => !decide (l.til ≤ nw) := by
                      have e : (M3.ex nw).E = M3.E.filter fun l => !decide (l.til ≤ nw) := by unfold MM.ex MM.l; dsimp only
                      rw [← e]
                      exact hl
                    have h3 := List.mem_filter.1 hl2
                    refine ⟨h3.1, ?_⟩
                    have h4 : ¬ l.til ≤ nw := by simpa using h3.2
                    have := HQ.out
                    omega
            · have hrr : ¬ (r : Int) < 200 := by omega
              obtain rfl : r = 200 := by omega
              have hrem := hI.done
              have hend := hS2.hj.end hrem
              have S2 := Lib.hid hS2
              have WA := Lib.hid (fun (wx : World) (hb : Below wq2.heap.size wq2 wx) => hs_waiting0 (S2.out.below hb).1 hend.1)
              have LE := Lib.hid (fun (wx : World) (hb : Below wq2.heap.size wq2 wx) => hs_leases0 (S2.out.below hb).1 hend.2)
              have LN := Lib.hid (fun (wx : World) (hb : Below wq2.heap.size wq2 wx) => show (Builtin.len_ #[103] 3 #[.map (some gm)]).run Try.prog wx = .ok (.int .i64 (i : Int)) wx from by
                obtain ⟨cc, hcc, hlen⟩ := (S2.out.below hb).1.len 3
                rw [hrem] at hcc
                rw [hlen, show cc = i by omega])
              have CM := Lib.hid (fun (wx : World) (hb : Below wq2.heap.size wq2 wx) => (S2.out.below hb).1.cells.2.2)
              have HBW := Lib.hid (show Below w.heap.size w wq2 from B8.out.trans (by
                obtain ⟨c0, S0, hx0, _⟩ := S2.out.hx
                exact hx0.low GL.out.1 GL.out.2 B8.out.size))
              have I0 := Lib.hid (show Below wq2.heap.size wq2 wq2.drew from below_drewN (Below.refl _ _) 1)
              clear hI hS2 hend hrem
              go_upto_region 42 with fail
              refine wp_region_parG (α := ((Option Addr × Nat) × (Option Addr × Nat))) (by kernel_rfl) (by kernel_rfl) (fun y => ⟨#[Value.slice ao i c, Value.slice bo j c', undef, undef, y 22, Value.pointer (some ⟨bM, 0, none⟩), Value.pointer (some ⟨bq, 0, none⟩), Value.pointer (some ⟨bt, 0, none⟩), Value.pointer (some ⟨b, 0, none⟩), u9, u10, undef, u12, u13, u14, u15, u16, Value.agg #[Value.int IntKind.i64 1, Value.int IntKind.i64 1, Value.int IntKind.i64 0], Value.agg (kcs kA).toArray, Value.int IntKind.i64 0, Value.bool false, Value.bool false, Value.agg (kcs kA).toArray, Value.int IntKind.i64 0, Value.bool false, Value.bool false, Value.bool false, Value.slice a6 1 c6, Value.int IntKind.i64 1, Value.bool false, Value.bool false, Value.bool false, Value.int IntKind.i64 1, Value.bool false, Value.bool false, Value.slice ao i c, Value.int IntKind.i64 ↑i, Value.bool false, Value.bool false, Value.slice bo j c', Value.int IntKind.i64 ↑j, Value.bool false, Value.bool false, Value.map (some gm), Value.agg Rh, Value.pointer (some ⟨b, 0, none⟩), Value.slice ao i c, Value.int IntKind.i64 ↑i, Value.int IntKind.i64 ↑i, Value.bool false, u50, u51, u52, u53, u54, u55, u56, u57, u58, u59, u60, u61, u62, u63, Value.slice bo j c', Value.int IntKind.i64 ↑j, Value.int IntKind.i64 ↑j, Value.bool false, u68, u69, u70, u71, u72, u73, u74, u75, u76, u77, u78, u79, u80, u81, u82, u83, u84, u85, u86, u87, u88, u89, u90, u91, u92, u93, u94, u95, u96, u97, u98, u99, u100, u101, u102, u103, u104, u105, u106, u107, u108, u109, u110, u111, u112, u113, u114, u115, u116, u117, u118, u119, u120, u121, u122, u123, u124, u125, u126, u127, u128, u129, u130, u131, u132, u133, Value.int IntKind.i64 ((200 : Nat) : Int), Value.bool false, u136, u137, u138, u139, u140, u141, u142, u143, u144, u145, u146, u147, u148, u149, u150, u151, u152, u153, u154, u155, u156, u157, u158, u159, u160, u161, u162, u163, u164, u165, u166, u167, u168, u169, u170, u171, u172, u173, u174, u175, u176, u177, u178, y 0, y 1, y 2, y 3, y 4, y 5, y 6, y 7, y 8, y 9, y 10, y 11, y 12, y 13, y 14, y 15, y 16, y 17, y 18, y 19, y 20, y 21], []⟩) (fun p j q => match j with | 0 => q = .pointer (some ⟨b, 0, none⟩) | 1 => q = .pointer (some ⟨b, 0, none⟩) | 2 => q = .pointer (some ⟨b, 198, none⟩) | 3 => q = .map (some gm) | 4 => q = .int .i64 (i : Int) | 5 => q = .slice ao i c | 6 => q = .int .i64 (i : Int) | 7 => q = .bool true | 8 => q = .bool true | 9 => q = .pointer (some ⟨b, 0, none⟩) | 10 => q = .pointer (some ⟨b, 0, none⟩) | 11 => q = .pointer (some ⟨b, 0, none⟩) | 12 => q = .slice p.1.1 0 p.1.2 | 13 => q = .int .i64 0 | 14 => q = .pointer (some ⟨b, 0, none⟩) | 15 => q = .pointer (some ⟨b, 0, none⟩) | 16 => q = .pointer (some ⟨b, 0, none⟩) | 17 => q = .slice p.2.1 0 p.2.2 | 18 => q = .int .i64 0 | 19 => q = .int .i64 0 | 20 => q = .bool true | 21 => q = .bool true | 22 => q = .bool true | _ => True) (fun M p wx => Below wq2.heap.size wq2 wx) (fun i => [12, 17].contains i) (fun _ _ => false) (parOk_spec (by kernel_rfl)) ?_ ?_ ?_ (fun k => match k with | 22 => u4 | _ => undef) ((none, 0), (none, 0)) rfl (by exact I0.out)
              · intro i' o hsrc ho M p y wx hd hi' hI
                match i', ho with
                | 0, ho =>
                  obtain rfl := Option.some.inj ho
                  refine .inl ⟨rfl, ?_⟩
                  refine ⟨.pointer (some ⟨b, 0, none⟩), ?_, rfl, rfl, hI⟩
                  refine runWithP (fun z => match z with  | .tmp 8 => Value.pointer (some ⟨b, 0, none⟩) | .const c => c | _ => undef) (by kernel_rfl) ?_
                  go_simp
                | 1, ho =>
                  obtain rfl := Option.some.inj ho
                  have y0 : y 0 = .pointer (some ⟨b, 0, none⟩) := hd ⟨0, .data⟩ (by simp) rfl
                  refine .inl ⟨rfl, ?_⟩
                  refine ⟨.pointer (some ⟨b, 0, none⟩), ?_, rfl, rfl, hI⟩
                  refine runWithP (fun z => match z with | .tmp 179 => y 0 | .const c => c | _ => undef) (by kernel_rfl) ?_
                  rw [y0]
                  go_simp
                | 2, ho =>
                  obtain rfl := Option.some.inj ho
                  have y0 : y 1 = .pointer (some ⟨b, 0, none⟩) := hd ⟨1, .data⟩ (by simp) rfl
                  refine .inl ⟨rfl, ?_⟩
                  refine ⟨.pointer (some ⟨b, 198, none⟩), ?_, rfl, rfl, hI⟩
                  refine runWithP (fun z => match z with | .tmp 180 => y 1 | .const c => c | _ => undef) (by kernel_rfl) ?_
                  rw [y0]
                  go_simp
                | 3, ho =>
                  obtain rfl := Option.some.inj ho
                  have y0 : y 2 = .pointer (some ⟨b, 198, none⟩) := hd ⟨2, .data⟩ (by simp) rfl
                  have cx := CM.out wx hI
                  refine .inl ⟨rfl, ?_⟩
                  refine ⟨.map (some gm), ?_, rfl, rfl, hI⟩
                  refine runWithP (fun z => match z with | .tmp 181 => y 2 | .const c => c | _ => undef) (by kernel_rfl) ?_
                  rw [y0]
                  go_simp
                | 4, ho =>
                  obtain rfl := Option.some.inj ho
                  have y0 : y 3 = .map (some gm) := hd ⟨3, .data⟩ (by simp) rfl
                  have cx := LN.out wx hI
                  refine .inl ⟨rfl, ?_⟩
                  refine ⟨.int .i64 (i : Int), ?_, rfl, rfl, hI⟩
                  refine runWithP (fun z => match z with | .tmp 182 => y 3 | .const c => c | _ => undef) (by kernel_rfl) ?_
                  rw [y0]
                  go_simp
                | 5, ho =>
                  obtain rfl := Option.some.inj ho
                  refine .inl ⟨rfl, ?_⟩
                  refine ⟨.slice ao i c, ?_, rfl, rfl, hI⟩
                  refine runWithP (fun z => match z with  | .tmp 0 => Value.slice ao i c | .const c => c | _ => undef) (by kernel_rfl) ?_
                  go_simp
                | 6, ho =>
                  obtain rfl := Option.some.inj ho
                  have y0 : y 5 = .slice ao i c := hd ⟨5, .data⟩ (by simp) rfl
                  refine .inl ⟨rfl, ?_⟩
                  refine ⟨.int .i64 (i : Int), ?_, rfl, rfl, hI⟩
                  refine runWithP (fun z => match z with | .tmp 184 => y 5 | .const c => c | _ => undef) (by kernel_rfl) ?_
                  rw [y0]
                  go_simp
                | 7, ho =>
                  obtain rfl := Option.some.inj ho
                  have y0 : y 4 = .int .i64 (i : Int) := hd ⟨4, .data⟩ (by simp) rfl
                  have y1 : y 6 = .int .i64 (i : Int) := hd ⟨6, .data⟩ (by simp) rfl
                  refine .inl ⟨rfl, ?_⟩
                  refine ⟨.bool true, ?_, rfl, rfl, hI⟩
                  refine runWithP (fun z => match z with | .tmp 183 => y 4 | .tmp 185 => y 6 | .const c => c | _ => undef) (by kernel_rfl) ?_
                  rw [y0, y1]
                  go_simp
                | 8, ho =>
                  obtain rfl := Option.some.inj ho
                  have y0 : y 7 = .bool true := hd ⟨7, .data⟩ (by simp) rfl
                  refine .inl ⟨rfl, ?_⟩
                  refine ⟨.bool true, ?_, rfl, rfl, hI⟩
                  refine runWithP (fun z => match z with | .tmp 186 => y 7 | .const c => c | _ => undef) (by kernel_rfl) ?_
                  rw [y0]
                  go_simp
                | 9, ho =>
                  obtain rfl := Option.some.inj ho
                  have yg : y 8 = .bool true := hd ⟨8, .guard⟩ (by simp) rfl
                  refine .inl ⟨Eq.trans (b := gdP (y 8) true) (by kernel_rfl) (by rw [yg]; rfl), ?_⟩
                  refine ⟨.pointer (some ⟨b, 0, none⟩), ?_, rfl, rfl, hI⟩
                  refine runWithP (fun z => match z with  | .tmp 8 => Value.pointer (some ⟨b, 0, none⟩) | .const c => c | _ => undef) (by kernel_rfl) ?_
                  go_simp
                | 10, ho =>
                  obtain rfl := Option.some.inj ho
                  have yg : y 8 = .bool true := hd ⟨8, .guard⟩ (by simp) rfl
                  have y0 : y 9 = .pointer (some ⟨b, 0, none⟩) := hd ⟨9, .data⟩ (by simp) rfl
                  refine .inl ⟨Eq.trans (b := gdP (y 8) true) (by kernel_rfl) (by rw [yg]; rfl), ?_⟩
                  refine ⟨.pointer (some ⟨b, 0, none⟩), ?_, rfl, rfl, hI⟩
                  refine runWithP (fun z => match z with | .tmp 188 => y 9 | .const c => c | _ => undef) (by kernel_rfl) ?_
                  rw [y0]
                  go_simp
                | 11, ho =>
                  obtain rfl := Option.some.inj ho
                  have yg : y 8 = .bool true := hd ⟨8, .guard⟩ (by simp) rfl
                  have y0 : y 10 = .pointer (some ⟨b, 0, none⟩) := hd ⟨10, .data⟩ (by simp) rfl
                  refine .inl ⟨Eq.trans (b := gdP (y 8) true) (by kernel_rfl) (by rw [yg]; rfl), ?_⟩
                  refine ⟨.pointer (some ⟨b, 0, none⟩), ?_, rfl, rfl, hI⟩
                  refine runWithP (fun z => match z with | .tmp 189 => y 10 | .const c => c | _ => undef) (by kernel_rfl) ?_
                  rw [y0]
                  go_simp
                | 12, ho =>
                  obtain rfl := Option.some.inj ho
                  cases hsrc
                | 13, ho =>
                  obtain rfl := Option.some.inj ho
                  have yg : y 8 = .bool true := hd ⟨8, .guard⟩ (by simp) rfl
                  have y0 : y 12 = .slice p.1.1 0 p.1.2 := hd ⟨12, .data⟩ (by simp) rfl
                  refine .inl ⟨Eq.trans (b := gdP (y 8) true) (by kernel_rfl) (by rw [yg]; rfl), ?_⟩
                  refine ⟨.int .i64 0, ?_, rfl, rfl, hI⟩
                  refine runWithP (fun z => match z with | .tmp 191 => y 12 | .const c => c | _ => undef) (by kernel_rfl) ?_
                  rw [y0]
                  go_simp
                | 14, ho =>
                  obtain rfl := Option.some.inj ho
                  have yg : y 8 = .bool true := hd ⟨8, .guard⟩ (by simp) rfl
                  refine .inl ⟨Eq.trans (b := gdP (y 8) true) (by kernel_rfl) (by rw [yg]; rfl), ?_⟩
                  refine ⟨.pointer (some ⟨b, 0, none⟩), ?_, rfl, rfl, hI⟩
                  refine runWithP (fun z => match z with  | .tmp 8 => Value.pointer (some ⟨b, 0, none⟩) | .const c => c | _ => undef) (by kernel_rfl) ?_
                  go_simp
                | 15, ho =>
                  obtain rfl := Option.some.inj ho
                  have yg : y 8 = .bool true := hd ⟨8, .guard⟩ (by simp) rfl
                  have y0 : y 14 = .pointer (some ⟨b, 0, none⟩) := hd ⟨14, .data⟩ (by simp) rfl
                  refine .inl ⟨Eq.trans (b := gdP (y 8) true) (by kernel_rfl) (by rw [yg]; rfl), ?_⟩
                  refine ⟨.pointer (some ⟨b, 0, none⟩), ?_, rfl, rfl, hI⟩
                  refine runWithP (fun z => match z with | .tmp 193 => y 14 | .const c => c | _ => undef) (by kernel_rfl) ?_
                  rw [y0]
                  go_simp
                | 16, ho =>
                  obtain rfl := Option.some.inj ho
                  have yg : y 8 = .bool true := hd ⟨8, .guard⟩ (by simp) rfl
                  have y0 : y 15 = .pointer (some ⟨b, 0, none⟩) := hd ⟨15, .data⟩ (by simp) rfl
                  refine .inl ⟨Eq.trans (b := gdP (y 8) true) (by kernel_rfl) (by rw [yg]; rfl), ?_⟩
                  refine ⟨.pointer (some ⟨b, 0, none⟩), ?_, rfl, rfl, hI⟩
                  refine runWithP (fun z => match z with | .tmp 194 => y 15 | .const c => c | _ => undef) (by kernel_rfl) ?_
                  rw [y0]
                  go_simp
                | 17, ho =>
                  obtain rfl := Option.some.inj ho
                  cases hsrc
                | 18, ho =>
                  obtain rfl := Option.some.inj ho
                  have yg : y 8 = .bool true := hd ⟨8, .guard⟩ (by simp) rfl
                  have y0 : y 17 = .slice p.2.1 0 p.2.2 := hd ⟨17, .data⟩ (by simp) rfl
                  refine .inl ⟨Eq.trans (b := gdP (y 8) true) (by kernel_rfl) (by rw [yg]; rfl), ?_⟩
                  refine ⟨.int .i64 0, ?_, rfl, rfl, hI⟩
                  refine runWithP (fun z => match z with | .tmp 196 => y 17 | .const c => c | _ => undef) (by kernel_rfl) ?_
                  rw [y0]
                  go_simp
                | 19, ho =>
                  obtain rfl := Option.some.inj ho
                  have yg : y 8 = .bool true := hd ⟨8, .guard⟩ (by simp) rfl
                  have y0 : y 13 = .int .i64 0 := hd ⟨13, .data⟩ (by simp) rfl
                  have y1 : y 18 = .int .i64 0 := hd ⟨18, .data⟩ (by simp) rfl
                  refine .inl ⟨Eq.trans (b := gdP (y 8) true) (by kernel_rfl) (by rw [yg]; rfl), ?_⟩
                  refine ⟨.int .i64 0, ?_, rfl, rfl, hI⟩
                  refine runWithP (fun z => match z with | .tmp 192 => y 13 | .tmp 197 => y 18 | .const c => c | _ => undef) (by kernel_rfl) ?_
                  rw [y0, y1]
                  go_simp
                  first | rfl | decide | kernel_rfl
                | 20, ho =>
                  obtain rfl := Option.some.inj ho
                  have yg : y 8 = .bool true := hd ⟨8, .guard⟩ (by simp) rfl
                  have y0 : y 19 = .int .i64 0 := hd ⟨19, .data⟩ (by simp) rfl
                  refine .inl ⟨Eq.trans (b := gdP (y 8) true) (by kernel_rfl) (by rw [yg]; rfl), ?_⟩
                  refine ⟨.bool true, ?_, rfl, rfl, hI⟩
                  refine runWithP (fun z => match z with | .tmp 198 => y 19 | .const c => c | _ => undef) (by kernel_rfl) ?_
                  rw [y0]
                  go_simp
                | 21, ho =>
                  obtain rfl := Option.some.inj ho
                  have y0 : y 8 = .bool true := hd ⟨8, .data⟩ (by simp) rfl
                  have y1 : y 20 = .bool true := hd ⟨20, .data⟩ (by simp) rfl
                  refine .inl ⟨rfl, ?_⟩
                  refine ⟨.bool true, ?_, rfl, rfl, hI⟩
                  refine runWithP (fun z => match z with | .tmp 187 => y 8 | .tmp 199 => y 20 | .const c => c | _ => undef) (by kernel_rfl) ?_
                  rw [y0, y1]
                  kernel_rfl
                | 22, ho =>
                  obtain rfl := Option.some.inj ho
                  have y0 : y 21 = .bool true := hd ⟨21, .data⟩ (by simp) rfl
                  refine .inl ⟨rfl, ?_⟩
                  refine ⟨.bool true, ?_, rfl, rfl, hI⟩
                  refine runWithP (fun z => match z with | .tmp 200 => y 21 | .const c => c | _ => undef) (by kernel_rfl) ?_
                  rw [y0]
                  go_simp
                | j + 23, ho => cases ho
              · intro i' o hsrc ho M p y wx hd hi' hlat hI
                match i', hsrc, ho with
                | 0, hsrc, ho =>
                  cases hsrc
                | 1, hsrc, ho =>
                  cases hsrc
                | 2, hsrc, ho =>
                  cases hsrc
                | 3, hsrc, ho =>
                  cases hsrc
                | 4, hsrc, ho =>
                  cases hsrc
                | 5, hsrc, ho =>
                  cases hsrc
                | 6, hsrc, ho =>
                  cases hsrc
                | 7, hsrc, ho =>
                  cases hsrc
                | 8, hsrc, ho =>
                  cases hsrc
                | 9, hsrc, ho =>
                  cases hsrc
                | 10, hsrc, ho =>
                  cases hsrc
                | 11, hsrc, ho =>
                  cases hsrc
                | 12, hsrc, ho =>
                  obtain rfl := Option.some.inj ho
                  have yg : y 8 = .bool true := (hd ⟨8, .guard⟩ (by simp) rfl).2
                  refine ⟨Eq.trans (b := gdP (y 8) true) (by kernel_rfl) (by rw [yg]; rfl), ?_⟩
                  have ya : y 11 = .pointer (some ⟨b, 0, none⟩) := (hd ⟨11, .data⟩ (by simp) rfl).2
                  refine slot_call #[.pointer (some ⟨b, 0, none⟩)] rfl Try.func42 (by kernel_rfl) (by kernel_rfl) (by simp [Act.eval, ya]) ?_
                  refine (WA.out wx hI).mono ?_
                  rintro e w' ⟨a1, c1, rfl, hb⟩
                  refine ⟨_, rfl, _, ((a1, c1), p.2), rfl, rfl, ?_, ?_⟩
                  · intro j q hne hl hF
                    match j, hne, hF with
                    | 0, _, hF => exact hF
                    | 1, _, hF => exact hF
                    | 2, _, hF => exact hF
                    | 3, _, hF => exact hF
                    | 4, _, hF => exact hF
                    | 5, _, hF => exact hF
                    | 6, _, hF => exact hF
                    | 7, _, hF => exact hF
                    | 8, _, hF => exact hF
                    | 9, _, hF => exact hF
                    | 10, _, hF => exact hF
                    | 11, _, hF => exact hF
                    | 12, hne, _ => exact absurd rfl hne
                    | 13, _, hF => exact hF
                    | 14, _, hF => exact hF
                    | 15, _, hF => exact hF
                    | 16, _, hF => exact hF
                    | 17, _, hF => exact hF
                    | 18, _, hF => exact hF
                    | 19, _, hF => exact hF
                    | 20, _, hF => exact hF
                    | 21, _, hF => exact hF
                    | 22, _, hF => exact hF
                    | j + 23, _, _ => trivial
                  · exact hI.trans (hb.mono hI.size)
                | 13, hsrc, ho =>
                  cases hsrc
                | 14, hsrc, ho =>
                  cases hsrc
                | 15, hsrc, ho =>
                  cases hsrc
                | 16, hsrc, ho =>
                  cases hsrc
                | 17, hsrc, ho =>
                  obtain rfl := Option.some.inj ho
                  have yg : y 8 = .bool true := (hd ⟨8, .guard⟩ (by simp) rfl).2
                  refine ⟨Eq.trans (b := gdP (y 8) true) (by kernel_rfl) (by rw [yg]; rfl), ?_⟩
                  have ya : y 16 = .pointer (some ⟨b, 0, none⟩) := (hd ⟨16, .data⟩ (by simp) rfl).2
                  refine slot_call #[.pointer (some ⟨b, 0, none⟩)] rfl Try.func43 (by kernel_rfl) (by kernel_rfl) (by simp [Act.eval, ya]) ?_
                  refine (LE.out wx hI).mono ?_
                  rintro e w' ⟨a1, c1, rfl, hb⟩
                  refine ⟨_, rfl, _, (p.1, (a1, c1)), rfl, rfl, ?_, ?_⟩
                  · intro j q hne hl hF
                    match j, hne, hF with
                    | 0, _, hF => exact hF
                    | 1, _, hF => exact hF
                    | 2, _, hF => exact hF
                    | 3, _, hF => exact hF
                    | 4, _, hF => exact hF
                    | 5, _, hF => exact hF
                    | 6, _, hF => exact hF
                    | 7, _, hF => exact hF
                    | 8, _, hF => exact hF
                    | 9, _, hF => exact hF
                    | 10, _, hF => exact hF
                    | 11, _, hF => exact hF
                    | 12, _, hF => exact hF
                    | 13, _, hF => exact hF
                    | 14, _, hF => exact hF
                    | 15, _, hF => exact hF
                    | 16, _, hF => exact hF
                    | 17, hne, _ => exact absurd rfl hne
                    | 18, _, hF => exact hF
                    | 19, _, hF => exact hF
                    | 20, _, hF => exact hF
                    | 21, _, hF => exact hF
                    | 22, _, hF => exact hF
                    | j + 23, _, _ => trivial
                  · exact hI.trans (hb.mono hI.size)
                | 18, hsrc, ho =>
                  cases hsrc
                | 19, hsrc, ho =>
                  cases hsrc
                | 20, hsrc, ho =>
                  cases hsrc
                | 21, hsrc, ho =>
                  cases hsrc
                | 22, hsrc, ho =>
                  cases hsrc
                | j + 23, hsrc, ho => cases ho
              · rintro M p y wx hall hI
                have y22 : y 22 = .bool true := (hall 22 (by decide)).2
                try dsimp only
                rw [y22]
                have HB := Lib.hid (HBW.out.trans (hI.mono HBW.out.size))
                clear hI hall y22 WA LE LN CM I0 HBW
                go_wp2_with fail
                go_ret
                exact ⟨rfl, HB.out⟩
end Go.Proofs.Ytkmhbbcppjckiaa.Ma
