/- Nobody does what another one does: MatchingOnce's walk. -/
import Derived.Test.YtkmhbbcppjckiaaMY2
import Derived.Deep.DeepCutAuto
namespace Go.Proofs.Ytkmhbbcppjckiaa.Ma
open Go Go.RowKit Go.Proofs.Ytkmhbbcppjckiaa
open Go.Proofs.Ytkmhbbcppjckiaa.Hp (i64wf K3 wf3)
open Go.Proofs.Ytkmhbbcppjckiaa.Qu
open Go.Proofs.Ytkmhbbcppjckiaa.Dk (Frm below_drewN)
set_option linter.unusedVariables false
set_option linter.unusedSimpArgs false
set_option maxRecDepth 100000
def NoB : Nat → Prop := fun _ => False
theorem MX.less {w wx : World} {b : Nat} {X X' : Nat → Prop} {M : MM} (h : MX w b X M wx) (hX : ∀ q, X' q → X q) : MX w b X' M wx := ⟨h.m.monoX hX, fun q hq => h.lt q (hX q hq)⟩
theorem MX.wf {w wx : World} {b : Nat} {X : Nat → Prop} {M : MM} (h : MX w b X M wx) {j : Nat} (hj : j < 65) : ∀ x ∈ M.W j, wf3 x.1 ∧ i64wf x.2 := by
  obtain ⟨T', hM, _⟩ := h.step
  exact hM.wf hj
/-- What holds of a Match that was made by so many steps. -/
structure OnI (M : MM) (i : Nat) (last : Int) : Prop where
  one : M.one
  few : M.E.length ≤ i
  giv : 0 ≤ M.giv ∧ M.giv ≤ (i : Int)
  lst : 0 ≤ last ∧ last ≤ M.giv
  wf : ∀ l ∈ M.E, wf3 l.key
theorem OnI.zero : OnI M0 0 0 := ⟨zero_one, Nat.le_refl _, ⟨by decide, by decide⟩, ⟨by decide, by decide⟩, fun l hl => by cases hl⟩
theorem OnI.more {M : MM} {i : Nat} {last : Int} (h : OnI M i last) : OnI M (i + 1) last := ⟨h.one, by have := h.few; omega, ⟨h.giv.1, by have := h.giv.2; omega⟩, h.lst, h.wf⟩
theorem OnI.ad {M : MM} {i : Nat} {last : Int} (h : OnI M i last) (k : K3) (wk now : Int) : OnI (M.ad k wk now) i last := by
  have e : (M.ad k wk now).E = M.E ∧ (M.ad k wk now).giv = M.giv := by unfold MM.ad; split <;> exact ⟨rfl, rfl⟩
  exact ⟨ad_one h.one k wk now, by rw [e.1]; exact h.few, by rw [e.2]; exact h.giv, by rw [e.2]; exact h.lst, by rw [e.1]; exact h.wf⟩
theorem OnI.sub {M M' : MM} {i : Nat} {last : Int} (h : OnI M i last) (h1 : M'.one) (hg : M'.giv = M.giv) (hE : ∃ p, M'.E = M.E.filter p) : OnI M' i last := by
  obtain ⟨p, hp⟩ := hE
  refine ⟨h1, ?_, by rw [hg]; exact h.giv, by rw [hg]; exact h.lst, fun l hl => ?_⟩
  · rw [hp]
    exact Nat.le_trans (List.length_filter_le _ _) h.few
  · rw [hp] at hl
    exact h.wf l (List.mem_filter.1 hl).1
theorem OnI.dn {M : MM} {i : Nat} {last : Int} (h : OnI M i last) (tok : Int) : OnI (M.dn tok) i last := h.sub (dn_one h.one tok) (by unfold MM.dn MM.l; dsimp only) ⟨_, by unfold MM.dn MM.l; dsimp only⟩
theorem OnI.ex {M : MM} {i : Nat} {last : Int} (h : OnI M i last) (now : Int) : OnI (M.ex now) i last := by
  refine h.sub (ex_one h.one now) ?_ ⟨fun l => !decide (l.til ≤ now), ?_⟩
  · obtain ⟨n, hn⟩ : ∃ n, n = 64 := ⟨_, rfl⟩
    unfold MM.ex MM.l
    rw [← hn]
    dsimp only
    exact (exG_E now n 1 M).2
  · unfold MM.ex MM.l
    dsimp only
theorem OnI.lo {M : MM} {i : Nat} {last : Int} (h : OnI M i last) (wk now : Int) : OnI (M.lo wk now) i last := by
  by_cases hi : isW wk = true
  · refine h.sub (lo_one h.one wk now) ?_ ⟨fun l => !decide (l.wk = wk), ?_⟩
    · unfold MM.lo MM.l MM.q
      rw [if_pos hi]
      dsimp only
      exact (frs_E now _ _ M).2
    · unfold MM.lo MM.l
      rw [if_pos hi]
  · have : M.lo wk now = M := by unfold MM.lo; rw [if_neg hi]
    rw [this]
    exact h
theorem OnI.pl {M : MM} {i : Nat} {last : Int} (h : OnI M i last) (hW : ∀ j, j < 65 → ∀ x ∈ M.W j, wf3 x.1 ∧ i64wf x.2) (wk kind now : Int) (he : M.plE wk kind = 0) : OnI (M.pl wk kind now) (i + 1) (M.giv + 1) ∧ (M.plL wk kind now).tok = M.giv + 1 ∧ (M.plL wk kind now).wk = wk ∧ (M.plL wk kind now).key.2.1 = kind ∧ (M.plL wk kind now).til = now + 20 := by
  have hp := he
  have hj : wk.toNat < 65 ∧ (M.t2 wk.toNat kind).2 = true := by
    unfold MM.plE at hp
    cases hi : isW wk with
    | false => rw [if_pos hi] at hp; cases hp
    | true =>
      rw [if_neg (by rw [hi]; decide)] at hp
      split at hp
      · cases hp
      · split at hp
        · cases hp
        · rename_i ht
          refine ⟨?_, by simpa using ht⟩
          simp only [isW, Bool.and_eq_true, decide_eq_true_eq] at hi
          omega
  have hkey : ∃ j, j < 65 ∧ (M.t2 wk.toNat kind).1 ∈ keysT (M.W j) ∧ (M.t2 wk.toNat kind).1.2.1 = kind := by
    obtain ⟨hj, ht⟩ := hj
    unfold MM.t2 at ht ⊢
    by_cases h1 : (fiK kind (keysT (M.W wk.toNat))).2 = true
    · rw [if_pos h1] at ht ⊢
      have := fiK_mem (k := (fiK kind (keysT (M.W wk.toNat))).1) (Prod.ext rfl h1)
      exact ⟨_, hj, this.1, this.2⟩
    · rw [if_neg h1] at ht ⊢
      have := fiK_mem (k := (fiK kind (keysT (M.W 0))).1) (Prod.ext rfl ht)
      exact ⟨0, by decide, this.1, this.2⟩
  have eL : M.plL wk kind now = ⟨M.giv + 1, (M.t2 wk.toNat kind).1, wk, now + 20⟩ := by unfold MM.plL; rw [if_pos he]
  have eP : (M.pl wk kind now).E = M.E ++ [M.plL wk kind now] ∧ (M.pl wk kind now).giv = M.giv + 1 := by unfold MM.pl; rw [if_pos he]; exact ⟨rfl, rfl⟩
  refine ⟨⟨pl_one h.one wk kind now, ?_, ?_, ?_, fun l hl => ?_⟩, by rw [eL], by rw [eL], by rw [eL]; exact hkey.elim fun j hj => hj.2.2, by rw [eL]⟩
  · rw [eP.1, List.length_append, List.length_singleton]
    have := h.few
    omega
  · rw [eP.2]
    have := h.giv
    omega
  · rw [eP.2]
    have := h.giv
    omega
  · rw [eP.1] at hl
    rcases List.mem_append.1 hl with hl | hl
    · exact h.wf l hl
    · rw [List.mem_singleton.1 hl, eL]
      obtain ⟨j, hj, hm, _⟩ := hkey
      obtain ⟨x, hx, e⟩ := List.mem_map.1 hm
      show wf3 (M.t2 wk.toNat kind).1
      rw [← e]
      exact (hW j hj x hx).1
def tk100 (z : Int) : Int := max 0 (min z 100)
def onRel (w2 : World) (b : Nat) (n : Nat) (nv lv iv : Value) (wr : World) : Prop :=
  ∃ (i : Nat) (M : MM) (now last : Int), i ≤ n ∧ iv = .int .i64 (i : Int) ∧ nv = .int .i64 now ∧ lv = .int .u64 last ∧ MX w2 b NoB M wr ∧ OnI M i last ∧ 0 ≤ now ∧ now ≤ 100 * (i : Int)
def swRelO (w2 : World) (b i : Nat) (lv : Value) (wx : World) : Prop := ∃ (M : MM) (last : Int), lv = .int .u64 last ∧ MX w2 b NoB M wx ∧ OnI M (i + 1) last
theorem mx_knownB {w wx : World} {b : Nat} {X : Nat → Prop} {M : MM} (h : MX w b X M wx) (k : K3) (hk : wf3 k) (hE : M.E.length ≤ 1000) : Calls Try.prog 40 #[.pointer (some ⟨b, 0, none⟩), .agg (kcs k).toArray] wx fun e w' => e = .returned (.bool (M.kn k)) ∧ Below wx.heap.size wx w' := by
  obtain ⟨T', hM, hS⟩ := h.step
  exact mt_known hM k hk hE
/-- A walk over leases that turns nothing. -/
def eeRel (w5 : World) (m : Nat) (iv : Value) (wr : World) : Prop := ∃ j : Nat, j ≤ m ∧ iv = .int .i64 (j : Int) ∧ Below w5.heap.size w5 wr
/-- A walk over what is there, in which a map is filled. -/
def seRel (w2 : World) (b : Nat) (M : MM) (gm : Nat) (w7 : World) (K : List K3) (off m : Nat) (iv : Value) (wr : World) : Prop := ∃ (j cnt : Nat) (S : K3 → Bool), j ≤ m ∧ iv = .int .i64 (j : Int) ∧ MX w2 b (fun q => q = gm) M wr ∧ TMap wr gm cnt S ∧ cnt ≤ off + j ∧ (∀ x, S x = true ↔ x ∈ K.take (off + j)) ∧ Frm (fun q => q = gm) w7 wr
theorem MX.turned {w wx w' : World} {b : Nat} {X : Nat → Prop} {M : MM} {m : Nat} (h : MX w b X M wx) (ht : wx.mapTurned w' m) (hm : X m) (hl : w.heap.size ≤ m) : MX w b X M w' ∧ Frm (fun q => q = m) wx w' := by
  have hF : Frm (fun q => q = m) wx w' := (Frm.refl _ wx).turned ht (.inl rfl)
  obtain ⟨⟨hF0, T', hM, hT⟩, hX⟩ := h
  refine ⟨⟨⟨hF0.turned ht (.inr hl), T', hM.keep fun q hq hlt => hF.block q hlt fun e => (hT q hq).2.2 (by rw [e]; exact hm), fun q hq => ⟨(hT q hq).1, Nat.lt_of_lt_of_le (hT q hq).2.1 hF.size, (hT q hq).2.2⟩⟩, fun q hq => Nat.lt_of_lt_of_le (hX q hq) hF.size⟩, hF⟩
theorem take_succ_mem {K : List K3} {j : Nat} {k : K3} (h : K[j]? = some k) (x : K3) : x ∈ K.take (j + 1) ↔ x = k ∨ x ∈ K.take j := by
  rw [List.take_add_one, h, List.mem_append]
  simp only [Option.toList_some, List.mem_singleton]
  exact Or.comm
theorem not_take {K : List K3} (hn : K.Nodup) {j : Nat} {k : K3} (h : K[j]? = some k) : k ∉ K.take j := by
  intro hm
  obtain ⟨q, hq, e⟩ := List.getElem_of_mem hm
  rw [List.length_take] at hq
  rw [List.getElem_take] at e
  obtain ⟨hj, ej⟩ := List.getElem?_eq_some_iff.1 h
  have := (List.getElem_inj (i := q) (j := j) (h₀ := by omega) (h₁ := hj) hn).1 (by rw [e, ej])
  omega
set_option maxHeartbeats 8000000 in
theorem once_any (ao : Option Addr) (c : Nat) (L : List OpA) (w : World) (hL : OpsA w ao L) (hl : L.length ≤ maxLen) : Calls Try.prog 8 #[.slice ao L.length c] w fun e w' => e = .returned (.bool true) ∧ Below w.heap.size w w' := by
  have BR := Lib.hid (brings_any w)
  obtain ⟨n, hn⟩ : ∃ n, n = L.length := ⟨_, rfl⟩
  rw [← hn]
  by_cases h60 : 60 < n
  · have h60' : (60 : Int) < (n : Int) := by omega
    clear hn
    go_enter Try.func8, Try.ntmps8
    go_wp2_with (with_reducible refine BR.out.mono ?_; rintro e w1 ⟨rfl, hb1⟩)
    go_ret
    exact ⟨rfl, hb1⟩
  have h60' : ¬ (60 : Int) < (n : Int) := by omega
  have HN := Lib.hid hn
  have H1 := Lib.hid hL
  have SK := Lib.hid (show ∀ k : K3, (Try.prog.info? 32).map (·.size) = some (kcs k).toArray.size from fun k => by kernel_rfl)
  have OK := Lib.hid (fun k : K3 => kcs_one k)
  have SL := Lib.hid (fun l : Ls => lsSizeA l)
  have OL := Lib.hid (fun l : Ls => l.oneA)
  have SP := Lib.hid (fun p : OpA => paSizeA p)
  have OP := Lib.hid (fun p : OpA => p.one)
  clear hn hL hl
  go_enter Try.func8, Try.ntmps8
  go_upto_region 6 with (with_reducible refine BR.out.mono ?_; rintro e w1 ⟨rfl, hb1⟩)
  obtain ⟨w2, hw2⟩ : ∃ x, x = w1.alloc (.cells Try.zeroCells70 70) := ⟨_, rfl⟩
  obtain ⟨b, hb⟩ : ∃ x, x = w1.heap.size := ⟨_, rfl⟩
  have X2 := MX.new w1
  rw [← hw2, ← hb] at X2
  rw [← hw2, ← hb]
  have B2 := Lib.hid (hb1.trans (show Below w.heap.size w1 w2 by rw [hw2]; exact (Below.refl _ _).alloc hb1.size _))
  have GL := Lib.hid (show w.heap.size ≤ b by rw [hb]; exact hb1.size)
  have Q2 := Lib.hid (show MX w2 b NoB M0 w2 from X2)
  clear hw2 hb hb1 BR X2
  go_wp2_with fail
  go_loopw [4, 5, 26] (fun nv lv iv wr => onRel w2 b n nv lv iv wr) (fun _ _ iv _ => n - (intOf iv).toNat)
  case atStart => exact ⟨0, M0, 0, 0, by omega, rfl, rfl, rfl, Q2.out, OnI.zero, by decide, by decide⟩
  case round =>
    obtain ⟨wq, rfl⟩ : ∃ wq : World, wq = wr := ⟨_, rfl⟩
    obtain ⟨i, M, now, last, hi, rfl, rfl, rfl, hM, hO, hn0, hn1⟩ := hrel
    by_cases hin : i < n
    · have hin2 : (i : Int) < (n : Int) := by omega
      have h0 : (0 : Int) ≤ (i : Int) := by omega
      obtain ⟨p, hp⟩ : ∃ p, L[i]? = some p := ⟨_, List.getElem?_eq_getElem (by rw [← HN.out]; exact hin)⟩
      obtain ⟨ad, rfl⟩ : ∃ ad, ao = some ad := by
        cases ao with
        | none => rw [H1.out.none rfl] at hp; cases hp
        | some ad => exact ⟨ad, rfl⟩
      have hlow : Below w.heap.size w wq := B2.out.trans (hM.low GL.out B2.out.size)
      have cx := (H1.out.below hlow (Nat.le_refl _)).cell ad rfl i p hp
      have CX : ∀ j v, p.cells[j]? = some v → wq.cell? ((ad.add (i * 7)).add j) = some v := fun j v hv => by
        rw [Go.Deep.add_add]
        exact cx j v hv
      have HG := Lib.hid (H1.out.good p (List.mem_of_getElem? hp))
      obtain ⟨w3, hw3⟩ : ∃ x, x = wq.alloc (.cells p.cells.toArray 75) := ⟨_, rfl⟩
      obtain ⟨g3, hg3⟩ : ∃ x, x = wq.heap.size := ⟨_, rfl⟩
      have n3 : w3.heap[g3]? = some (.cells p.cells.toArray 75 (0, 0)) := by rw [hw3, hg3]; exact heap_alloc_new _ _
      have M3 := hM.box (.cells p.cells.toArray 75)
      rw [← hw3, ← hg3] at M3
      have KF := Lib.hid (fun (W : World) (hW : W.heap[g3]? = some (.cells p.cells.toArray 75 (0, 0))) => show ∀ j v, (kcs p.key)[j]? = some v → W.cell? ((⟨g3, 1, none⟩ : Addr).add j) = some v from by
        intro j v hv
        rw [Addr.add_mid, cell_of_row W g3 (1 + j) _ _ _ hW]
        match j, hv with
        | 0, hv => exact hv
        | 1, hv => exact hv
        | 2, hv => exact hv
        | k + 3, hv => simp [kcs] at hv)
      have KC := Lib.hid (fun (W : World) (hW : W.heap[g3]? = some (.cells p.cells.toArray 75 (0, 0))) => show W.cell? ⟨g3, 0, none⟩ = some (.int .i64 p.kind) ∧ W.cell? ⟨g3, 2, none⟩ = some (.int .i64 p.key.2.1) ∧ W.cell? ⟨g3, 4, none⟩ = some (.int .i64 p.wk) ∧ W.cell? ⟨g3, 5, none⟩ = some (.int .u64 p.tok) ∧ W.cell? ⟨g3, 6, none⟩ = some (.int .i64 p.ticks) from by
        refine ⟨?_, ?_, ?_, ?_, ?_⟩ <;> rw [cell_of_row W g3 _ _ _ _ hW] <;> rfl)
      obtain ⟨c0, c2, c4, c5, c6⟩ := KC.out w3 n3
      have HM3 := Lib.hid M3
      have N3 := Lib.hid n3
      have HW3 := Lib.hid hw3
      have HG3 := Lib.hid hg3
      have HO := Lib.hid hO
      obtain ⟨nw, hnw⟩ : ∃ nw, nw = now + (if 0 < (if 100 < p.ticks then 100 else p.ticks) then (if 100 < p.ticks then 100 else p.ticks) else 0) := ⟨_, rfl⟩
      have hb : ∀ z : Int, 0 ≤ (if 0 < (if 100 < z then 100 else z) then (if 100 < z then 100 else z) else 0) ∧ (if 0 < (if 100 < z then 100 else z) then (if 100 < z then 100 else z) else 0) ≤ 100 := by
        intro z
        split
        · split <;> omega
        · omega
      have hT := hb p.ticks
      have hw0 : 0 ≤ nw := by omega
      have hw1 : nw ≤ 100 * ((i : Int) + 1) := by omega
      have HNW := Lib.hid hnw
      have HTT := Lib.hid hT
      clear hM cx hp hw3 hg3 n3 M3 hO hlow hnw hb
      go_upto_region 10 with (first
        | ((with_reducible show wpList _ _ _ _ _ _); refine wpList_load_allW rfl 75 (.tmp 28) rfl (ad.add (i * 7)) rfl p.cells _ CX Try.underlying75 rfl (paSize _) ?_)
        | ((with_reducible show wpList _ _ _ _ _ _); refine wpList_store_newW rfl 75 (.tmp 7) (.tmp 29) rfl 75 _ p.cells.toArray (by with_unfolding_all rfl) (by with_unfolding_all rfl) (SP.out p) rfl (OP.out p) ?_))
      rw [← HW3.out, ← HG3.out]
      simp only [Act.put, List.setIfInBounds_toArray, List.set_cons_zero, List.set_cons_succ, List.getElem_toArray, List.getElem_cons_zero, List.getElem_cons_succ]
      obtain ⟨hT1, hT2⟩ := hT
      go_upto_region 11 with fail
      rw [← HNW.out]
      obtain ⟨v34, hv34⟩ : ∃ v : Int, v = (if 0 < (if 100 < p.ticks then 100 else p.ticks) then (if 100 < p.ticks then 100 else p.ticks) else 0) := ⟨_, rfl⟩
      obtain ⟨v33, hv33⟩ : ∃ v : Int, v = (if 100 < p.ticks then 100 else p.ticks) := ⟨_, rfl⟩
      rw [← hv34, ← hv33]
      clear hT1 hT2 hn0 hn1 c6 hv34 hv33
      have wfN : i64wf nw := WalkArith.wf_i64 ⟨by omega, by omega⟩
      obtain ⟨kd, hkd⟩ : ∃ kd, kd = p.kind := ⟨_, rfl⟩
      rw [← hkd] at c0
      obtain ⟨wk, hwk⟩ : ∃ wk, wk = p.wk := ⟨_, rfl⟩
      rw [← hwk] at c4
      obtain ⟨kn, hkn⟩ : ∃ kn, kn = p.key.2.1 := ⟨_, rfl⟩
      rw [← hkn] at c2
      obtain ⟨tok, htok⟩ : ∃ tok, tok = p.tok := ⟨_, rfl⟩
      rw [← htok] at c5
      have KC2 := Lib.hid (fun (W : World) (hW : W.heap[g3]? = some (.cells p.cells.toArray 75 (0, 0))) => show W.cell? ⟨g3, 4, none⟩ = some (.int .i64 wk) ∧ W.cell? ⟨g3, 2, none⟩ = some (.int .i64 kn) from by rw [hwk, hkn]; exact ⟨(KC.out W hW).2.2.1, (KC.out W hW).2.1⟩)
      have HKD := Lib.hid (And.intro hkd (And.intro hwk (And.intro hkn htok)))
      clear hkd hwk hkn htok
      go_upto_block 2 with fail
      go_cut [5] (fun lv wx => swRelO w2 b i lv wx)
      case first =>
        obtain ⟨hk1, hk2, hk3, hk4⟩ := HKD.out
        have HKQ := Lib.hid (And.intro hk1 (And.intro hk2 (And.intro hk3 hk4)))
        have hfew := HO.out.few
        clear hk1 hk2 hk3 hk4
        obtain rfl | rfl | rfl | rfl | rfl | ⟨n0, n1, n2, n3, n4⟩ : kd = 0 ∨ kd = 1 ∨ kd = 3 ∨ kd = 4 ∨ kd = 5 ∨ (¬ kd = 0 ∧ ¬ kd = 1 ∧ ¬ kd = 3 ∧ ¬ kd = 4 ∧ ¬ kd = 5) := by omega
        · as_aux_lemma =>
          have KT := KF.out w3 N3.out
          have AD := Lib.hid (mx_add HM3.out p.key HG.out.2.1 wk nw wfN (by omega))
          clear hfew
          go_wp2_with (first
            | ((with_reducible show wpList _ _ _ _ _ _); refine wpList_load_allW rfl 32 (.tmp 40) rfl ⟨g3, 1, none⟩ rfl (kcs p.key) _ KT Try.underlying32 rfl (tkSize _) ?_)
            | ((with_reducible refine AD.out.mono ?_); rintro e w5 ⟨rfl, hx5, hk5⟩; have X5 := Lib.hid hx5))
          go_meet
          exact ⟨_, _, rfl, X5.out.less (fun q hq => hq.elim), (HO.out.ad p.key wk nw).more⟩
        · as_aux_lemma =>
          have PO := Lib.hid (mx_poll HM3.out wk kn nw (by omega) HO.out.giv.1 (by have := HO.out.giv.2; omega) (by omega) (by omega))
          have hWF := fun (j : Nat) (hj : j < 65) => HM3.out.wf hj
          by_cases hpe : M.plE wk kn = 0
          · obtain ⟨hO2, hl1, hl2, hl3, hl4⟩ := HO.out.pl (fun j hj x hx => hWF j hj x hx) wk kn nw hpe
            obtain ⟨LL, hLL⟩ : ∃ LL, LL = M.plL wk kn nw := ⟨_, rfl⟩
            rw [← hLL] at PO hl1 hl2 hl3 hl4
            rw [hpe] at PO
            obtain ⟨MP, hMP⟩ : ∃ MP, MP = M.pl wk kn nw := ⟨_, rfl⟩
            rw [← hMP] at PO hO2
            obtain ⟨gv, hgv⟩ : ∃ gv, gv = M.giv + 1 := ⟨_, rfl⟩
            rw [← hgv] at hl1 hO2
            have hlast : ¬ gv ≤ last := by have := HO.out.lst.2; omega
            have HO2 := Lib.hid hO2
            have HLF := Lib.hid (And.intro hl1 (And.intro hl2 (And.intro hl3 hl4)))
            clear hO2 hl1 hl2 hl3 hl4 hLL hpe hMP hWF hfew hgv
            go_upto_region 16 with (first
              | ((with_reducible refine PO.out.mono ?_); rintro e w5 ⟨rfl, hx5, hk5⟩)
              | ((with_reducible show wpList _ _ _ _ _ _); refine wpList_store_newW rfl 80 (.tmp 8) (.tmp 56) rfl 80 _ LL.cs.toArray (by with_unfolding_all rfl) (by with_unfolding_all rfl) (SL.out LL) rfl (OL.out LL) ?_))
            obtain ⟨w6, hw6⟩ : ∃ x, x = w5.alloc (.cells LL.cs.toArray 80) := ⟨_, rfl⟩
            obtain ⟨g6, hg6⟩ : ∃ x, x = w5.heap.size := ⟨_, rfl⟩
            have b6 : Below w5.heap.size w5 w6 := by rw [hw6]; exact (Below.refl _ _).alloc (Nat.le_refl _) _
            have n6 : w6.heap[g6]? = some (.cells LL.cs.toArray 80 (0, 0)) := by rw [hw6, hg6]; exact heap_alloc_new _ _
            have n3' := (hk5.keep g3 (.inr rfl)).trans N3.out
            obtain ⟨d4, d2⟩ := KC2.out w6 ((b6.block g3 (lt_of_rowK n3')).trans n3')
            obtain ⟨hl1, hl2, hl3, hl4⟩ := HLF.out
            have f0 : w6.cell? ⟨g6, 0, none⟩ = some (.int .u64 gv) := by rw [cell_of_row w6 g6 0 _ _ _ n6, ← hl1]; rfl
            have f4 : w6.cell? ⟨g6, 4, none⟩ = some (.int .i64 wk) := by rw [cell_of_row w6 g6 4 _ _ _ n6, ← hl2]; rfl
            have f2 : w6.cell? ⟨g6, 2, none⟩ = some (.int .i64 kn) := by rw [cell_of_row w6 g6 2 _ _ _ n6, ← hl3]; rfl
            have f5 : w6.cell? ⟨g6, 5, none⟩ = some (.int .i64 (nw + 20)) := by rw [cell_of_row w6 g6 5 _ _ _ n6, ← hl4]; rfl
            have X6 := Lib.hid (hx5.below b6).1
            rw [← hw6, ← hg6]
            clear hl1 hl2 hl3 hl4 n6 b6 n3' hw6 hg6 hx5 hk5
            go_wp2_with fail
            go_meet
            exact ⟨_, _, rfl, X6.out.less (fun q hq => hq.elim), HO2.out⟩
          · have e1 := MM.pl_no (now := nw) hpe
            rw [e1.1, e1.2] at PO
            obtain ⟨e0, he0⟩ : ∃ e0, e0 = M.plE wk kn := ⟨_, rfl⟩
            rw [← he0] at PO hpe
            clear hWF hfew e1 he0
            go_wp2_with (first
              | ((with_reducible refine PO.out.mono ?_); rintro e w5 ⟨rfl, hx5, hk5⟩; have X5 := Lib.hid hx5)
              | ((with_reducible show wpList _ _ _ _ _ _); refine wpList_store_newW rfl 80 (.tmp 8) (.tmp 56) rfl 80 _ l0.cs.toArray (by with_unfolding_all rfl) (by with_unfolding_all rfl) (SL.out l0) rfl (OL.out l0) ?_))
            go_meet
            exact ⟨_, _, rfl, (X5.out.below ((Below.refl _ _).alloc (Nat.le_refl _) _)).1.less (fun q hq => hq.elim), HO.out.more⟩
        · as_aux_lemma =>
          have DN := Lib.hid (mx_done HM3.out tok (by omega))
          clear hfew
          go_wp2_with (first
            | ((with_reducible refine DN.out.mono ?_); rintro e w5 ⟨rfl, hx5, hk5⟩; have X5 := Lib.hid hx5))
          go_meet
          exact ⟨_, _, rfl, X5.out.less (fun q hq => hq.elim), (HO.out.dn tok).more⟩
        · as_aux_lemma =>
          have EX := Lib.hid (mx_expire HM3.out nw wfN (by omega))
          obtain ⟨F, hF⟩ : ∃ F, F = M.E.filter fun l => decide (l.til ≤ nw) := ⟨_, rfl⟩
          rw [← hF] at EX
          have KN := Lib.hid (show ∀ l ∈ F, l.til ≤ nw ∧ wf3 l.key ∧ (M.ex nw).kn l.key = false from fun l hl => by
            have hl2 := hl
            rw [hF] at hl2
            have h3 := List.mem_filter.1 hl2
            refine ⟨by simpa using h3.2, HO.out.wf l h3.1, ended_kn (p := fun l => decide (l.til ≤ nw)) HO.out.one (fun x => Nat.le_of_eq (ex_ct HO.out.one nw x)) (by unfold MM.ex MM.l; dsimp only) hl2⟩)
          have HOX := Lib.hid (HO.out.ex nw)
          obtain ⟨MX1, hMX1⟩ : ∃ MX1, MX1 = M.ex nw := ⟨_, rfl⟩
          rw [← hMX1] at EX KN HOX
          have hxf := HOX.out.few
          obtain ⟨m, hm⟩ : ∃ m, m = F.length := ⟨_, rfl⟩
          have hm60 : m ≤ 60 := by
            rw [hm, hF]
            have := List.length_filter_le (fun l => decide (l.til ≤ nw)) M.E
            omega
          rw [← hm] at EX
          have HM := Lib.hid hm
          clear hF hMX1 hfew hm
          go_wp2_with (first
            | ((with_reducible refine EX.out.mono ?_); rintro e w5 ⟨a5, c5', rfl, hr5, hx5, hk5⟩; have X5 := Lib.hid hx5; have R5 := Lib.hid hr5; clear hx5 hr5 hk5))
          go_loopw [99] (fun iv wr => eeRel w5 m iv wr) (fun iv _ => m - (intOf iv).toNat)
          case atStart => exact ⟨0, Nat.zero_le _, rfl, Below.refl _ _⟩
          case round =>
            obtain ⟨wp, rfl⟩ : ∃ wp : World, wp = wr := ⟨_, rfl⟩
            obtain ⟨j, hj, rfl, hbp⟩ := hrel
            by_cases hjm : j < m
            · have hjl : j < F.length := by rw [← HM.out]; exact hjm
              obtain ⟨l, hl⟩ : ∃ l, F[j]? = some l := ⟨_, List.getElem?_eq_getElem hjl⟩
              obtain ⟨k1, k2, k3⟩ := KN.out l (List.mem_of_getElem? hl)
              obtain ⟨gp, hgp, _, hglt, _⟩ := own_cellK (show w5.ownsRow _ 80 6 (.slice a5 m c5') m (lss F) from by rw [HM.out]; exact R5.out) (lss_at F j l hl 0 _ rfl)
              subst hgp
              have KX : ∀ q v, l.cs[q]? = some v → wp.cell? ((⟨gp, j * 6, none⟩ : Addr).add q) = some v := by
                intro q v hq
                obtain ⟨g2, e2, _, hlt, hc⟩ := own_cellK (show w5.ownsRow _ 80 6 (.slice (some ⟨gp, 0, none⟩) m c5') m (lss F) from by rw [HM.out]; exact R5.out) (lss_at F j l hl q v hq)
                injection e2 with e2
                injection e2 with e2
                subst e2
                rw [Addr.add_mid, hbp.cell hlt]
                exact hc
              obtain ⟨w8, hw8⟩ : ∃ w8, w8 = wp.alloc (.cells l.cs.toArray 80) := ⟨_, rfl⟩
              obtain ⟨g8, hg8⟩ : ∃ g, g = wp.heap.size := ⟨_, rfl⟩
              have b8 : Below wp.heap.size wp w8 := by rw [hw8]; exact (Below.refl _ _).alloc (Nat.le_refl _) _
              have n8 : w8.heap[g8]? = some (.cells l.cs.toArray 80 (0, 0)) := by rw [hw8, hg8]; exact heap_alloc_new _ _
              have f5 : w8.cell? ⟨g8, 5, none⟩ = some (.int .i64 l.til) := by rw [cell_of_row w8 g8 5 _ _ _ n8]; rfl
              have KT8 : ∀ q v, (kcs l.key)[q]? = some v → w8.cell? ((⟨g8, 1, none⟩ : Addr).add q) = some v := fun q v hq => by
                rw [Addr.add_mid, cell_of_row w8 g8 (1 + q) _ _ _ n8]
                match q, hq with
                | 0, hq => exact hq
                | 1, hq => exact hq
                | 2, hq => exact hq
                | q + 3, hq => simp [kcs] at hq
              have B8 := Lib.hid (hbp.trans (b8.mono hbp.size))
              have KNl := Lib.hid (mx_knownB (X5.out.below B8.out).1 l.key k2 (by omega))
              rw [k3] at KNl
              have HW8 := Lib.hid hw8
              have HG8 := Lib.hid hg8
              have hj2 : (j : Int) < (m : Int) := by omega
              have hj0 : (0 : Int) ≤ (j : Int) := by omega
              have ht : ¬ nw < l.til := by omega
              clear hbp b8 n8 hw8 hg8 hl hglt
              go_upto_region 26 with (first
                | ((with_reducible show wpList _ _ _ _ _ _); refine wpList_load_allW rfl 80 (.tmp 101) rfl ⟨gp, j * 6, none⟩ rfl l.cs _ KX Try.underlying80 rfl (lsSize _) ?_)
                | ((with_reducible show wpList _ _ _ _ _ _); refine wpList_store_newW rfl 80 (.tmp 11) (.tmp 102) rfl 80 _ l.cs.toArray (by with_unfolding_all rfl) (by with_unfolding_all rfl) (SL.out l) rfl (OL.out l) ?_))
              rw [← HW8.out, ← HG8.out]
              simp only [Act.put, List.setIfInBounds_toArray, List.set_cons_zero, List.set_cons_succ, List.getElem_toArray, List.getElem_cons_zero, List.getElem_cons_succ]
              go_wp2_with (first
                | ((with_reducible show wpList _ _ _ _ _ _); refine wpList_loadWanted (by kernel_rfl) 32 (.tmp 108) rfl ⟨g8, 1, none⟩ rfl (kcs l.key) _ KT8 Try.underlying32 rfl (tkSize _) ?_)
                | ((with_reducible refine KNl.out.mono ?_); rintro e w9 ⟨rfl, hb9⟩; have B9 := Lib.hid (B8.out.trans (hb9.mono B8.out.size))))
              exact ⟨⟨j + 1, by omega, rfl, B9.out⟩, by simp [intOf]; omega⟩
            · have hj2 : ¬ (j : Int) < (m : Int) := by omega
              have X9 := Lib.hid ((X5.out.below hbp).1.less (X' := NoB) (fun q hq => hq.elim))
              clear hbp hj
              go_wp2_with fail
              go_meet
              exact ⟨_, _, rfl, X9.out, HOX.out.more⟩
        · as_aux_lemma =>
          have EX := Lib.hid (mx_lose HM3.out wk nw wfN (by omega))
          obtain ⟨F, hF⟩ : ∃ F, F = M.loL wk := ⟨_, rfl⟩
          rw [← hF] at EX
          have KN := Lib.hid (show ∀ l ∈ F, l.wk = wk ∧ wf3 l.key ∧ (M.lo wk nw).kn l.key = false from fun l hl => by
            have hl2 := hl
            rw [hF] at hl2
            unfold MM.loL at hl2
            by_cases hi : isW wk = true
            · rw [if_pos hi] at hl2
              have h3 := List.mem_filter.1 hl2
              refine ⟨by simpa using h3.2, HO.out.wf l h3.1, ended_kn (p := fun l => decide (l.wk = wk)) HO.out.one (fun x => lo_ct HO.out.one wk nw x) (by unfold MM.lo MM.l; rw [if_pos hi]) hl2⟩
            · rw [if_neg hi] at hl2
              cases hl2)
          have HOX := Lib.hid (HO.out.lo wk nw)
          obtain ⟨MX1, hMX1⟩ : ∃ MX1, MX1 = M.lo wk nw := ⟨_, rfl⟩
          rw [← hMX1] at EX KN HOX
          have hxf := HOX.out.few
          obtain ⟨m, hm⟩ : ∃ m, m = F.length := ⟨_, rfl⟩
          have hm60 : m ≤ 60 := by
            rw [hm, hF]
            unfold MM.loL
            split
            · have := List.length_filter_le (fun l => decide (l.wk = wk)) M.E
              omega
            · exact Nat.zero_le _
          rw [← hm] at EX
          have HM := Lib.hid hm
          clear hF hMX1 hfew hm
          go_wp2_with (first
            | ((with_reducible refine EX.out.mono ?_); rintro e w5 ⟨a5, c5', rfl, hr5, hx5, hk5⟩; have X5 := Lib.hid hx5; have R5 := Lib.hid hr5; have N5 := Lib.hid ((hk5.keep g3 (.inr rfl)).trans N3.out); clear hx5 hr5 hk5))
          go_loopw [120] (fun iv wr => eeRel w5 m iv wr) (fun iv _ => m - (intOf iv).toNat)
          case atStart => exact ⟨0, Nat.zero_le _, rfl, Below.refl _ _⟩
          case round =>
            obtain ⟨wp, rfl⟩ : ∃ wp : World, wp = wr := ⟨_, rfl⟩
            obtain ⟨j, hj, rfl, hbp⟩ := hrel
            by_cases hjm : j < m
            · have hjl : j < F.length := by rw [← HM.out]; exact hjm
              obtain ⟨l, hl⟩ : ∃ l, F[j]? = some l := ⟨_, List.getElem?_eq_getElem hjl⟩
              obtain ⟨k1, k2, k3⟩ := KN.out l (List.mem_of_getElem? hl)
              obtain ⟨gp, hgp, _, hglt, _⟩ := own_cellK (show w5.ownsRow _ 80 6 (.slice a5 m c5') m (lss F) from by rw [HM.out]; exact R5.out) (lss_at F j l hl 0 _ rfl)
              subst hgp
              have KX : ∀ q v, l.cs[q]? = some v → wp.cell? ((⟨gp, j * 6, none⟩ : Addr).add q) = some v := by
                intro q v hq
                obtain ⟨g2, e2, _, hlt, hc⟩ := own_cellK (show w5.ownsRow _ 80 6 (.slice (some ⟨gp, 0, none⟩) m c5') m (lss F) from by rw [HM.out]; exact R5.out) (lss_at F j l hl q v hq)
                injection e2 with e2
                injection e2 with e2
                subst e2
                rw [Addr.add_mid, hbp.cell hlt]
                exact hc
              have nP := (hbp.block g3 (lt_of_rowK N5.out)).trans N5.out
              obtain ⟨w8, hw8⟩ : ∃ w8, w8 = wp.alloc (.cells l.cs.toArray 80) := ⟨_, rfl⟩
              obtain ⟨g8, hg8⟩ : ∃ g, g = wp.heap.size := ⟨_, rfl⟩
              have b8 : Below wp.heap.size wp w8 := by rw [hw8]; exact (Below.refl _ _).alloc (Nat.le_refl _) _
              have n8 : w8.heap[g8]? = some (.cells l.cs.toArray 80 (0, 0)) := by rw [hw8, hg8]; exact heap_alloc_new _ _
              have f4 : w8.cell? ⟨g8, 4, none⟩ = some (.int .i64 wk) := by rw [cell_of_row w8 g8 4 _ _ _ n8, ← k1]; rfl
              have c4' := (KC2.out w8 ((b8.block g3 (lt_of_rowK nP)).trans nP)).1
              have KT8 : ∀ q v, (kcs l.key)[q]? = some v → w8.cell? ((⟨g8, 1, none⟩ : Addr).add q) = some v := fun q v hq => by
                rw [Addr.add_mid, cell_of_row w8 g8 (1 + q) _ _ _ n8]
                match q, hq with
                | 0, hq => exact hq
                | 1, hq => exact hq
                | 2, hq => exact hq
                | q + 3, hq => simp [kcs] at hq
              have B8 := Lib.hid (hbp.trans (b8.mono hbp.size))
              have KNl := Lib.hid (mx_knownB (X5.out.below B8.out).1 l.key k2 (by omega))
              rw [k3] at KNl
              have HW8 := Lib.hid hw8
              have HG8 := Lib.hid hg8
              have hj2 : (j : Int) < (m : Int) := by omega
              have hj0 : (0 : Int) ≤ (j : Int) := by omega
              clear hbp b8 n8 hw8 hg8 hl hglt nP
              go_upto_region 33 with (first
                | ((with_reducible show wpList _ _ _ _ _ _); refine wpList_load_allW rfl 80 (.tmp 122) rfl ⟨gp, j * 6, none⟩ rfl l.cs _ KX Try.underlying80 rfl (lsSize _) ?_)
                | ((with_reducible show wpList _ _ _ _ _ _); refine wpList_store_newW rfl 80 (.tmp 13) (.tmp 123) rfl 80 _ l.cs.toArray (by with_unfolding_all rfl) (by with_unfolding_all rfl) (SL.out l) rfl (OL.out l) ?_))
              rw [← HW8.out, ← HG8.out]
              simp only [Act.put, List.setIfInBounds_toArray, List.set_cons_zero, List.set_cons_succ, List.getElem_toArray, List.getElem_cons_zero, List.getElem_cons_succ]
              go_wp2_with (first
                | ((with_reducible show wpList _ _ _ _ _ _); refine wpList_loadWanted (by kernel_rfl) 32 (.tmp 130) rfl ⟨g8, 1, none⟩ rfl (kcs l.key) _ KT8 Try.underlying32 rfl (tkSize _) ?_)
                | ((with_reducible refine KNl.out.mono ?_); rintro e w9 ⟨rfl, hb9⟩; have B9 := Lib.hid (B8.out.trans (hb9.mono B8.out.size))))
              exact ⟨⟨j + 1, by omega, rfl, B9.out⟩, by simp [intOf]; omega⟩
            · have hj2 : ¬ (j : Int) < (m : Int) := by omega
              have X9 := Lib.hid ((X5.out.below hbp).1.less (X' := NoB) (fun q hq => hq.elim))
              clear hbp hj
              go_wp2_with fail
              go_meet
              exact ⟨_, _, rfl, X9.out, HOX.out.more⟩
        · as_aux_lemma =>
          clear hfew
          go_wp2_with fail
          go_meet
          exact ⟨_, _, rfl, HM3.out.less (fun q hq => hq.elim), HO.out.more⟩
      case rest =>
        as_aux_lemma =>
        obtain ⟨M1, last1, rfl, hX1, hO1⟩ := hcut
        have hfw := hO1.few
        have hge := hO1.one
        obtain ⟨gm, hgm⟩ : ∃ g, g = wc.heap.size := ⟨_, rfl⟩
        obtain ⟨w6, hw6⟩ : ∃ x, x = wc.alloc (.map #[] 0) := ⟨_, rfl⟩
        have hX6 := (hX1.box (.map #[] 0)).less (X' := fun q => q = gm) (fun q hq => .inr (by rw [hq, hgm]))
        rw [← hw6] at hX6
        have T6 := Lib.hid (show TMap w6 gm 0 (fun _ => false) from by rw [hw6, hgm]; exact TMap.made wc)
        have GM := Lib.hid (show w2.heap.size ≤ gm from by rw [hgm]; exact hX1.m.1.size)
        have WT := Lib.hid (mx_waiting hX6)
        have hoa := one_all hge
        have hl8 : M1.wt.length ≤ 8320 := by
          obtain ⟨T', hM', _⟩ := hX1.step
          exact wtK_len (fun k hk => hM'.few hk) 65 (Nat.le_refl _)
        have hknw : ∀ k ∈ M1.wt, M1.kn k = true := fun k hk => kn_wt hk
        have hwfw : ∀ k ∈ M1.wt, wf3 k := fun k hk => by
          unfold MM.wt at hk
          obtain ⟨j, hj, hk⟩ := (wtK_mem 65).1 hk
          obtain ⟨x, hx, rfl⟩ := List.mem_map.1 hk
          exact (hX1.wf hj x hx).1
        obtain ⟨Lw, hLw⟩ : ∃ L, L = M1.wt := ⟨_, rfl⟩
        rw [← hLw] at WT hoa hl8 hknw hwfw
        clear hLw
        obtain ⟨K, hK⟩ : ∃ K, K = Lw ++ M1.E.map Ls.key := ⟨_, rfl⟩
        have KN := Lib.hid (show K.Nodup from by rw [hK]; exact hoa)
        obtain ⟨m, hm⟩ : ∃ m, m = Lw.length := ⟨_, rfl⟩
        have hmK : ∀ j k, Lw[j]? = some k → K[j]? = some k := fun j k h => by
          rw [hK, List.getElem?_append_left (List.getElem?_eq_some_iff.1 h).1]
          exact h
        have hm8 : m ≤ 8320 := by rw [hm]; exact hl8
        have WFW := Lib.hid hwfw
        have KNW := Lib.hid hknw
        rw [← hm] at WT
        have HM := Lib.hid hm
        have HMK := Lib.hid hmK
        have HK := Lib.hid hK
        have HO1 := Lib.hid hO1
        have HGM := Lib.hid hgm
        have HW6 := Lib.hid hw6
        clear hX1 hO1 hge hX6 hgm hw6 hm hmK hK hoa hl8 hknw hwfw HO HM3 N3 KF KC KC2 HKD c0 c2 c4 c5
        have MK : (Instr.makeMap 97 none).run Try.prog wc = .ok (.map (some gm)) w6 := by rw [HW6.out, HGM.out]; rfl
        go_wp2_with (first
          | ((with_reducible refine WT.out.mono ?_); rintro e w7 ⟨a7, c7, rfl, hr7, hb7, hx7, hk7⟩; have X7 := Lib.hid hx7; have R7 := Lib.hid hr7; have T7 := Lib.hid (T6.out.keep (hk7.keep gm rfl)); have L7 := Lib.hid hb7.size; clear hr7 hb7 hx7 hk7))
        go_loopw [138] (fun iv wr => seRel w2 b M1 gm w7 K 0 m iv wr) (fun iv _ => m - (intOf iv).toNat)
        case atStart => exact ⟨0, 0, _, Nat.zero_le _, rfl, X7.out, T7.out, Nat.le_refl _, (fun x => by simp), Frm.refl _ _⟩
        case round =>
          obtain ⟨wp, rfl⟩ : ∃ wp : World, wp = wr := ⟨_, rfl⟩
          obtain ⟨j, cnt, S, hj, rfl, hXp, hTp, hcnt, hS, hFp⟩ := hrel
          rw [Nat.zero_add] at hcnt hS
          by_cases hjm : j < m
          · obtain ⟨k, hk⟩ : ∃ k, Lw[j]? = some k := ⟨_, List.getElem?_eq_getElem (by rw [← HM.out]; exact hjm)⟩
            have hkw := WFW.out k (List.mem_of_getElem? hk)
            have hkK := HMK.out j k hk
            have hSk : S k = false := by
              cases h : S k with
              | false => rfl
              | true => exact absurd ((hS k).1 h) (not_take KN.out hkK)
            obtain ⟨gp, hgp, hge, hglt, _⟩ := own_cellK R7.out (kss_at _ j k hk 0 _ rfl)
            subst hgp
            have gpn : gp ≠ gm := fun e => by
              have h1 := T6.out.lt
              omega
            have KX : ∀ q v, (kcs k)[q]? = some v → wp.cell? ((⟨gp, j * 3, none⟩ : Addr).add q) = some v := by
              intro q v hq
              obtain ⟨g2, e2, _, hlt, hc⟩ := own_cellK R7.out (kss_at _ j k hk q v hq)
              injection e2 with e2
              injection e2 with e2
              subst e2
              rw [Addr.add_mid, World.cell?_of_block (w := w7) (a := ⟨gp, j * 3 + q, none⟩) (hFp.block gp hlt gpn)]
              exact hc
            obtain ⟨w8, hw8⟩ : ∃ w8, w8 = wp.alloc (.cells (kcs k).toArray 32) := ⟨_, rfl⟩
            obtain ⟨g8, hg8⟩ : ∃ g, g = wp.heap.size := ⟨_, rfl⟩
            have b8 : Below wp.heap.size wp w8 := by rw [hw8]; exact (Below.refl _ _).alloc (Nat.le_refl _) _
            have n8 : w8.heap[g8]? = some (.cells (kcs k).toArray 32 (0, 0)) := by rw [hw8, hg8]; exact heap_alloc_new _ _
            have X8 := (hXp.below b8).1
            have T8 := hTp.keep (b8.block gm hTp.lt)
            have KT8 := box_at n8
            have F8 := Lib.hid (hFp.thenBelow b8 (Nat.le_refl _))
            have HX8 := Lib.hid X8
            have HT8 := Lib.hid T8
            have KNl := Lib.hid (mx_knownB X8 k hkw (by omega))
            rw [KNW.out k (List.mem_of_getElem? hk)] at KNl
            have N8 := Lib.hid n8
            have HW8 := Lib.hid hw8
            have HG8 := Lib.hid hg8
            have HSS := Lib.hid hS
            have HKK := Lib.hid hkK
            have hkf := hkw
            have hj2 : (j : Int) < (m : Int) := by omega
            have hj0 : (0 : Int) ≤ (j : Int) := by omega
            have HSK := Lib.hid hSk
            clear hXp hTp hS hFp b8 n8 X8 T8 hk hw8 hg8 hglt hge gpn hkK hSk
            go_upto_region 40 with (first
              | ((with_reducible show wpList _ _ _ _ _ _); refine wpList_load_allW rfl 32 (.tmp 140) rfl ⟨gp, j * 3, none⟩ rfl (kcs k) _ KX Try.underlying32 rfl (tkSize _) ?_)
              | ((with_reducible show wpList _ _ _ _ _ _); refine wpList_store_newW rfl 32 (.tmp 16) (.tmp 141) rfl 32 _ (kcs k).toArray (by with_unfolding_all rfl) (by with_unfolding_all rfl) (SK.out k) rfl (OK.out k) ?_))
            rw [← HW8.out, ← HG8.out]
            simp only [Act.put, List.setIfInBounds_toArray, List.set_cons_zero, List.set_cons_succ, List.getElem_toArray, List.getElem_cons_zero, List.getElem_cons_succ]
            go_upto_region 42 with (first
              | ((with_reducible show wpList _ _ _ _ _ _); refine wpList_loadWanted (by kernel_rfl) 32 (.tmp 16) rfl ⟨g8, 0, none⟩ rfl (kcs k) _ KT8 Try.underlying32 rfl (tkSize _) ?_)
              | ((with_reducible show wpList _ _ _ _ _ _); refine wpList_lookT (by kernel_rfl) (.tmp 142) (.tmp 143) rfl (by with_unfolding_all rfl) HT8.out (by with_unfolding_all rfl) hkf ?_; rw [HSK.out])
              | ((with_reducible refine KNl.out.mono ?_); rintro e w9 ⟨rfl, hb9⟩))
            have X9 := (HX8.out.below hb9).1
            have T9 := HT8.out.keep (hb9.block gm HT8.out.lt)
            have KT9 := box_at ((hb9.block g8 (lt_of_rowK N8.out)).trans N8.out)
            have F9 := Lib.hid (F8.out.thenBelow hb9 (Nat.le_refl _))
            have HX9 := Lib.hid X9
            have HT9 := Lib.hid T9
            have LM := Lib.hid (show cnt < maxLen by unfold maxLen; omega)
            clear hb9 X9 T9
            go_upto_region 43 with (first
              | ((with_reducible show wpList _ _ _ _ _ _); refine wpList_loadWanted (by kernel_rfl) 32 (.tmp 16) rfl ⟨g8, 0, none⟩ rfl (kcs k) _ KT9 Try.underlying32 rfl (tkSize _) ?_)
              | ((with_reducible show wpList _ _ _ _ _ _); refine wpList_putT rfl (.tmp 150) (.tmp 151) _ rfl (by with_unfolding_all rfl) HT9.out LM.out (by with_unfolding_all rfl) hkf (b := true) (by with_unfolding_all rfl) ?_))
            intro wa hTa hta
            have hXa := HX9.out.turned hta rfl GM.out
            have RL := Lib.hid (show seRel w2 b M1 gm w7 K 0 m (.int .i64 ((j + 1 : Nat) : Int)) wa from ⟨j + 1, cnt + 1, _, by omega, rfl, hXa.1, hTa, by omega, (fun x => by
              rw [Nat.zero_add, take_succ_mem HKK.out x]
              by_cases hx : x = k
              · simp [hx]
              · simp only [if_neg hx, hx, false_or]
                exact HSS.out x), F9.out.trans hXa.2⟩)
            have ML := Lib.hid (show m - (j + 1) < m - j by omega)
            clear hTa hta hXa
            go_wp2_with fail
            exact ⟨RL.out, by simp [intOf]; exact ML.out⟩
          · have hj2 : ¬ (j : Int) < (m : Int) := by omega
            obtain rfl : j = m := by omega
            have LE := Lib.hid (mx_leases hXp (by omega))
            obtain ⟨m2, hm2⟩ : ∃ m2, m2 = M1.E.length := ⟨_, rfl⟩
            rw [← hm2] at LE hfw
            have HXp := Lib.hid hXp
            have HTp := Lib.hid hTp
            have HSS := Lib.hid hS
            have HM2 := Lib.hid hm2
            clear hXp hTp hS hFp hm2 X7 T7 R7 WT T6 hj hjm
            go_wp2_with (first
              | ((with_reducible refine LE.out.mono ?_); rintro e wl ⟨al, cl, rfl, hrl, hbl, hxl, hkl⟩; have XL := Lib.hid hxl; have RLw := Lib.hid hrl; have TL := Lib.hid (HTp.out.keep (hkl.keep gm rfl)); have HTL := Lib.hid HTp.out.lt; clear hrl hbl hxl hkl))
            go_loopw [155] (fun iv wr => seRel w2 b M1 gm wl K j m2 iv wr) (fun iv _ => m2 - (intOf iv).toNat)
            case atStart => exact ⟨0, cnt, S, Nat.zero_le _, rfl, XL.out, TL.out, by omega, (fun x => HSS.out x), Frm.refl _ _⟩
            case round =>
              obtain ⟨wt, rfl⟩ : ∃ wt : World, wt = wr := ⟨_, rfl⟩
              obtain ⟨q, cnt2, S2, hq, rfl, hXt, hTt, hcnt2, hS2, hFt⟩ := hrel
              by_cases hqm : q < m2
              · obtain ⟨l, hl⟩ : ∃ l, M1.E[q]? = some l := ⟨_, List.getElem?_eq_getElem (by rw [← HM2.out]; exact hqm)⟩
                have hlm := List.mem_of_getElem? hl
                have hkw := HO1.out.wf l hlm
                have hkK : K[j + q]? = some l.key := by
                  rw [HK.out, List.getElem?_append_right (by rw [← HM.out]; omega), ← HM.out, show j + q - j = q by omega, List.getElem?_map, hl]
                  rfl
                have hSk : S2 l.key = false := by
                  cases h : S2 l.key with
                  | false => rfl
                  | true => exact absurd ((hS2 l.key).1 h) (not_take KN.out hkK)
                obtain ⟨gp, hgp, hge, hglt, _⟩ := own_cellK (show wl.ownsRow _ 80 6 (.slice al m2 cl) m2 (lss M1.E) from by rw [HM2.out]; exact RLw.out) (lss_at _ q l hl 0 _ rfl)
                subst hgp
                have gpn : gp ≠ gm := fun e => by
                  have h1 := HTL.out
                  omega
                have KX : ∀ r v, l.cs[r]? = some v → wt.cell? ((⟨gp, q * 6, none⟩ : Addr).add r) = some v := by
                  intro r v hr
                  obtain ⟨g2, e2, _, hlt, hc⟩ := own_cellK (show wl.ownsRow _ 80 6 (.slice (some ⟨gp, 0, none⟩) m2 cl) m2 (lss M1.E) from by rw [HM2.out]; exact RLw.out) (lss_at _ q l hl r v hr)
                  injection e2 with e2
                  injection e2 with e2
                  subst e2
                  rw [Addr.add_mid, World.cell?_of_block (w := wl) (a := ⟨gp, q * 6 + r, none⟩) (hFt.block gp hlt gpn)]
                  exact hc
                obtain ⟨w8, hw8⟩ : ∃ w8, w8 = wt.alloc (.cells l.cs.toArray 80) := ⟨_, rfl⟩
                obtain ⟨g8, hg8⟩ : ∃ g, g = wt.heap.size := ⟨_, rfl⟩
                have b8 : Below wt.heap.size wt w8 := by rw [hw8]; exact (Below.refl _ _).alloc (Nat.le_refl _) _
                have n8 : w8.heap[g8]? = some (.cells l.cs.toArray 80 (0, 0)) := by rw [hw8, hg8]; exact heap_alloc_new _ _
                have KTf := Lib.hid (fun (W : World) (hW : W.heap[g8]? = some (.cells l.cs.toArray 80 (0, 0))) => show ∀ r v, (kcs l.key)[r]? = some v → W.cell? ((⟨g8, 1, none⟩ : Addr).add r) = some v from fun r v hr => by
                  rw [Addr.add_mid, cell_of_row W g8 (1 + r) _ _ _ hW]
                  match r, hr with
                  | 0, hr => exact hr
                  | 1, hr => exact hr
                  | 2, hr => exact hr
                  | r + 3, hr => simp [kcs] at hr)
                have X8 := (hXt.below b8).1
                have T8 := hTt.keep (b8.block gm hTt.lt)
                have KT8 := KTf.out w8 n8
                have F8 := Lib.hid (hFt.thenBelow b8 (Nat.le_refl _))
                have HX8 := Lib.hid X8
                have HT8 := Lib.hid T8
                have KNl := Lib.hid (mx_knownB X8 l.key hkw (by rw [← HM2.out]; omega))
                rw [kn_E hlm] at KNl
                have N8 := Lib.hid n8
                have HW8 := Lib.hid hw8
                have HG8 := Lib.hid hg8
                have HS2 := Lib.hid hS2
                have HKK := Lib.hid hkK
                have hkf := hkw
                have hj2 : (q : Int) < (m2 : Int) := by omega
                have hj0 : (0 : Int) ≤ (q : Int) := by omega
                have HSK := Lib.hid hSk
                clear hXt hTt hS2 hFt b8 n8 X8 T8 hl hlm hw8 hg8 hglt hge gpn hkK hSk
                go_upto_region 47 with (first
                  | ((with_reducible show wpList _ _ _ _ _ _); refine wpList_load_allW rfl 80 (.tmp 157) rfl ⟨gp, q * 6, none⟩ rfl l.cs _ KX Try.underlying80 rfl (lsSize _) ?_)
                  | ((with_reducible show wpList _ _ _ _ _ _); refine wpList_store_newW rfl 80 (.tmp 18) (.tmp 158) rfl 80 _ l.cs.toArray (by with_unfolding_all rfl) (by with_unfolding_all rfl) (SL.out l) rfl (OL.out l) ?_))
                rw [← HW8.out, ← HG8.out]
                simp only [Act.put, List.setIfInBounds_toArray, List.set_cons_zero, List.set_cons_succ, List.getElem_toArray, List.getElem_cons_zero, List.getElem_cons_succ]
                go_upto_region 49 with (first
                  | ((with_reducible show wpList _ _ _ _ _ _); refine wpList_loadWanted (by kernel_rfl) 32 (.tmp 160) rfl ⟨g8, 1, none⟩ rfl (kcs l.key) _ KT8 Try.underlying32 rfl (tkSize _) ?_)
                  | ((with_reducible show wpList _ _ _ _ _ _); refine wpList_loadWanted (by kernel_rfl) 32 (.tmp 164) rfl ⟨g8, 1, none⟩ rfl (kcs l.key) _ KT8 Try.underlying32 rfl (tkSize _) ?_)
                  | ((with_reducible show wpList _ _ _ _ _ _); refine wpList_lookT (by kernel_rfl) (.tmp 159) (.tmp 161) rfl (by with_unfolding_all rfl) HT8.out (by with_unfolding_all rfl) hkf ?_; rw [HSK.out])
                  | ((with_reducible refine KNl.out.mono ?_); rintro e w9 ⟨rfl, hb9⟩))
                have X9 := (HX8.out.below hb9).1
                have T9 := HT8.out.keep (hb9.block gm HT8.out.lt)
                have KT9 := KTf.out w9 ((hb9.block g8 (lt_of_rowK N8.out)).trans N8.out)
                have F9 := Lib.hid (F8.out.thenBelow hb9 (Nat.le_refl _))
                have HX9 := Lib.hid X9
                have HT9 := Lib.hid T9
                have LM := Lib.hid (show cnt2 < maxLen by unfold maxLen; omega)
                clear hb9 X9 T9
                go_upto_region 50 with (first
                  | ((with_reducible show wpList _ _ _ _ _ _); refine wpList_loadWanted (by kernel_rfl) 32 (.tmp 170) rfl ⟨g8, 1, none⟩ rfl (kcs l.key) _ KT9 Try.underlying32 rfl (tkSize _) ?_)
                  | ((with_reducible show wpList _ _ _ _ _ _); refine wpList_putT rfl (.tmp 169) (.tmp 171) _ rfl (by with_unfolding_all rfl) HT9.out LM.out (by with_unfolding_all rfl) hkf (b := true) (by with_unfolding_all rfl) ?_))
                intro wa hTa hta
                have hXa := HX9.out.turned hta rfl GM.out
                have RL := Lib.hid (show seRel w2 b M1 gm wl K j m2 (.int .i64 ((q + 1 : Nat) : Int)) wa from ⟨q + 1, cnt2 + 1, _, by omega, rfl, hXa.1, hTa, by omega, (fun x => by
                  rw [← Nat.add_assoc, take_succ_mem HKK.out x]
                  by_cases hx : x = l.key
                  · simp [hx]
                  · simp only [if_neg hx, hx, false_or]
                    exact HS2.out x), F9.out.trans hXa.2⟩)
                have ML := Lib.hid (show m2 - (q + 1) < m2 - q by omega)
                clear hTa hta hXa
                go_wp2_with fail
                exact ⟨RL.out, by simp [intOf]; exact ML.out⟩
              · have hj2 : ¬ (q : Int) < (m2 : Int) := by omega
                have RO := Lib.hid (show onRel w2 b n (.int .i64 nw) (.int .u64 last1) (.int .i64 ((i + 1 : Nat) : Int)) wt from ⟨i + 1, M1, nw, last1, by omega, rfl, rfl, rfl, hXt.less (fun q hq => hq.elim), HO1.out, hw0, by omega⟩)
                clear hXt hTt hS2 hFt
                go_wp2_with fail
                exact ⟨RO.out, by simp [intOf]; omega⟩
    · have hin2 : ¬ (i : Int) < (n : Int) := by omega
      have XE := Lib.hid (B2.out.trans (hM.low GL.out B2.out.size))
      clear hM hO
      go_wp2_with fail
      go_ret
      exact ⟨rfl, XE.out⟩
end Go.Proofs.Ytkmhbbcppjckiaa.Ma
