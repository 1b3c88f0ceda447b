/- What somebody has by a token; the tasks that somebody has. -/
import Derived.Test.YtkmhbbcppjckiaaK0M
namespace Go.Proofs.Ytkmhbbcppjckiaa.Ma
open Go Go.RowKit Go.Proofs.Ytkmhbbcppjckiaa
open Go.Proofs.Ytkmhbbcppjckiaa.Hp (i64wf K3 wf3)
open Go.Proofs.Ytkmhbbcppjckiaa.Qu
open Go.Proofs.Ytkmhbbcppjckiaa.Dk (Frm below_drewN)
set_option linter.unusedVariables false
set_option linter.unusedSimpArgs false
set_option maxRecDepth 100000
variable {w w' wx : World} {T : Nat → Prop} {b o : Nat} {R0 : Array Value} {ty : TypeId} {M M' : MM}
theorem mt_leases (h : MT w T b o R0 ty M) (hE : M.E.length ≤ 1000) : Calls Try.prog 43 #[.pointer (some ⟨b, o, none⟩)] w fun e w' => ∃ a' c', e = .returned (.slice a' M.E.length c') ∧ LRow w' w.heap.size a' c' M.E ∧ Below w.heap.size w w' := by
  obtain ⟨R, mq, Q, ao, c, hA, _⟩ := h
  have cx : w.cell? ⟨b, o + 196, none⟩ = some (.slice ao M.E.length c) := by rw [cell_of_row w b _ _ _ _ hA.row]; exact hA.ls
  have CL := Lib.hid (cloneL_any hA.lrow hE)
  obtain ⟨n, hn⟩ : ∃ n, n = M.E.length := ⟨_, rfl⟩
  rw [← hn] at cx CL ⊢
  clear hA hn hE
  go_enter Try.func43, Try.ntmps43
  go_wp2_with (first
    | (with_reducible refine CL.out.mono ?_; rintro e w3 ⟨a', c', rfl, hr, hb⟩; have HR := Lib.hid hr; have HB := Lib.hid hb; clear hr hb))
  go_ret
  exact ⟨a', c', rfl, HR.out, HB.out⟩
theorem mt_given (h : MT w T b o R0 ty M) : Calls Try.prog 49 #[.pointer (some ⟨b, o, none⟩)] w fun e w' => e = .returned (.int .u64 M.giv) ∧ w' = w := by
  obtain ⟨R, mq, Q, ao, c, hA, _⟩ := h
  exact given_any (by rw [cell_of_row w b _ _ _ _ hA.row]; exact hA.given)
def l0 : Ls := ⟨0, (0, 0, 0), 0, 0⟩
/-- What is answered to a token. -/
def MM.gt (M : MM) (tok now : Int) : Ls × Int := match M.E.find? (fun l => decide (l.tok = tok)) with
  | some l => if l.til ≤ now then (l0, 210) else (l, 0)
  | none => (l0, 210)
theorem ixG_find (p : Ls → Bool) : ∀ (L : List Ls) (k : Nat), (L.find? p = none ∧ ixG p L k = -1) ∨ ∃ l i, L.find? p = some l ∧ L[i]? = some l ∧ ixG p L k = ((k + i : Nat) : Int)
  | [], k => .inl ⟨rfl, rfl⟩
  | x :: L, k => by
    by_cases h : p x = true
    · refine .inr ⟨x, 0, by simp [h], rfl, by rw [ixG, if_pos h]; rfl⟩
    · rw [ixG, if_neg h, List.find?_cons_of_neg h]
      rcases ixG_find p L (k + 1) with ⟨h1, h2⟩ | ⟨l, i, h1, h2, h3⟩
      · exact .inl ⟨h1, h2⟩
      · exact .inr ⟨l, i + 1, h1, by simpa using h2, by rw [h3]; congr 1; omega⟩
/-- What stands while the first region is under way. -/
structure GtI (w : World) (k : Int) (g : Nat) (s5 : Bool) (p : Nat) (wx : World) : Prop where
  box : wx.heap[g]? = some (.cells l0.cs.toArray 80 (0, 0))
  low : Below w.heap.size w wx
  cap : s5 = true → wx.heap[p]? = some (.cells #[.int .u64 k] 62 (0, 0))
theorem GtI.below {k : Int} {g p : Nat} {s5 : Bool} (h : GtI w k g s5 p wx) (hb : Below wx.heap.size wx w') : GtI w k g s5 p w' :=
  ⟨(hb.block g (lt_of_rowW h.box)).trans h.box, h.low.trans (hb.mono h.low.size), fun e => (hb.block p (lt_of_rowW (h.cap e))).trans (h.cap e)⟩
theorem GtI.made {k : Int} {g p : Nat} (h : GtI w k g false p wx) : GtI w k g true wx.heap.size (wx.alloc (.cells #[.int .u64 k] 62)) := by
  have b1 : Below wx.heap.size wx (wx.alloc (.cells #[.int .u64 k] 62)) := (Below.refl _ _).alloc (Nat.le_refl _) _
  exact ⟨(b1.block g (lt_of_rowW h.box)).trans h.box, h.low.trans (b1.mono h.low.size), fun _ => heap_alloc_new _ _⟩
theorem mt_get (h : MT w T b o R0 ty M) (tok now : Int) (hE : M.E.length ≤ 1000) : Calls Try.prog 29 #[.pointer (some ⟨b, o, none⟩), .int .u64 tok, .int .i64 now] w fun e w' => e = .returned (.tuple #[.agg (M.gt tok now).1.cs.toArray, .int .i64 (M.gt tok now).2]) ∧ Below w.heap.size w w' := by
  obtain ⟨w1, hw1⟩ : ∃ x, x = w.alloc (.cells l0.cs.toArray 80) := ⟨_, rfl⟩
  obtain ⟨g, hg⟩ : ∃ g, g = w.heap.size := ⟨_, rfl⟩
  have b1 : Below w.heap.size w w1 := by rw [hw1]; exact (Below.refl _ _).alloc (Nat.le_refl _) _
  have n1 : w1.heap[g]? = some (.cells l0.cs.toArray 80 (0, 0)) := by rw [hw1, hg]; exact heap_alloc_new _ _
  obtain ⟨R, mq, Q, ao, c, hA, _⟩ := h
  obtain ⟨E, hE'⟩ : ∃ E, E = M.E := ⟨_, rfl⟩
  obtain ⟨n, hn⟩ : ∃ n, n = E.length := ⟨_, rfl⟩
  rw [← hE'] at hA hE
  have hnn : n ≤ 1000 := by rw [hn]; exact hE
  have hgt : M.gt tok now = match E.find? (fun l => decide (l.tok = tok)) with | some l => if l.til ≤ now then (l0, 210) else (l, 0) | none => (l0, 210) := by rw [hE']; rfl
  obtain ⟨A1, hA1⟩ : ∃ A, A = M.gt tok now := ⟨_, rfl⟩
  rw [← hA1] at hgt ⊢
  obtain ⟨X, hX⟩ : ∃ X, X = ixL (fun l => decide (l.tok = tok)) E := ⟨_, rfl⟩
  have IX := Lib.hid (fun (W : World) (hW : Below w.heap.size w W) (p : Nat) (hp : W.heap[p]? = some (.cells #[.int .u64 tok] 62 (0, 0))) => show Calls Try.prog 55 #[.slice ao n c, .func (.func 70) #[] #[.pointer (some ⟨p, 0, none⟩)]] W fun e w' => e = .returned (.int .i64 X) ∧ Below W.heap.size W w' from by
    rw [hn, hX]
    exact indexL_any (hA.below hW).lrow hE (asks_tok hp) (enters_of Try.func70 (by kernel_rfl) rfl))
  have LC := Lib.hid (fun (W : World) (hW : Below w.heap.size w W) => show W.cell? ⟨b, o + 196, none⟩ = some (.slice ao n c) from by
    rw [cell_of_row W b _ _ _ _ (hA.below hW).row, hn]
    exact hA.ls)
  have CE := Lib.hid (fun (W : World) (hW : Below w.heap.size w W) => (hA.below hW).lrow)
  have FI := Lib.hid (ixG_find (fun l => decide (l.tok = tok)) E 0)
  rw [show ixG (fun l => decide (l.tok = tok)) E 0 = X from hX.symm] at FI
  have SZ := Lib.hid (fun l : Ls => lsSizeA l)
  have ON := Lib.hid (fun l : Ls => l.oneA)
  have HN := Lib.hid hn
  have HGT := Lib.hid hgt
  have HW := Lib.hid hw1
  have HG := Lib.hid hg
  have B1' := Lib.hid b1
  have N1 := Lib.hid n1
  clear hw1 hg b1 n1 hA hE' hE hn hX hgt hA1
  go_enter Try.func29, Try.ntmps29
  go_upto_region 1 with fail
  rw [show (#[.int .u64 0, .int .i64 0, .int .i64 0, .int .i64 0, .int .i64 0, .int .i64 0] : Array Value) = l0.cs.toArray from rfl, ← HW.out, ← HG.out]
  have I0 := Lib.hid (show GtI w tok g false 0 w1.drew from ⟨N1.out, below_drewN B1'.out 1, (fun e => by cases e)⟩)
  refine wp_region_par (α := Nat) (by kernel_rfl) (by kernel_rfl) (by kernel_rfl) (fun y => ⟨#[.pointer (some ⟨b, o, none⟩), .int .u64 tok, .int .i64 now, undef, undef, undef, .pointer (some ⟨g, 0, none⟩), .int .i64 0, y 7, y 0, y 1, y 2, y 3, y 4, y 5, y 6, undef, undef, undef, undef, undef, undef, undef, undef, undef, undef, undef, undef, undef, undef, undef, undef, undef, undef, undef, undef, undef, undef], []⟩) (fun p j q => match j with | 0 => q = .pointer (some ⟨b, o, none⟩) | 1 => q = .pointer (some ⟨b, o, none⟩) | 2 => q = .pointer (some ⟨b, o + 196, none⟩) | 3 => q = .slice ao n c | 4 => q = .int .u64 tok | 5 => q = .func (.func 70) #[] #[.pointer (some ⟨p, 0, none⟩)] | 6 => q = .int .i64 X | 7 => q = .int .i64 X | _ => True) (fun M p wx => GtI w tok g (M 5) p wx) (fun i => [5, 6].contains i) (fun i j => (i == 5 && decide (5 < j)) || (i == 6 && decide (6 < j))) (parOk_spec (by kernel_rfl)) ?_ ?_ ?_ (fun _ => undef) 0 rfl (by exact I0.out)
  · intro i' o hsrc ho M p y wx hd hi' hI
    match i', ho with
    | 0, ho =>
      obtain rfl := Option.some.inj ho
      refine ⟨.pointer (some ⟨b, o, none⟩), ?_, rfl, rfl, hI⟩
      refine runWithP (fun z => match z with  | .tmp 0 => .pointer (some ⟨b, o, none⟩) | .const c => c | _ => undef) (by kernel_rfl) ?_
      go_simp
    | 1, ho =>
      obtain rfl := Option.some.inj ho
      have y0 : y 0 = .pointer (some ⟨b, o, none⟩) := hd ⟨0, .data⟩ (by simp) rfl
      refine ⟨.pointer (some ⟨b, o, none⟩), ?_, rfl, rfl, hI⟩
      refine runWithP (fun z => match z with | .tmp 9 => y 0 | .const c => c | _ => undef) (by kernel_rfl) ?_
      rw [y0]
      go_simp
    | 2, ho =>
      obtain rfl := Option.some.inj ho
      have y0 : y 1 = .pointer (some ⟨b, o, none⟩) := hd ⟨1, .data⟩ (by simp) rfl
      refine ⟨.pointer (some ⟨b, o + 196, none⟩), ?_, rfl, rfl, hI⟩
      refine runWithP (fun z => match z with | .tmp 10 => y 1 | .const c => c | _ => undef) (by kernel_rfl) ?_
      rw [y0]
      go_simp
    | 3, ho =>
      obtain rfl := Option.some.inj ho
      have y0 : y 2 = .pointer (some ⟨b, o + 196, none⟩) := hd ⟨2, .data⟩ (by simp) rfl
      have cx := LC.out wx hI.low
      refine ⟨.slice ao n c, ?_, rfl, rfl, hI⟩
      refine runWithP (fun z => match z with | .tmp 11 => y 2 | .const c => c | _ => undef) (by kernel_rfl) ?_
      rw [y0]
      go_simp
    | 4, ho =>
      obtain rfl := Option.some.inj ho
      refine ⟨.int .u64 tok, ?_, rfl, rfl, hI⟩
      refine runWithP (fun z => match z with  | .tmp 1 => .int .u64 tok | .const c => c | _ => undef) (by kernel_rfl) ?_
      go_simp
    | 5, ho =>
      obtain rfl := Option.some.inj ho
      cases hsrc
    | 6, ho =>
      obtain rfl := Option.some.inj ho
      cases hsrc
    | 7, ho =>
      obtain rfl := Option.some.inj ho
      have y0 : y 6 = .int .i64 X := hd ⟨6, .data⟩ (by simp) rfl
      refine ⟨.int .i64 X, ?_, rfl, rfl, hI⟩
      refine runWithP (fun z => match z with | .tmp 15 => y 6 | .const c => c | _ => undef) (by kernel_rfl) ?_
      rw [y0]
      go_simp
    | j + 8, ho => cases ho
  · intro i' o hsrc ho M p y wx hd hi' hlat hI
    match i', hsrc, ho with
    | 0, hsrc, ho =>
      cases hsrc
    | 1, hsrc, ho =>
      cases hsrc
    | 2, hsrc, ho =>
      cases hsrc
    | 3, hsrc, ho =>
      cases hsrc
    | 4, hsrc, ho =>
      cases hsrc
    | 5, hsrc, ho =>
      obtain rfl := Option.some.inj ho
      have y4 : y 4 = .int .u64 tok := (hd ⟨4, .data⟩ (by simp) rfl).2
      rw [hi'] at hI
      refine slot_call #[.int .u64 tok] rfl Try.func56 (by kernel_rfl) (by kernel_rfl) (by simp [Act.eval, y4]) ?_
      refine (byToken_any tok wx).mono ?_
      rintro e w' ⟨rfl, rfl⟩
      refine ⟨_, rfl, _, wx.heap.size, rfl, rfl, ?_, ?_⟩
      · intro j q hne hl hF
        match j, hne, hF with
        | 0, _, hF => exact hF
        | 1, _, hF => exact hF
        | 2, _, hF => exact hF
        | 3, _, hF => exact hF
        | 4, _, hF => exact hF
        | 5, hne, _ => exact absurd rfl hne
        | 6, _, _ => exact absurd hl (by decide)
        | 7, _, _ => exact absurd hl (by decide)
        | j + 8, _, _ => trivial
      · exact hI.made
    | 6, hsrc, ho =>
      obtain rfl := Option.some.inj ho
      have y3 : y 3 = .slice ao n c := (hd ⟨3, .data⟩ (by simp) rfl).2
      have h5 := hd ⟨5, .data⟩ (by simp) rfl
      have y5 : y 5 = .func (.func 70) #[] #[.pointer (some ⟨p, 0, none⟩)] := h5.2
      rw [h5.1] at hI
      refine slot_call #[.slice ao n c, .func (.func 70) #[] #[.pointer (some ⟨p, 0, none⟩)]] rfl Try.func55 (by kernel_rfl) (by kernel_rfl) (by simp [Act.eval, y3, y5]) ?_
      refine (IX.out wx hI.low p (hI.cap rfl)).mono ?_
      rintro e w' ⟨rfl, hb⟩
      refine ⟨_, rfl, _, p, rfl, rfl, fun j q _ _ h => h, ?_⟩
      show GtI w tok g (M 5) p w'
      rw [h5.1]
      exact hI.below hb
    | 7, hsrc, ho =>
      cases hsrc
    | j + 8, hsrc, ho => cases ho
  · rintro M p y wx hall hI
    have y7 : y 7 = .int .i64 X := (hall 7 (by decide)).2
    try dsimp only
    rw [y7]
    have HB := Lib.hid hI.low
    have N2 := Lib.hid hI.box
    have c2 := LC.out wx hI.low
    clear hI hall y7
    rcases FI.out with ⟨hfn, hX⟩ | ⟨l, i, hfs, hil, hX⟩
    · have FE := Lib.hid (show A1 = (l0, 210) from by rw [HGT.out, hfn])
      subst hX
      have SX := Lib.hid (SZ.out l0)
      have OX := Lib.hid (ON.out l0)
      have N3 := Lib.hid (show (wx.setRow g l0.cs.toArray).heap[g]? = some (.cells l0.cs.toArray 80 (0, 0)) from setRow_heap _ g _ _ _ _ N2.out)
      have GL := Lib.hid (show w.heap.size ≤ g from Nat.le_of_eq HG.out.symm)
      go_wp2_with (first
        | (with_reducible show wpList _ _ _ _ _ _; refine wpList_store_whole rfl 80 (.tmp 6) (.tmp 30) rfl g 80 l0.cs.toArray l0.cs.toArray (by with_unfolding_all rfl) (by with_unfolding_all rfl) N2.out SX.out rfl OX.out ?_))
      refine bodyPost_ret (results_row_tmp rfl _ _ g 80 l0.cs (0, 0) _ _ rfl rfl N3.out Try.underlying80 rfl SX.out) rfl ?_
      rw [FE.out]
      exact ⟨rfl, below_setRowK HB.out GL.out _⟩
    · rw [Nat.zero_add] at hX
      subst hX
      have hin : i < n := by rw [HN.out]; exact (List.getElem?_eq_some_iff.1 hil).1
      have hin2 : (i : Int) < (n : Int) := by omega
      have h0 : (0 : Int) ≤ (i : Int) := by omega
      have hx0 : ¬ (i : Int) < 0 := by omega
      have RW := CE.out wx HB.out
      obtain ⟨gp, hgp, _, hglt, _⟩ := own_cellK RW (lss_at E i l hil 0 _ rfl)
      subst hgp
      have KX : ∀ j v, l.cs[j]? = some v → wx.cell? ((⟨gp, i * 6, none⟩ : Addr).add j) = some v := by
        intro j v hj
        obtain ⟨g2, e2, _, hlt, hc⟩ := own_cellK RW (lss_at E i l hil j v hj)
        injection e2 with e2
        injection e2 with e2
        subst e2
        rw [Addr.add_mid]
        exact hc
      have k5 : wx.cell? ⟨gp, i * 6 + 5, none⟩ = some (.int .i64 l.til) := KX 5 _ rfl
      have GL := Lib.hid (show w.heap.size ≤ g from Nat.le_of_eq HG.out.symm)
      have HIL := Lib.hid hil
      clear hil hglt RW
      by_cases ht : l.til ≤ now
      · have FE := Lib.hid (show A1 = (l0, 210) from by rw [HGT.out, hfs]; simp [ht])
        have SX := Lib.hid (SZ.out l0)
        have OX := Lib.hid (ON.out l0)
        have N3 := Lib.hid (show (wx.setRow g l0.cs.toArray).heap[g]? = some (.cells l0.cs.toArray 80 (0, 0)) from setRow_heap _ g _ _ _ _ N2.out)
        have HFS := Lib.hid hfs
        clear hfs
        go_wp2_with (first
          | (with_reducible show wpList _ _ _ _ _ _; refine wpList_store_whole rfl 80 (.tmp 6) (.tmp 30) rfl g 80 l0.cs.toArray l0.cs.toArray (by with_unfolding_all rfl) (by with_unfolding_all rfl) N2.out SX.out rfl OX.out ?_))
        refine bodyPost_ret (results_row_tmp rfl _ _ g 80 l0.cs (0, 0) _ _ rfl rfl N3.out Try.underlying80 rfl SX.out) rfl ?_
        rw [FE.out]
        exact ⟨rfl, below_setRowK HB.out GL.out _⟩
      · have FE := Lib.hid (show A1 = (l, 0) from by rw [HGT.out, hfs]; simp [ht])
        have SX := Lib.hid (SZ.out l)
        have OX := Lib.hid (ON.out l)
        have N3 := Lib.hid (show (wx.setRow g l.cs.toArray).heap[g]? = some (.cells l.cs.toArray 80 (0, 0)) from setRow_heap _ g _ _ _ _ N2.out)
        have HFS := Lib.hid hfs
        clear hfs
        go_wp2_with (first
          | (with_reducible show wpList _ _ _ _ _ _; refine wpList_load_allW rfl 80 (.tmp 36) rfl ⟨gp, i * 6, none⟩ rfl l.cs _ KX Try.underlying80 rfl (lsSize _) ?_)
          | (with_reducible show wpList _ _ _ _ _ _; refine wpList_store_whole rfl 80 (.tmp 6) (.tmp 37) rfl g 80 l0.cs.toArray l.cs.toArray (by with_unfolding_all rfl) (by with_unfolding_all rfl) N2.out SX.out rfl OX.out ?_))
        refine bodyPost_ret (results_row_tmp rfl _ _ g 80 l.cs (0, 0) _ _ rfl rfl N3.out Try.underlying80 rfl SX.out) rfl ?_
        rw [FE.out]
        exact ⟨rfl, below_setRowK HB.out GL.out _⟩
end Go.Proofs.Ytkmhbbcppjckiaa.Ma
/- A task waits. -/
namespace Go.Proofs.Ytkmhbbcppjckiaa.Ma
open Go Go.RowKit Go.Proofs.Ytkmhbbcppjckiaa
open Go.Proofs.Ytkmhbbcppjckiaa.Hp (i64wf K3 wf3)
open Go.Proofs.Ytkmhbbcppjckiaa.Qu
open Go.Proofs.Ytkmhbbcppjckiaa.Dk (Frm below_drewN)
set_option linter.unusedVariables false
set_option linter.unusedSimpArgs false
set_option maxRecDepth 100000
variable {w w' wx : World} {T : Nat → Prop} {b o : Nat} {R0 : Array Value} {ty : TypeId} {M M' : MM}
/-- What an add answers, and what is held then. -/
def MM.adE (M : MM) (k : K3) (wk : Int) : Int := if M.kn k = true then 5 else if wk ≠ 0 ∧ isW wk = false then 1 else addR (M.W wk.toNat) k
def MM.ad (M : MM) (k : K3) (wk now : Int) : MM := if M.adE k wk = 0 then M.q wk.toNat (addW (M.W wk.toNat) k now) else M
theorem mt_add (h : MT w T b o R0 ty M) (k : K3) (hk : wf3 k) (wk now : Int) (hn : i64wf now) (hE : M.E.length ≤ 1000) : Calls Try.prog 25 #[.pointer (some ⟨b, o, none⟩), .agg (kcs k).toArray, .int .i64 wk, .int .i64 now] w fun e w' => e = .returned (.int .i64 (M.adE k wk)) ∧ MPost w T b o R0 ty (M.ad k wk now) w' := by
  obtain ⟨T1, hT1⟩ : ∃ T1 : Nat → Prop, T1 = fun q => T q ∧ q < w.heap.size := ⟨_, rfl⟩
  have h1 : MT w T1 b o R0 ty M := by rw [hT1]; exact h.lts
  suffices hs : Calls Try.prog 25 #[.pointer (some ⟨b, o, none⟩), .agg (kcs k).toArray, .int .i64 wk, .int .i64 now] w fun e w' => e = .returned (.int .i64 (M.adE k wk)) ∧ MPost w T1 b o R0 ty (M.ad k wk now) w' from
    hs.mono fun e w' hh => ⟨hh.1, hh.2.mono fun q hq => by rw [hT1] at hq; exact hq.1⟩
  clear h hT1
  obtain ⟨w1, hw1⟩ : ∃ x, x = w.alloc (.cells (kcs k).toArray 32) := ⟨_, rfl⟩
  obtain ⟨g, hg⟩ : ∃ g, g = w.heap.size := ⟨_, rfl⟩
  have b1 : Below w.heap.size w w1 := by rw [hw1]; exact (Below.refl _ _).alloc (Nat.le_refl _) _
  have n1 : w1.heap[g]? = some (.cells (kcs k).toArray 32 (0, 0)) := by rw [hw1, hg]; exact heap_alloc_new _ _
  have KN := Lib.hid (mt_known (h1.below b1) k hk hE)
  have H1 := Lib.hid h1
  have HW := Lib.hid hw1
  have HG := Lib.hid hg
  have B1 := Lib.hid b1
  have N1 := Lib.hid n1
  have K1 := Lib.hid (box_at n1)
  have IW := Lib.hid (fun W => isWorker_any wk W)
  clear h1 hw1 hg b1 n1
  cases hkn : M.kn k with
  | true =>
    have e1 : M.adE k wk = 5 := by unfold MM.adE; rw [if_pos hkn]
    have e2 : M.ad k wk now = M := by unfold MM.ad; rw [e1]; rfl
    rw [e1, e2]
    rw [hkn] at KN
    clear e1 e2 hkn
    go_enter Try.func25, Try.ntmps25
    go_upto_region 1 with fail
    rw [← HW.out, ← HG.out]
    go_wp2_with (first
      | (with_reducible show wpList _ _ _ _ _ _; refine wpList_load_allW rfl 32 (.tmp 5) rfl ⟨g, 0, none⟩ rfl (kcs k) _ K1.out Try.underlying32 rfl (tkSize _) ?_)
      | (with_reducible refine KN.out.mono ?_; rintro e w3 ⟨rfl, hb3⟩))
    go_ret
    exact ⟨rfl, MPost.same H1.out (B1.out.trans (hb3.mono B1.out.size))⟩
  | false =>
    by_cases hr : wk ≠ 0 ∧ isW wk = false
    · have e1 : M.adE k wk = 1 := by unfold MM.adE; rw [if_neg (by rw [hkn]; decide), if_pos hr]
      have e2 : M.ad k wk now = M := by unfold MM.ad; rw [e1]; rfl
      rw [e1, e2]
      rw [hkn] at KN
      obtain ⟨hr1, hr2⟩ := hr
      rw [hr2] at IW
      clear e1 e2 hkn hr2
      go_enter Try.func25, Try.ntmps25
      go_upto_region 1 with fail
      rw [← HW.out, ← HG.out]
      go_wp2_with (first
        | (with_reducible show wpList _ _ _ _ _ _; refine wpList_load_allW rfl 32 (.tmp 5) rfl ⟨g, 0, none⟩ rfl (kcs k) _ K1.out Try.underlying32 rfl (tkSize _) ?_)
        | (with_reducible refine KN.out.mono ?_; rintro e w3 ⟨rfl, hb3⟩)
        | (with_reducible refine (IW.out _).mono ?_; rintro e w4 ⟨rfl, rfl⟩))
      go_ret
      exact ⟨rfl, MPost.same H1.out (B1.out.trans (hb3.mono B1.out.size))⟩
    · obtain ⟨j, hj⟩ : ∃ j, j = wk.toNat := ⟨_, rfl⟩
      have hjw : wk = (j : Int) ∧ j < 65 := by
        by_cases h0 : wk = 0
        · subst h0; subst hj; exact ⟨rfl, by decide⟩
        · cases hi : isW wk with
          | false => exact absurd ⟨h0, hi⟩ hr
          | true =>
            simp only [isW, Bool.and_eq_true, decide_eq_true_eq] at hi
            omega
      obtain ⟨hjw, hj65⟩ := hjw
      have e1 : M.adE k wk = addR (M.W j) k := by unfold MM.adE; rw [if_neg (by rw [hkn]; decide), if_neg hr, ← hj]
      have e2 : M.ad k wk now = M.q j (addW (M.W j) k now) := by
        unfold MM.ad
        rw [e1, ← hj]
        split
        · rfl
        · rename_i hno
          rw [addW_no hno, M.q_id rfl]
      have eq : o + 1 + j * 3 = qo o j := by unfold qo; omega
      have AD := Lib.hid (fun (W : World) (hW : Below w.heap.size w W) => mq_add (H1.out.below hW) hj65 k hk now hn)
      rw [← eq] at AD
      rw [e1, e2]
      rw [hkn] at KN
      have hcond : ((!decide ((j : Int) = 0)) && !(isW (j : Int))) = false := by
        rw [← hjw]
        by_cases h0 : wk = 0
        · simp [h0]
        · cases hi : isW wk with
          | false => exact absurd ⟨h0, hi⟩ hr
          | true => simp
      rw [hjw] at IW ⊢
      obtain ⟨r, hr'⟩ : ∃ r, r = addR (M.W j) k := ⟨_, rfl⟩
      obtain ⟨M1, hM1⟩ : ∃ M1, M1 = M.q j (addW (M.W j) k now) := ⟨_, rfl⟩
      rw [← hr', ← hM1] at AD ⊢
      have hj0 : (0 : Int) ≤ (j : Int) := by omega
      have hj2 : (j : Int) < 65 := by omega
      have hisw : (j : Int) ≠ 0 → isW (j : Int) = true := by
        intro h0
        simp only [isW, Bool.and_eq_true, decide_eq_true_eq]
        omega
      have HIS := Lib.hid hisw
      clear e1 e2 hkn hr hj hjw eq hr' hM1 hcond hisw
      by_cases hj' : j = 0
      · subst hj'
        go_enter Try.func25, Try.ntmps25
        go_upto_region 1 with fail
        rw [← HW.out, ← HG.out]
        go_upto_region 5 with (first
          | (with_reducible show wpList _ _ _ _ _ _; refine wpList_load_allW rfl 32 (.tmp 5) rfl ⟨g, 0, none⟩ rfl (kcs k) _ K1.out Try.underlying32 rfl (tkSize _) ?_)
          | (with_reducible refine KN.out.mono ?_; rintro e w3 ⟨rfl, hb3⟩))
        have HKG := Lib.hid (fun (W : World) (hW : Below w3.heap.size w3 W) => box_at ((hW.block g (Nat.lt_of_lt_of_le (lt_of_rowW N1.out) hb3.size)).trans ((hb3.block g (lt_of_rowW N1.out)).trans N1.out)))
        have HB := Lib.hid (B1.out.trans (hb3.mono B1.out.size))
        clear hb3
        refine wp_region_quiet_tail 7 (by kernel_rfl) (by kernel_rfl) ?_
        simp only [List.take_succ_cons, List.take_zero, List.drop_succ_cons, List.drop_zero]
        repeat (go_big_quiet_step (fail))
        refine wpQuiet_loadG (by kernel_rfl) 32 (.tmp 5) rfl ⟨g, 0, none⟩ rfl (kcs k) _ (fun w' hC => by obtain ⟨nl, rfl⟩ := hC; exact HKG.out _ (below_drewN (Below.refl _ _) _)) Try.underlying32 rfl (tkSize _) ?_
        simp only [Act.put, List.setIfInBounds_toArray, List.set_cons_zero, List.set_cons_succ, List.getElem_toArray, List.getElem_cons_zero, List.getElem_cons_succ]
        repeat (go_big_quiet_step (fail))
        refine wpQuiet_nil ?_
        intro _ hw'
        obtain ⟨nq, hw''⟩ := hw'
        subst hw''
        have B2 := Lib.hid (below_drewN HB.out nq)
        obtain ⟨w2, hw2⟩ : ∃ x, x = w3.drewN nq := ⟨_, rfl⟩
        rw [← hw2] at B2 ⊢
        clear hw2
        have AD2 := AD.out _ B2.out
        simp only [Nat.zero_mul, Nat.add_zero] at AD2
        go_wp2_with (first
          | (with_reducible refine AD2.mono ?_; rintro e w5 ⟨rfl, hP⟩))
        go_ret
        exact ⟨rfl, MPost.first' B2.out hP⟩
      · have hjn : (j : Int) ≠ 0 := by omega
        have hi1 := HIS.out hjn
        rw [hi1] at IW
        clear hi1
        go_enter Try.func25, Try.ntmps25
        go_upto_region 1 with fail
        rw [← HW.out, ← HG.out]
        go_upto_region 5 with (first
          | (with_reducible show wpList _ _ _ _ _ _; refine wpList_load_allW rfl 32 (.tmp 5) rfl ⟨g, 0, none⟩ rfl (kcs k) _ K1.out Try.underlying32 rfl (tkSize _) ?_)
          | (with_reducible refine KN.out.mono ?_; rintro e w3 ⟨rfl, hb3⟩)
          | (with_reducible refine (IW.out _).mono ?_; rintro e w4 ⟨rfl, rfl⟩))
        obtain ⟨w6, hw6⟩ : ∃ x : World, x = w4 := ⟨_, rfl⟩
        rw [← hw6] at hb3 ⊢
        have HKG := Lib.hid (fun (W : World) (hW : Below w6.heap.size w6 W) => box_at ((hW.block g (Nat.lt_of_lt_of_le (lt_of_rowW N1.out) hb3.size)).trans ((hb3.block g (lt_of_rowW N1.out)).trans N1.out)))
        have HB := Lib.hid (B1.out.trans (hb3.mono B1.out.size))
        clear hb3 hw6
        refine wp_region_quiet_tail 7 (by kernel_rfl) (by kernel_rfl) ?_
        simp only [List.take_succ_cons, List.take_zero, List.drop_succ_cons, List.drop_zero]
        repeat (go_big_quiet_step (fail))
        refine wpQuiet_loadG (by kernel_rfl) 32 (.tmp 5) rfl ⟨g, 0, none⟩ rfl (kcs k) _ (fun w' hC => by obtain ⟨nl, rfl⟩ := hC; exact HKG.out _ (below_drewN (Below.refl _ _) _)) Try.underlying32 rfl (tkSize _) ?_
        simp only [Act.put, List.setIfInBounds_toArray, List.set_cons_zero, List.set_cons_succ, List.getElem_toArray, List.getElem_cons_zero, List.getElem_cons_succ]
        repeat (go_big_quiet_step (fail))
        refine wpQuiet_nil ?_
        intro _ hw'
        obtain ⟨nq, hw''⟩ := hw'
        subst hw''
        have B2 := Lib.hid (below_drewN HB.out nq)
        obtain ⟨w2, hw2⟩ : ∃ x, x = w6.drewN nq := ⟨_, rfl⟩
        rw [← hw2] at B2 ⊢
        clear hw2
        go_wp2_with (first
          | (with_reducible refine (AD.out _ B2.out).mono ?_; rintro e w5 ⟨rfl, hP⟩))
        go_ret
        exact ⟨rfl, MPost.first' B2.out hP⟩
end Go.Proofs.Ytkmhbbcppjckiaa.Ma
/- A worker takes a task: what it leaves. -/
namespace Go.Proofs.Ytkmhbbcppjckiaa.Ma
open Go Go.RowKit Go.Proofs.Ytkmhbbcppjckiaa
open Go.Proofs.Ytkmhbbcppjckiaa.Hp (i64wf K3 wf3)
open Go.Proofs.Ytkmhbbcppjckiaa.Qu
open Go.Proofs.Ytkmhbbcppjckiaa.Dk (Frm below_drewN)
set_option linter.unusedVariables false
set_option linter.unusedSimpArgs false
set_option maxRecDepth 100000
variable {w w' wx : World} {T : Nat → Prop} {b o : Nat} {R R0 : Array Value} {ty : TypeId} {M M' : MM} {mq : Nat → Option Nat} {Q : Nat → List Lk} {ao : Option Addr} {c : Nat} {E : List Ls} {gv : Int}
/-- Another cell of a Match's own row is turned: what its queues are stays. -/
theorem MtAt.qset (h : MtAt w b o R ty gv mq Q ao c E) {i : Nat} (hi : i = o ∨ i = o + 196) {v : Value} (hh : w'.heap[b]? = some (.cells (R.setIfInBounds i v) ty (0, 0))) (hk : ∀ k, k < 65 → ∀ q, q ≠ b → own b (mq k) (Q k) q → w'.heap[q]? = w.heap[q]?) : ∀ k, k < 65 → QAt w' b (qo o k) (R.setIfInBounds i v) ty (mq k) (Q k) := by
  intro j hj
  refine QAt.aside (h.qs j hj) hh (fun i' h1 h2 v hv => ?_) fun q hqb hqo => hk j hj q hqb hqo
  rw [Array.getElem?_setIfInBounds_ne (by unfold qo at h1 h2; rcases hi with rfl | rfl <;> omega)]
  have e1 := (h.qs j hj).c.row.row
  rw [h.row] at e1
  injection e1 with e1
  injection e1 with e1
  rw [e1]
  exact hv
theorem MtAt.bne (h : MtAt w b o R ty gv mq Q ao c E) : (Value.slice ao E.length c).ownBlock ≠ some b := h.lapart 0 (by decide) b (.inl rfl)
/-- One more token is given. -/
theorem MtAt.give (h : MtAt w b o R ty gv mq Q ao c E) (g' : Int) : MtAt (w.setCell ⟨b, o, none⟩ (.int .u64 g')) b o (R.setIfInBounds o (.int .u64 g')) ty g' mq Q ao c E := by
  have hh : (w.setCell ⟨b, o, none⟩ (.int .u64 g')).heap[b]? = some (.cells (R.setIfInBounds o (.int .u64 g')) ty (0, 0)) := Go.Joins.block_setCell (i := o) h.row _
  refine ⟨hh, by rw [Array.getElem?_setIfInBounds_self_of_lt (Array.getElem?_eq_some_iff.1 h.given).1], h.qset (.inl rfl) hh fun k hk q hq _ => setCell_other _ _ _ hq, h.apart, by rw [Array.getElem?_setIfInBounds_ne (by omega)]; exact h.ls, own_keepK h.lrow fun q hq _ => setCell_other _ _ _ (fun e => h.bne (by have e2 : q = b := e; rw [← e2]; exact hq)), h.lapart⟩
/-- The leases' row is another one, or the same one with one more. -/
theorem MtAt.grow (h : MtAt w b o R ty gv mq Q ao c E) {a' : Option Addr} {c' : Nat} {E' : List Ls} (hl : LRow wx 0 a' c' E') (hk : ∀ k, k < w.heap.size → some k ≠ (Value.slice ao E.length c).ownBlock → wx.heap[k]? = w.heap[k]?)
    (hob : ∀ q, (Value.slice a' E'.length c').ownBlock = some q → (Value.slice ao E.length c).ownBlock = some q ∨ w.heap.size ≤ q) : MtAt (wx.setCell ⟨b, o + 196, none⟩ (.slice a' E'.length c')) b o (R.setIfInBounds (o + 196) (.slice a' E'.length c')) ty gv mq Q a' c' E' := by
  have hsz : o + 196 < R.size := (Array.getElem?_eq_some_iff.1 h.ls).1
  have hbx : wx.heap[b]? = some (.cells R ty (0, 0)) := (hk b (lt_of_rowK h.row) fun e => h.bne e.symm).trans h.row
  have hh : (wx.setCell ⟨b, o + 196, none⟩ (.slice a' E'.length c')).heap[b]? = some (.cells (R.setIfInBounds (o + 196) (.slice a' E'.length c')) ty (0, 0)) := Go.Joins.block_setCell (i := o + 196) hbx _
  have hbn : (Value.slice a' E'.length c').ownBlock ≠ some b := fun e => by
    rcases hob b e with h1 | h1
    · exact h.bne h1
    · have := lt_of_rowK h.row; omega
  refine ⟨hh, by rw [Array.getElem?_setIfInBounds_ne (by omega)]; exact h.given, h.qset (.inr rfl) hh fun k hk' q hq hqo => ?_, h.apart, by rw [Array.getElem?_setIfInBounds_self_of_lt hsz], ownsRow_setCell_other hl hbn _, fun k hk' q h1 h2 => ?_⟩
  · rw [setCell_other _ _ _ hq]
    exact hk q ((h.qs k hk').lt hqo) fun e => h.lapart k hk' q hqo e.symm
  · rcases hob q h2 with h3 | h3
    · exact h.lapart k hk' q h1 h3
    · have := (h.qs k hk').lt h1; omega
def MM.g (M : MM) (gv : Int) : MM := ⟨gv, M.W, M.E⟩
theorem MT.give (h : MT w T b o R0 ty M) (g' : Int) : MT (w.setCell ⟨b, o, none⟩ (.int .u64 g')) T b o R0 ty (M.g g') := by
  obtain ⟨R, mq, Q, ao, c, h1, h2, h3, h4, h5⟩ := h
  exact ⟨_, mq, Q, ao, c, h1.give g', h2, fun i hi => by rw [Array.getElem?_setIfInBounds_ne (by omega)]; exact h3 i hi, h4, h5⟩
/-- The task that is taken: one that waits for the worker, else one that waits for anybody. -/
def MM.t2 (M : MM) (j : Nat) (kind : Int) : K3 × Bool := if (fiK kind (keysT (M.W j))).2 = true then fiK kind (keysT (M.W j)) else fiK kind (keysT (M.W 0))
def MM.t2M (M : MM) (j : Nat) (kind : Int) : MM := if (fiK kind (keysT (M.W j))).2 = true then M.tk j kind else M.tk 0 kind
def MM.plE (M : MM) (wk kind : Int) : Int := if isW wk = false then 1 else if M.E.length = 256 then 3 else if (M.t2 wk.toNat kind).2 = false then 4 else 0
def MM.plL (M : MM) (wk kind now : Int) : Ls := if M.plE wk kind = 0 then ⟨M.giv + 1, (M.t2 wk.toNat kind).1, wk, now + 20⟩ else l0
def MM.pl (M : MM) (wk kind now : Int) : MM := if M.plE wk kind = 0 then ⟨M.giv + 1, (M.t2M wk.toNat kind).W, M.E ++ [M.plL wk kind now]⟩ else M
theorem MM.tk_no {j : Nat} {kind : Int} (h : (fiK kind (keysT (M.W j))).2 = false) : M.tk j kind = M := by
  unfold MM.tk
  split
  · rename_i hk; rw [hk] at h; cases h
  · rfl
theorem MM.tk_E {j : Nat} {kind : Int} : (M.tk j kind).E = M.E ∧ (M.tk j kind).giv = M.giv := by
  unfold MM.tk
  split <;> exact ⟨rfl, rfl⟩
end Go.Proofs.Ytkmhbbcppjckiaa.Ma
/- A worker takes a task. -/
namespace Go.Proofs.Ytkmhbbcppjckiaa.Ma
open Go Go.RowKit Go.Proofs.Ytkmhbbcppjckiaa
open Go.Proofs.Ytkmhbbcppjckiaa.Hp (i64wf K3 wf3)
open Go.Proofs.Ytkmhbbcppjckiaa.Qu
open Go.Proofs.Ytkmhbbcppjckiaa.Dk (Frm below_drewN)
set_option linter.unusedVariables false
set_option linter.unusedSimpArgs false
set_option maxRecDepth 100000
variable {w w' wx : World} {T : Nat → Prop} {b o : Nat} {R R0 : Array Value} {ty : TypeId} {M M' : MM}
theorem mt_poll_bad (h : MT w T b o R0 ty M) (wk kind now : Int) (hE : M.E.length ≤ 256) (he : M.plE wk kind ≠ 0 ∧ M.plE wk kind ≠ 4) : Calls Try.prog 27 #[.pointer (some ⟨b, o, none⟩), .int .i64 wk, .int .i64 kind, .int .i64 now] w fun e w' => e = .returned (.tuple #[.agg l0.cs.toArray, .int .i64 (M.plE wk kind)]) ∧ Below w.heap.size w w' := by
  obtain ⟨w1, hw1⟩ : ∃ x, x = w.alloc (.cells l0.cs.toArray 80) := ⟨_, rfl⟩
  obtain ⟨g, hg⟩ : ∃ g, g = w.heap.size := ⟨_, rfl⟩
  have b1 : Below w.heap.size w w1 := by rw [hw1]; exact (Below.refl _ _).alloc (Nat.le_refl _) _
  have n1 : w1.heap[g]? = some (.cells l0.cs.toArray 80 (0, 0)) := by rw [hw1, hg]; exact heap_alloc_new _ _
  obtain ⟨R, mq, Q, ao, c, hA, _⟩ := h
  have LC : w1.cell? ⟨b, o + 196, none⟩ = some (.slice ao M.E.length c) := by
    rw [cell_of_row w1 b _ _ _ _ (hA.below b1).row]
    exact hA.ls
  obtain ⟨n, hn⟩ : ∃ n, n = M.E.length := ⟨_, rfl⟩
  rw [← hn] at LC hE
  have IW := Lib.hid (fun W => isWorker_any wk W)
  have SX := Lib.hid (lsSizeA l0)
  have OX := Lib.hid l0.oneA
  have HW := Lib.hid hw1
  have HG := Lib.hid hg
  have B1 := Lib.hid b1
  have N1 := Lib.hid n1
  have GL := Lib.hid (show w.heap.size ≤ g from Nat.le_of_eq hg.symm)
  have N3 := Lib.hid (show (w1.setRow g l0.cs.toArray).heap[g]? = some (.cells l0.cs.toArray 80 (0, 0)) from setRow_heap _ g _ _ _ _ n1)
  clear hA hw1 hg b1 n1
  cases hi : isW wk with
  | false =>
    have e1 : M.plE wk kind = 1 := by unfold MM.plE; rw [if_pos hi]
    rw [e1]
    rw [hi] at IW
    clear e1 he hi hn
    go_enter Try.func27, Try.ntmps27
    go_upto_region 1 with fail
    rw [show (#[.int .u64 0, .int .i64 0, .int .i64 0, .int .i64 0, .int .i64 0, .int .i64 0] : Array Value) = l0.cs.toArray from rfl, ← HW.out, ← HG.out]
    go_wp2_with (first
      | (with_reducible refine (IW.out _).mono ?_; rintro e w4 ⟨rfl, rfl⟩)
      | (with_reducible show wpList _ _ _ _ _ _; refine wpList_store_whole rfl 80 (.tmp 8) (.tmp 16) rfl g 80 l0.cs.toArray l0.cs.toArray (by with_unfolding_all rfl) (by with_unfolding_all rfl) N1.out SX.out rfl OX.out ?_))
    refine bodyPost_ret (results_row_tmp rfl _ _ g 80 l0.cs (0, 0) _ _ rfl rfl N3.out Try.underlying80 rfl SX.out) rfl ?_
    exact ⟨rfl, below_setRowK B1.out GL.out _⟩
  | true =>
    have e1 : M.plE wk kind = 3 ∧ n = 256 := by
      obtain ⟨h1, h2⟩ := he
      unfold MM.plE at h1 h2 ⊢
      rw [hi] at h1 h2 ⊢
      rw [if_neg (by decide)] at h1 h2 ⊢
      split at h1
      · rename_i hq; exact ⟨if_pos hq, by rw [hn, hq]⟩
      · rename_i hq
        rw [if_neg hq] at h2
        split at h1
        · rename_i hq2; rw [if_pos hq2] at h2; exact absurd rfl h2
        · exact absurd rfl h1
    obtain ⟨e1, e2⟩ := e1
    rw [e1]
    rw [hi] at IW
    subst e2
    clear e1 he hi hn
    go_enter Try.func27, Try.ntmps27
    go_upto_region 1 with fail
    rw [show (#[.int .u64 0, .int .i64 0, .int .i64 0, .int .i64 0, .int .i64 0, .int .i64 0] : Array Value) = l0.cs.toArray from rfl, ← HW.out, ← HG.out]
    go_wp2_with (first
      | (with_reducible refine (IW.out _).mono ?_; rintro e w4 ⟨rfl, rfl⟩)
      | (with_reducible show wpList _ _ _ _ _ _; refine wpList_store_whole rfl 80 (.tmp 8) (.tmp 23) rfl g 80 l0.cs.toArray l0.cs.toArray (by with_unfolding_all rfl) (by with_unfolding_all rfl) N1.out SX.out rfl OX.out ?_))
    refine bodyPost_ret (results_row_tmp rfl _ _ g 80 l0.cs (0, 0) _ _ rfl rfl N3.out Try.underlying80 rfl SX.out) rfl ?_
    exact ⟨rfl, below_setRowK B1.out GL.out _⟩
end Go.Proofs.Ytkmhbbcppjckiaa.Ma
