/- The document's tasks but one: without. -/
import Derived.Test.YtjjmjbemflhlbaaNS
namespace Go.Proofs.Ytjjmjbemflhlbaa.Qu
open Go Go.RowKit Go.Proofs.Ytjjmjbemflhlbaa
open Go.Proofs.Ytjjmjbemflhlbaa.Hp (K3 kv KLit wf3 i64wf kv_inj)
open Go.Proofs.Ytjjmjbemflhlbaa.Dk (Frm below_drewN Frm.of_below Frm.setCell Frm.refl Frm.drewN Frm.drew Frm.transT Frm.turned Frm.trans Frm.mono Frm.setRow Frm.thenBelow Frm.below)
set_option linter.unusedVariables false
set_option linter.unusedSimpArgs false
set_option maxRecDepth 100000
set_option maxHeartbeats 4000000
/-- An append within a region that draws its order. -/
theorem slot_appP {P : Program} {Q : Exit → Act → World → Prop} {o : Oper} {a : Act} {w : World} {K : Act → World → Prop} (s x : Operand) (tS tx : TypeId) (ho : o.op = .call { callee := .builtin .append, args := #[s, x], argTypes := #[tS, tx] })
    (B : Nat) (e : TypeId) (size bytes : Nat) (zv : Value) (hu : P.underlying tS = some (.slice e)) (hinfo : (P.info? e).map (fun i => (i.zero, i.size, i.bytes)) = some (some zv, size, bytes)) (hb : bytes ≤ 128) (hzv : zv.cells.size = size)
    (v : Value) (n : Nat) (xs : List Value) (hsv : a.eval s = v) (own : w.ownsRow B e size v n xs) (xv : Value) (m : Nat) (news : List Value) (hx : a.eval x = xv) (hs : Go.Src P size tx xv m news w) (hlim : n + m ≤ 1000000) (hB : B ≤ w.heap.size)
    (h : ∀ v' w', w'.ownsRow B e size v' (n + m) (xs ++ news) → Below B w w' → K (a.put o.dst v') w') : o.wp P a w K Q := by
  obtain ⟨i0, hi, hz0, hz1, hz2⟩ := info_partsK hinfo
  have hbb : (n + m) * bytes ≤ (n + m) * 128 := Nat.mul_le_mul_left _ hb
  obtain ⟨v', w', hr, h2⟩ := run_append_own_src (P := P) w B tS tx o.type e i0 zv size bytes hu hi hz0 hz1 hz2 hzv v n xs own xv m news hs (by unfold maxLen; omega) (by omega) hB
  unfold Oper.wp execOp
  simp only [ho, resolve, invoke, builtin, Sem.run_bind, Sem.run_pure, Result.andThen_ok, List.map_toArray, List.map_cons, List.map_nil, hsv, hx, hr]
  obtain ⟨ao, c, rfl, o4, b4, _⟩ := grew_zeroK own hB (Nat.le_refl _) h2
  exact h _ w' o4 b4
/-- What stands while without's region is under way. -/
structure WoI (w : World) (g0 n i : Nat) (A B : List Tk) (s0 s4 s9 : Bool) (p : Value × Value) (wx : World) : Prop where
  low : Below w.heap.size w wx
  fresh : s0 = false → g0 = wx.heap.size
  one : s0 = true → s4 = false → wx.ownsRow w.heap.size 39 4 (.slice (some ⟨g0, 0, none⟩) 0 0) 0 []
  first : s4 = true → s0 = true
  two : s4 = true → s9 = false → wx.ownsRow w.heap.size 39 4 p.1 i (tcs A)
  three : s9 = true → wx.ownsRow w.heap.size 39 4 p.2 (n - 1) (tcs (A ++ B))
section
variable {w wx w' : World} {g0 n i : Nat} {A B : List Tk} {p : Value × Value}
theorem own_empty (w : World) (B : Nat) (hB : B ≤ w.heap.size) (e : TypeId) (size : Nat) : (w.alloc (.cells #[] e)).ownsRow B e size (.slice (some ⟨w.heap.size, 0, none⟩) 0 0) 0 [] :=
  ⟨by simp, .inr ⟨w.heap.size, 0, #[], rfl, hB, heap_alloc_new w _, Nat.le_refl _, by unfold maxLen; omega, by simp, by simp⟩⟩
theorem WoI.make (h : WoI w g0 n i A B false false false p wx) (hg : g0 = w.heap.size) : WoI w g0 n i A B true false false p (wx.alloc (.cells #[] 39)) := by
  have hn := h.fresh rfl
  refine ⟨h.low.alloc h.low.size _, (fun e => by cases e), fun _ _ => ?_, (fun _ => rfl), (fun e => by cases e), (fun e => by cases e)⟩
  rw [hn]
  exact own_empty wx _ h.low.size _ _
theorem WoI.app1 {v' : Value} (h : WoI w g0 n i A B true false false p wx) (ho : w'.ownsRow w.heap.size 39 4 v' i (tcs A)) (hb : Below w.heap.size wx w') : WoI w g0 n i A B true true false (v', p.2) w' :=
  ⟨h.low.trans hb, (fun e => by cases e), (fun _ e => by cases e), (fun _ => rfl), fun _ _ => ho, (fun e => by cases e)⟩
theorem WoI.app2 {v' : Value} (h : WoI w g0 n i A B true true false p wx) (ho : w'.ownsRow w.heap.size 39 4 v' (n - 1) (tcs (A ++ B))) (hb : Below w.heap.size wx w') : WoI w g0 n i A B true true true (p.1, v') w' :=
  ⟨h.low.trans hb, (fun e => by cases e), (fun _ e => by cases e), (fun _ => rfl), (fun _ e => by cases e), fun _ => ho⟩
end
theorem without_neg (v : Value) (w : World) : Calls Try.prog 16 #[v, .int .i64 (-1)] w fun e w' => e = .returned v ∧ w' = w := by
  go_enter Try.func16, Try.ntmps16
  go_wp2_with fail
  go_ret
  exact ⟨rfl, rfl⟩
theorem without_any (w : World) (Bs : Nat) (ao : Option Addr) (n c : Nat) (A B : List Tk) (x : Tk) (hn : n = (A ++ x :: B).length) (hle : n ≤ 1000) (h : HRow w Bs (.slice ao n c) (A ++ x :: B)) : Calls Try.prog 16 #[.slice ao n c, .int .i64 (A.length : Int)] w fun e w' =>
    ∃ ao' c', e = .returned (.slice ao' (n - 1) c') ∧ w'.ownsRow w.heap.size 39 4 (.slice ao' (n - 1) c') (n - 1) (tcs (A ++ B)) ∧ Below w.heap.size w w' := by
  unfold HRow at h
  rw [← hn] at h
  have hx : (A ++ x :: B)[A.length]? = some x := by simp
  obtain ⟨gp, hgp, _, hglt, _⟩ := own_cellK h (tcs_at _ A.length x hx 0 _ rfl)
  subst hgp
  have hcap : n ≤ c := by
    rcases h.2 with ⟨e, _⟩ | ⟨g, cap, cur, e, _, _, hc, _⟩
    · cases e
    · injection e with _ _ e; omega
  have hcell : ∀ j v, (tcs (A ++ x :: B))[j]? = some v → w.cell? ⟨gp, j, none⟩ = some v := by
    intro j v hj
    obtain ⟨g2, e2, _, _, hc⟩ := own_cellK h hj
    injection e2 with e2
    injection e2 with e2
    subst e2
    exact hc
  obtain ⟨i, hi⟩ : ∃ i, i = A.length := ⟨_, rfl⟩
  have hin : i < n := by rw [hi, hn]; simp
  have hBl : B.length = n - (i + 1) := by rw [hi, hn]; simp; omega
  have SRCA := Lib.hid (fun (W : World) (hb : Below w.heap.size w W) => show Go.Src Try.prog 4 30 (.slice (some ⟨gp, 0, none⟩) i c) i (tcs A) W from
    Src.any _ (e' := 39) Try.underlying30 _ i c (tcs A) (by rw [tcs_len, hi]) (fun h => by cases h) (fun a ha j u hu => by
      cases ha
      rw [Addr.add_mid, Nat.zero_add, hb.cell (p := ⟨gp, j, none⟩) hglt]
      refine hcell j u ?_
      rw [tcs_app, List.getElem?_append_left (List.getElem?_eq_some_iff.1 hu).1]
      exact hu) (tcs_one A))
  have hB1 : ∀ (W : World) (hb : Below w.heap.size w W) (j : Nat) u, (tcs B)[j]? = some u → W.cell? ((⟨gp, (i + 1) * 4, none⟩ : Addr).add j) = some u := by
    intro W hb j u hu
    rw [Addr.add_mid, hb.cell (p := ⟨gp, (i + 1) * 4 + j, none⟩) hglt]
    refine hcell _ u ?_
    rw [show A ++ x :: B = (A ++ [x]) ++ B by simp, tcs_app, List.getElem?_append_right (by rw [tcs_len]; simp; omega), tcs_len]
    simp only [List.length_append, List.length_singleton]
    rw [show (i + 1) * 4 + j - (A.length + 1) * 4 = j by rw [hi]; omega]
    exact hu
  obtain ⟨g0, hg0⟩ : ∃ g, g = w.heap.size := ⟨_, rfl⟩
  have HG0 := Lib.hid hg0
  have I0 := Lib.hid (show WoI w g0 n i A B false false false (undef, undef) w.drew from ⟨below_drewN (Below.refl _ _) 1, fun _ => hg0, (fun e => by cases e), (fun e => by cases e), (fun e => by cases e), (fun e => by cases e)⟩)
  have q0 : (0 : Int) ≤ (i : Int) := by omega
  have q1 : (i : Int) ≤ (c : Int) := by omega
  have q2 : (i : Int) + 1 ≤ (n : Int) := by omega
  have q3 : ¬ (i : Int) < 0 := by omega
  have q5 : (0 : Int) ≤ (i : Int) + 1 := by omega
  have q6 : IntKind.i64.wrap ((i : Int) + 1) = (i : Int) + 1 := by rw [IntKind.wrap_i64]; omega
  rw [← hi]
  by_cases hlast : i + 1 = c
  · have hB0 : B = [] := List.eq_nil_of_length_eq_zero (by omega)
    have hnc : n = c := by omega
    have SRCB := Lib.hid (fun (W : World) (hb : Below w.heap.size w W) => show Go.Src Try.prog 4 30 (.slice (some ⟨gp, 0, none⟩) 0 0) (n - (i + 1)) (tcs B) W from by
      rw [show n - (i + 1) = 0 by omega, hB0]
      exact Src.any _ (e' := 39) Try.underlying30 _ 0 0 [] (by simp) (fun h => by cases h) (fun a ha j u hu => by simp at hu) (fun u hu => by cases hu))
    clear h hx hglt hcell hB1 hg0 hB0 hi hn hBl
    have HNC := Lib.hid hnc
    have HLA := Lib.hid hlast
    clear hnc hlast
    go_enter Try.func16, Try.ntmps16
    go_upto_region 3 with fail
    refine wp_region_par (α := Value × Value) (by kernel_rfl) (by kernel_rfl) (by kernel_rfl) (fun y => ⟨#[.slice (some ⟨gp, 0, none⟩) n c, .int .i64 (i : Int), undef, undef, y 10, .int .i64 (i : Int), .bool false, undef, y 0, y 1, y 2, y 3, y 4, y 5, y 6, y 7, y 8, y 9], []⟩) (fun p j q => match j with | 0 => q = .slice (some ⟨g0, 0, none⟩) 0 0 | 1 => q = .slice (some ⟨gp, 0, none⟩) n c | 2 => q = .int .i64 (i : Int) | 3 => q = .slice (some ⟨gp, 0, none⟩) i c | 4 => q = p.1 | 5 => q = .slice (some ⟨gp, 0, none⟩) n c | 6 => q = .int .i64 (i : Int) | 7 => q = .int .i64 ((i : Int) + 1) | 8 => q = .slice (some ⟨gp, 0, none⟩) 0 0 | 9 => q = p.2 | 10 => q = p.2 | _ => True) (fun M p wx => WoI w g0 n i A B (M 0) (M 4) (M 9) p wx) (fun i => [0, 4, 9].contains i) (fun i j => (i == 0 && (j == 4 || j == 9 || j == 10)) || (i == 4 && (j == 9 || j == 10)) || (i == 9 && j == 10)) (parOk_spec (by kernel_rfl)) ?_ ?_ ?_ (fun k => match k with | 10 => .slice none 0 0 | _ => undef) (undef, undef) rfl (by exact I0.out)
    · intro i' o hsrc ho M p y wx hd hi' hI
      match i', ho with
      | 0, ho =>
        obtain rfl := Option.some.inj ho
        cases hsrc
      | 1, ho =>
        obtain rfl := Option.some.inj ho
        refine ⟨.slice (some ⟨gp, 0, none⟩) n c, ?_, rfl, rfl, hI⟩
        refine runWithP (fun z => match z with  | .tmp 0 => .slice (some ⟨gp, 0, none⟩) n c | .const c => c | _ => undef) (by kernel_rfl) ?_
        go_simp
      | 2, ho =>
        obtain rfl := Option.some.inj ho
        refine ⟨.int .i64 (i : Int), ?_, rfl, rfl, hI⟩
        refine runWithP (fun z => match z with  | .tmp 1 => .int .i64 (i : Int) | .const c => c | _ => undef) (by kernel_rfl) ?_
        go_simp
      | 3, ho =>
        obtain rfl := Option.some.inj ho
        have y0 : y 1 = .slice (some ⟨gp, 0, none⟩) n c := hd ⟨1, .data⟩ (by simp) rfl
        have y1 : y 2 = .int .i64 (i : Int) := hd ⟨2, .data⟩ (by simp) rfl
        refine ⟨.slice (some ⟨gp, 0, none⟩) i c, ?_, rfl, rfl, hI⟩
        refine runWithP (fun z => match z with | .tmp 9 => y 1 | .tmp 10 => y 2 | .const c => c | _ => undef) (by kernel_rfl) ?_
        rw [y0, y1]
        go_simp
      | 4, ho =>
        obtain rfl := Option.some.inj ho
        cases hsrc
      | 5, ho =>
        obtain rfl := Option.some.inj ho
        refine ⟨.slice (some ⟨gp, 0, none⟩) n c, ?_, rfl, rfl, hI⟩
        refine runWithP (fun z => match z with  | .tmp 0 => .slice (some ⟨gp, 0, none⟩) n c | .const c => c | _ => undef) (by kernel_rfl) ?_
        go_simp
      | 6, ho =>
        obtain rfl := Option.some.inj ho
        refine ⟨.int .i64 (i : Int), ?_, rfl, rfl, hI⟩
        refine runWithP (fun z => match z with  | .tmp 1 => .int .i64 (i : Int) | .const c => c | _ => undef) (by kernel_rfl) ?_
        go_simp
      | 7, ho =>
        obtain rfl := Option.some.inj ho
        have y0 : y 6 = .int .i64 (i : Int) := hd ⟨6, .data⟩ (by simp) rfl
        refine ⟨.int .i64 ((i : Int) + 1), ?_, rfl, rfl, hI⟩
        refine runWithP (fun z => match z with | .tmp 14 => y 6 | .const c => c | _ => undef) (by kernel_rfl) ?_
        rw [y0]
        go_simp
      | 8, ho =>
        obtain rfl := Option.some.inj ho
        have y0 : y 5 = .slice (some ⟨gp, 0, none⟩) n c := hd ⟨5, .data⟩ (by simp) rfl
        have y1 : y 7 = .int .i64 ((i : Int) + 1) := hd ⟨7, .data⟩ (by simp) rfl
        obtain rfl : c = i + 1 := HLA.out.symm
        obtain rfl : n = i + 1 := HNC.out
        have q7 : ((i + 1 : Nat) : Int) = (i : Int) + 1 := by omega
        refine ⟨.slice (some ⟨gp, 0, none⟩) 0 0, ?_, rfl, rfl, hI⟩
        refine runWithP (fun z => match z with | .tmp 13 => y 5 | .tmp 15 => y 7 | .const c => c | _ => undef) (by kernel_rfl) ?_
        rw [y0, y1]
        go_simp
      | 9, ho =>
        obtain rfl := Option.some.inj ho
        cases hsrc
      | 10, ho =>
        obtain rfl := Option.some.inj ho
        have y0 : y 9 = p.2 := hd ⟨9, .data⟩ (by simp) rfl
        refine ⟨p.2, ?_, rfl, rfl, hI⟩
        refine runWithP (fun z => match z with | .tmp 17 => y 9 | .const c => c | _ => undef) (by kernel_rfl) ?_
        rw [y0]
        go_simp
      | j + 11, ho => cases ho
    · intro i' o hsrc ho M p y wx hd hi' hlat hI
      match i', hsrc, ho with
      | 0, hsrc, ho =>
        obtain rfl := Option.some.inj ho
        have h4 : M 4 = false := hlat 4 rfl
        have h9 : M 9 = false := hlat 9 rfl
        rw [hi', h4, h9] at hI
        refine slot_giveP (v := .slice (some ⟨wx.heap.size, 0, none⟩) 0 0) (w' := wx.alloc (.cells #[] 39)) ?_ ⟨_, p, rfl, congrArg (fun z => Value.slice (some ⟨z, 0, none⟩) 0 0) (hI.fresh rfl).symm, fun j q _ _ h => h, ?_⟩
        · kernel_rfl
        · show WoI w g0 n i A B true (M 4) (M 9) p _
          rw [h4, h9]
          exact hI.make HG0.out
      | 1, hsrc, ho =>
        cases hsrc
      | 2, hsrc, ho =>
        cases hsrc
      | 3, hsrc, ho =>
        cases hsrc
      | 4, hsrc, ho =>
        obtain rfl := Option.some.inj ho
        have h9 : M 9 = false := hlat 9 rfl
        have y0 : y 0 = .slice (some ⟨g0, 0, none⟩) 0 0 := (hd ⟨0, .data⟩ (by simp) rfl).2
        have y3 : y 3 = .slice (some ⟨gp, 0, none⟩) i c := (hd ⟨3, .data⟩ (by simp) rfl).2
        have h0 := (hd ⟨0, .data⟩ (by simp) rfl).1
        rw [h0, hi', h9] at hI
        refine slot_appP (.tmp 8) (.tmp 11) 30 30 rfl w.heap.size 39 4 32 _ Try.underlying30 infoHd (by decide) rfl _ 0 [] (by exact y0) (hI.one rfl rfl) _ i (tcs A) (by exact y3) (SRCA.out wx hI.low) (by omega) hI.low.size ?_
        intro v' w' hown hb
        refine ⟨_, (v', p.2), rfl, rfl, ?_, ?_⟩
        · intro j q hne hl hF
          match j, hne, hF with
          | 0, _, hF => exact hF
          | 1, _, hF => exact hF
          | 2, _, hF => exact hF
          | 3, _, hF => exact hF
          | 4, hne, _ => exact absurd rfl hne
          | 5, _, hF => exact hF
          | 6, _, hF => exact hF
          | 7, _, hF => exact hF
          | 8, _, hF => exact hF
          | 9, _, _ => exact absurd hl (by decide)
          | 10, _, _ => exact absurd hl (by decide)
          | j + 11, _, _ => trivial
        · show WoI w g0 n i A B (M 0) true (M 9) (v', p.2) w'
          rw [h0, h9]
          exact hI.app1 (by simpa using hown) hb
      | 5, hsrc, ho =>
        cases hsrc
      | 6, hsrc, ho =>
        cases hsrc
      | 7, hsrc, ho =>
        cases hsrc
      | 8, hsrc, ho =>
        cases hsrc
      | 9, hsrc, ho =>
        obtain rfl := Option.some.inj ho
        have y4 : y 4 = p.1 := (hd ⟨4, .data⟩ (by simp) rfl).2
        have y8 : y 8 = .slice (some ⟨gp, 0, none⟩) 0 0 := (hd ⟨8, .data⟩ (by simp) rfl).2
        have h4 := (hd ⟨4, .data⟩ (by simp) rfl).1
        rw [h4, hi'] at hI
        have h0 : M 0 = true := hI.first rfl
        rw [h0] at hI
        refine slot_appP (.tmp 12) (.tmp 16) 30 30 rfl w.heap.size 39 4 32 _ Try.underlying30 infoHd (by decide) rfl _ i (tcs A) (by exact y4) (hI.two rfl rfl) _ (n - (i + 1)) (tcs B) (by exact y8) (SRCB.out wx hI.low) (by omega) hI.low.size ?_
        intro v' w' hown hb
        refine ⟨_, (p.1, v'), rfl, rfl, ?_, ?_⟩
        · intro j q hne hl hF
          match j, hne, hF with
          | 0, _, hF => exact hF
          | 1, _, hF => exact hF
          | 2, _, hF => exact hF
          | 3, _, hF => exact hF
          | 4, _, hF => exact hF
          | 5, _, hF => exact hF
          | 6, _, hF => exact hF
          | 7, _, hF => exact hF
          | 8, _, hF => exact hF
          | 9, hne, _ => exact absurd rfl hne
          | 10, _, _ => exact absurd hl (by decide)
          | j + 11, _, _ => trivial
        · show WoI w g0 n i A B (M 0) (M 4) true (p.1, v') w'
          rw [h0, h4]
          exact hI.app2 (by rw [tcs_app, show n - 1 = i + (n - (i + 1)) by omega]; exact hown) hb
      | 10, hsrc, ho =>
        cases hsrc
      | j + 11, hsrc, ho => cases ho
    · rintro M p y wx hall hI
      have y10 : y 10 = p.2 := (hall 10 (by decide)).2
      try dsimp only
      rw [y10]
      rw [(hall 0 (by decide)).1, (hall 4 (by decide)).1, (hall 9 (by decide)).1] at hI
      have h3 := hI.three rfl
      obtain ⟨ao', c', hv⟩ := own_slK h3
      have H3 := Lib.hid h3
      have HB := Lib.hid hI.low
      have HV := Lib.hid hv
      clear hI hall h3 hv y10
      go_wp2_with fail
      go_ret
      rw [HV.out]
      exact ⟨ao', c', rfl, by rw [← HV.out]; exact H3.out, HB.out⟩
  · have SRCB := Lib.hid (fun (W : World) (hb : Below w.heap.size w W) => show Go.Src Try.prog 4 30 (.slice (some ⟨gp, (i + 1) * 4, none⟩) (n - (i + 1)) (c - (i + 1))) (n - (i + 1)) (tcs B) W from
      Src.any _ (e' := 39) Try.underlying30 _ (n - (i + 1)) (c - (i + 1)) (tcs B) (by rw [tcs_len, hBl]) (fun h => by cases h) (fun a ha j u hu => by
        cases ha
        exact hB1 W hb j u hu) (tcs_one B))
    have hl2 : ¬ (i : Int) + 1 = (c : Int) := by omega
    have hl3 : ¬ c = i + 1 := by omega
    clear h hx hglt hcell hB1 hg0 hi hn hBl
    go_enter Try.func16, Try.ntmps16
    go_upto_region 3 with fail
    refine wp_region_par (α := Value × Value) (by kernel_rfl) (by kernel_rfl) (by kernel_rfl) (fun y => ⟨#[.slice (some ⟨gp, 0, none⟩) n c, .int .i64 (i : Int), undef, undef, y 10, .int .i64 (i : Int), .bool false, undef, y 0, y 1, y 2, y 3, y 4, y 5, y 6, y 7, y 8, y 9], []⟩) (fun p j q => match j with | 0 => q = .slice (some ⟨g0, 0, none⟩) 0 0 | 1 => q = .slice (some ⟨gp, 0, none⟩) n c | 2 => q = .int .i64 (i : Int) | 3 => q = .slice (some ⟨gp, 0, none⟩) i c | 4 => q = p.1 | 5 => q = .slice (some ⟨gp, 0, none⟩) n c | 6 => q = .int .i64 (i : Int) | 7 => q = .int .i64 ((i : Int) + 1) | 8 => q = .slice (some ⟨gp, (i + 1) * 4, none⟩) (n - (i + 1)) (c - (i + 1)) | 9 => q = p.2 | 10 => q = p.2 | _ => True) (fun M p wx => WoI w g0 n i A B (M 0) (M 4) (M 9) p wx) (fun i => [0, 4, 9].contains i) (fun i j => (i == 0 && (j == 4 || j == 9 || j == 10)) || (i == 4 && (j == 9 || j == 10)) || (i == 9 && j == 10)) (parOk_spec (by kernel_rfl)) ?_ ?_ ?_ (fun k => match k with | 10 => .slice none 0 0 | _ => undef) (undef, undef) rfl (by exact I0.out)
    · intro i' o hsrc ho M p y wx hd hi' hI
      match i', ho with
      | 0, ho =>
        obtain rfl := Option.some.inj ho
        cases hsrc
      | 1, ho =>
        obtain rfl := Option.some.inj ho
        refine ⟨.slice (some ⟨gp, 0, none⟩) n c, ?_, rfl, rfl, hI⟩
        refine runWithP (fun z => match z with  | .tmp 0 => .slice (some ⟨gp, 0, none⟩) n c | .const c => c | _ => undef) (by kernel_rfl) ?_
        go_simp
      | 2, ho =>
        obtain rfl := Option.some.inj ho
        refine ⟨.int .i64 (i : Int), ?_, rfl, rfl, hI⟩
        refine runWithP (fun z => match z with  | .tmp 1 => .int .i64 (i : Int) | .const c => c | _ => undef) (by kernel_rfl) ?_
        go_simp
      | 3, ho =>
        obtain rfl := Option.some.inj ho
        have y0 : y 1 = .slice (some ⟨gp, 0, none⟩) n c := hd ⟨1, .data⟩ (by simp) rfl
        have y1 : y 2 = .int .i64 (i : Int) := hd ⟨2, .data⟩ (by simp) rfl
        refine ⟨.slice (some ⟨gp, 0, none⟩) i c, ?_, rfl, rfl, hI⟩
        refine runWithP (fun z => match z with | .tmp 9 => y 1 | .tmp 10 => y 2 | .const c => c | _ => undef) (by kernel_rfl) ?_
        rw [y0, y1]
        go_simp
      | 4, ho =>
        obtain rfl := Option.some.inj ho
        cases hsrc
      | 5, ho =>
        obtain rfl := Option.some.inj ho
        refine ⟨.slice (some ⟨gp, 0, none⟩) n c, ?_, rfl, rfl, hI⟩
        refine runWithP (fun z => match z with  | .tmp 0 => .slice (some ⟨gp, 0, none⟩) n c | .const c => c | _ => undef) (by kernel_rfl) ?_
        go_simp
      | 6, ho =>
        obtain rfl := Option.some.inj ho
        refine ⟨.int .i64 (i : Int), ?_, rfl, rfl, hI⟩
        refine runWithP (fun z => match z with  | .tmp 1 => .int .i64 (i : Int) | .const c => c | _ => undef) (by kernel_rfl) ?_
        go_simp
      | 7, ho =>
        obtain rfl := Option.some.inj ho
        have y0 : y 6 = .int .i64 (i : Int) := hd ⟨6, .data⟩ (by simp) rfl
        refine ⟨.int .i64 ((i : Int) + 1), ?_, rfl, rfl, hI⟩
        refine runWithP (fun z => match z with | .tmp 14 => y 6 | .const c => c | _ => undef) (by kernel_rfl) ?_
        rw [y0]
        go_simp
      | 8, ho =>
        obtain rfl := Option.some.inj ho
        have y0 : y 5 = .slice (some ⟨gp, 0, none⟩) n c := hd ⟨5, .data⟩ (by simp) rfl
        have y1 : y 7 = .int .i64 ((i : Int) + 1) := hd ⟨7, .data⟩ (by simp) rfl
        refine ⟨.slice (some ⟨gp, (i + 1) * 4, none⟩) (n - (i + 1)) (c - (i + 1)), ?_, rfl, rfl, hI⟩
        refine runWithP (fun z => match z with | .tmp 13 => y 5 | .tmp 15 => y 7 | .const c => c | _ => undef) (by kernel_rfl) ?_
        rw [y0, y1]
        go_simp
      | 9, ho =>
        obtain rfl := Option.some.inj ho
        cases hsrc
      | 10, ho =>
        obtain rfl := Option.some.inj ho
        have y0 : y 9 = p.2 := hd ⟨9, .data⟩ (by simp) rfl
        refine ⟨p.2, ?_, rfl, rfl, hI⟩
        refine runWithP (fun z => match z with | .tmp 17 => y 9 | .const c => c | _ => undef) (by kernel_rfl) ?_
        rw [y0]
        go_simp
      | j + 11, ho => cases ho
    · intro i' o hsrc ho M p y wx hd hi' hlat hI
      match i', hsrc, ho with
      | 0, hsrc, ho =>
        obtain rfl := Option.some.inj ho
        have h4 : M 4 = false := hlat 4 rfl
        have h9 : M 9 = false := hlat 9 rfl
        rw [hi', h4, h9] at hI
        refine slot_giveP (v := .slice (some ⟨wx.heap.size, 0, none⟩) 0 0) (w' := wx.alloc (.cells #[] 39)) ?_ ⟨_, p, rfl, congrArg (fun z => Value.slice (some ⟨z, 0, none⟩) 0 0) (hI.fresh rfl).symm, fun j q _ _ h => h, ?_⟩
        · kernel_rfl
        · show WoI w g0 n i A B true (M 4) (M 9) p _
          rw [h4, h9]
          exact hI.make HG0.out
      | 1, hsrc, ho =>
        cases hsrc
      | 2, hsrc, ho =>
        cases hsrc
      | 3, hsrc, ho =>
        cases hsrc
      | 4, hsrc, ho =>
        obtain rfl := Option.some.inj ho
        have h9 : M 9 = false := hlat 9 rfl
        have y0 : y 0 = .slice (some ⟨g0, 0, none⟩) 0 0 := (hd ⟨0, .data⟩ (by simp) rfl).2
        have y3 : y 3 = .slice (some ⟨gp, 0, none⟩) i c := (hd ⟨3, .data⟩ (by simp) rfl).2
        have h0 := (hd ⟨0, .data⟩ (by simp) rfl).1
        rw [h0, hi', h9] at hI
        refine slot_appP (.tmp 8) (.tmp 11) 30 30 rfl w.heap.size 39 4 32 _ Try.underlying30 infoHd (by decide) rfl _ 0 [] (by exact y0) (hI.one rfl rfl) _ i (tcs A) (by exact y3) (SRCA.out wx hI.low) (by omega) hI.low.size ?_
        intro v' w' hown hb
        refine ⟨_, (v', p.2), rfl, rfl, ?_, ?_⟩
        · intro j q hne hl hF
          match j, hne, hF with
          | 0, _, hF => exact hF
          | 1, _, hF => exact hF
          | 2, _, hF => exact hF
          | 3, _, hF => exact hF
          | 4, hne, _ => exact absurd rfl hne
          | 5, _, hF => exact hF
          | 6, _, hF => exact hF
          | 7, _, hF => exact hF
          | 8, _, hF => exact hF
          | 9, _, _ => exact absurd hl (by decide)
          | 10, _, _ => exact absurd hl (by decide)
          | j + 11, _, _ => trivial
        · show WoI w g0 n i A B (M 0) true (M 9) (v', p.2) w'
          rw [h0, h9]
          exact hI.app1 (by simpa using hown) hb
      | 5, hsrc, ho =>
        cases hsrc
      | 6, hsrc, ho =>
        cases hsrc
      | 7, hsrc, ho =>
        cases hsrc
      | 8, hsrc, ho =>
        cases hsrc
      | 9, hsrc, ho =>
        obtain rfl := Option.some.inj ho
        have y4 : y 4 = p.1 := (hd ⟨4, .data⟩ (by simp) rfl).2
        have y8 : y 8 = .slice (some ⟨gp, (i + 1) * 4, none⟩) (n - (i + 1)) (c - (i + 1)) := (hd ⟨8, .data⟩ (by simp) rfl).2
        have h4 := (hd ⟨4, .data⟩ (by simp) rfl).1
        rw [h4, hi'] at hI
        have h0 : M 0 = true := hI.first rfl
        rw [h0] at hI
        refine slot_appP (.tmp 12) (.tmp 16) 30 30 rfl w.heap.size 39 4 32 _ Try.underlying30 infoHd (by decide) rfl _ i (tcs A) (by exact y4) (hI.two rfl rfl) _ (n - (i + 1)) (tcs B) (by exact y8) (SRCB.out wx hI.low) (by omega) hI.low.size ?_
        intro v' w' hown hb
        refine ⟨_, (p.1, v'), rfl, rfl, ?_, ?_⟩
        · intro j q hne hl hF
          match j, hne, hF with
          | 0, _, hF => exact hF
          | 1, _, hF => exact hF
          | 2, _, hF => exact hF
          | 3, _, hF => exact hF
          | 4, _, hF => exact hF
          | 5, _, hF => exact hF
          | 6, _, hF => exact hF
          | 7, _, hF => exact hF
          | 8, _, hF => exact hF
          | 9, hne, _ => exact absurd rfl hne
          | 10, _, _ => exact absurd hl (by decide)
          | j + 11, _, _ => trivial
        · show WoI w g0 n i A B (M 0) (M 4) true (p.1, v') w'
          rw [h0, h4]
          exact hI.app2 (by rw [tcs_app, show n - 1 = i + (n - (i + 1)) by omega]; exact hown) hb
      | 10, hsrc, ho =>
        cases hsrc
      | j + 11, hsrc, ho => cases ho
    · rintro M p y wx hall hI
      have y10 : y 10 = p.2 := (hall 10 (by decide)).2
      try dsimp only
      rw [y10]
      rw [(hall 0 (by decide)).1, (hall 4 (by decide)).1, (hall 9 (by decide)).1] at hI
      have h3 := hI.three rfl
      obtain ⟨ao', c', hv⟩ := own_slK h3
      have H3 := Lib.hid h3
      have HB := Lib.hid hI.low
      have HV := Lib.hid hv
      clear hI hall h3 hv y10
      go_wp2_with fail
      go_ret
      rw [HV.out]
      exact ⟨ao', c', rfl, by rw [← HV.out]; exact H3.out, HB.out⟩
end Go.Proofs.Ytjjmjbemflhlbaa.Qu
