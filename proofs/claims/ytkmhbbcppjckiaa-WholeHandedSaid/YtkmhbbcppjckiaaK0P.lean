/- A worker is gone. -/
import Derived.Test.YtkmhbbcppjckiaaK0O
import Derived.Deep.MidRow
namespace Go.Proofs.Ytkmhbbcppjckiaa.Ma
open Go Go.RowKit Go.Proofs.Ytkmhbbcppjckiaa
open Go.Proofs.Ytkmhbbcppjckiaa.Hp (i64wf K3 wf3)
open Go.Proofs.Ytkmhbbcppjckiaa.Qu
open Go.Proofs.Ytkmhbbcppjckiaa.Dk (Frm below_drewN)
set_option linter.unusedVariables false
set_option linter.unusedSimpArgs false
set_option maxRecDepth 100000
variable {w w' wx : World} {T T' X : Nat → Prop} {b o : Nat} {R R0 : Array Value} {ty : TypeId} {M M' : MM}
/-- A queue is made empty. -/
theorem MT.clear (h : MT w T b o R0 ty M) {jn : Nat} (hj : jn < 65) : MPost w T b o R0 ty (M.q jn []) (w.setCells b (qo o jn) [.pointer none, .pointer none, .map none]) := by
  obtain ⟨R, mo, L, h1, h2, h3⟩ := h.queue hj
  refine h3 _ none [] ⟨⟨((h1.c.row.set0 none).set1 none).set2 none, trivial, by simp⟩, ⟨rfl, fun _ => rfl⟩, (fun x hx => by cases hx), by simp, by simp⟩ ?_ ?_
  · exact (((Frm.refl _ w).setCell (p := ⟨b, qo o jn, none⟩) (.inl (.inl rfl)) _).setCell (p := ⟨b, qo o jn + 1, none⟩) (.inl (.inl rfl)) _).setCell (p := ⟨b, qo o jn + 2, none⟩) (.inl (.inl rfl)) _
  · rintro q (e | e | ⟨x, hx, _⟩)
    · exact .inl (.inl e)
    · cases e
    · cases hx
theorem MT.there (h : MT w T b o R0 ty M) {jn : Nat} (hj : jn < 65) : w.there b (qo o jn) 3 := by
  obtain ⟨R, mo, L, h1, h2, h3⟩ := h.queue hj
  have hc := h1.c.row.cells
  intro i hi
  match i, hi with
  | 0, _ => exact ⟨by rw [Nat.add_zero, hc.c0]; rfl, hc.f0⟩
  | 1, _ => exact ⟨by rw [hc.c1]; rfl, hc.f1⟩
  | 2, _ => exact ⟨by rw [hc.c2]; rfl, hc.f2⟩
  | i + 3, hi => omega
/-- Behind a worker's loss. -/
def MM.lo (M : MM) (wk now : Int) : MM := if isW wk = true then ((frs now wk.toNat (keysT (M.W wk.toNat)) M).q wk.toNat []).l (M.E.filter fun l => !decide (l.wk = wk)) else M
def MM.loL (M : MM) (wk : Int) : List Ls := if isW wk = true then M.E.filter fun l => decide (l.wk = wk) else []
/-- What stands while the list is made. -/
structure LoI (w1 : World) (n : Nat) (l : List K3) (s5 : Bool) (p : Option Addr × Nat) (wx : World) : Prop where
  low : Below w1.heap.size w1 wx
  row : s5 = true → wx.ownsRow w1.heap.size 32 3 (.slice p.1 n p.2) n (kss l)
set_option maxHeartbeats 2000000 in
theorem mt_lose (h : MT w T b o R0 ty M) (wk now : Int) (hnow : i64wf now) (hE : M.E.length ≤ 1000) : Calls Try.prog 35 #[.pointer (some ⟨b, o, none⟩), .int .i64 wk, .int .i64 now] w fun e w' => ∃ a1 c1, e = .returned (.slice a1 (M.loL wk).length c1) ∧ LRow w' w.heap.size a1 c1 (M.loL wk) ∧ MPostX w T b o R0 ty (M.lo wk now) (fun q => (Value.slice a1 (M.loL wk).length c1).ownBlock = some q) w' := by
  obtain ⟨T1, hT1⟩ : ∃ T1 : Nat → Prop, T1 = fun q => T q ∧ q < w.heap.size := ⟨_, rfl⟩
  have h1 : MT w T1 b o R0 ty M := by rw [hT1]; exact h.lts
  have hTT : ∀ q, T1 q → T q := fun q hq => by rw [hT1] at hq; exact hq.1
  have hTlt : ∀ q, T1 q → q < w.heap.size := fun q hq => by rw [hT1] at hq; exact hq.2
  clear h hT1
  obtain ⟨w1, hw1⟩ : ∃ x, x = w.alloc (.cells #[.int .i64 wk] 3) := ⟨_, rfl⟩
  obtain ⟨g, hg⟩ : ∃ g, g = w.heap.size := ⟨_, rfl⟩
  have b1 : Below w.heap.size w w1 := by rw [hw1]; exact (Below.refl _ _).alloc (Nat.le_refl _) _
  have n1 : w1.heap[g]? = some (.cells #[.int .i64 wk] 3 (0, 0)) := by rw [hw1, hg]; exact heap_alloc_new _ _
  have hgT : ¬ T1 g := fun e => by have := hTlt _ e; omega
  have IW := Lib.hid (fun W => isWorker_any wk W)
  cases hi : isW wk with
  | false =>
    have e1 : M.lo wk now = M := by unfold MM.lo; rw [if_neg (by rw [hi]; decide)]
    have e2 : M.loL wk = [] := by unfold MM.loL; rw [if_neg (by rw [hi]; decide)]
    rw [e1, e2]
    rw [hi] at IW
    have H1 := Lib.hid h1
    have HW := Lib.hid hw1
    have HG := Lib.hid hg
    have B1 := Lib.hid b1
    have c1 : w1.cell? ⟨g, 0, none⟩ = some (.int .i64 wk) := cell_of_one n1
    have HTT := Lib.hid hTT
    clear h1 hw1 hg b1 n1 hgT hTT hTlt e1 e2 hi
    go_enter Try.func35, Try.ntmps35
    go_upto_region 1 with fail
    rw [← HW.out, ← HG.out]
    go_wp2_with (first
      | (with_reducible refine (IW.out _).mono ?_; rintro e w4 ⟨rfl, h4⟩; obtain rfl := h4.symm))
    go_ret
    refine ⟨none, 0, rfl, World.ownsRow_nil _ _ _ _, MPostX.of (Below.refl _ _) ((MPost.same H1.out B1.out).mono HTT.out) fun q hq => ?_⟩
    cases hq
  | true =>
    obtain ⟨jn, rfl, hj1, hj⟩ : ∃ jn : Nat, wk = (jn : Int) ∧ 1 ≤ jn ∧ jn < 65 := by
      have hi2 := hi
      simp only [isW, Bool.and_eq_true, decide_eq_true_eq] at hi2
      exact ⟨wk.toNat, by omega, by omega, by omega⟩
    obtain ⟨F, hF⟩ : ∃ F, F = M.E.filter fun l => decide (l.wk = (jn : Int)) := ⟨_, rfl⟩
    obtain ⟨l, hl⟩ : ∃ l, l = keysT (M.W jn) := ⟨_, rfl⟩
    obtain ⟨ML, hML⟩ : ∃ ML, ML = frs now jn l M := ⟨_, rfl⟩
    have e1 : M.lo (jn : Int) now = (ML.q jn []).l (M.E.filter fun l => !decide (l.wk = (jn : Int))) := by
      unfold MM.lo; rw [if_pos hi, Int.toNat_natCast, ← hl, ← hML]
    have e2 : M.loL (jn : Int) = F := by unfold MM.loL; rw [if_pos hi, ← hF]
    have e3 : (ML.q jn []).E = M.E := by rw [hML]; exact (frs_E now jn l M).1
    rw [e1, e2]
    rw [← e3] at hF hE ⊢
    rw [hi] at IW
    have eq : o + 1 + jn * 3 = qo o jn := by unfold qo; omega
    have LI := Lib.hid (show ∀ W, Below w1.heap.size w1 W → Calls Try.prog 19 #[.pointer (some ⟨b, o + 1 + jn * 3, none⟩)] W fun e w' => ∃ ao c, e = .returned (.slice ao l.length c) ∧ w'.ownsRow W.heap.size 32 3 (.slice ao l.length c) l.length (kss l) ∧ Below W.heap.size W w' from fun W hW => by
      rw [eq, show l.length = (M.W jn).length by rw [hl]; simp [keysT], hl]
      exact mq_list ((h1.below b1).below hW) hj)
    have WFL := Lib.hid (show ∀ k ∈ l, wf3 k from fun k hk => by
      rw [hl] at hk
      obtain ⟨x, hx, rfl⟩ := List.mem_map.1 hk
      exact (h1.wf hj x hx).1)
    obtain ⟨n, hn⟩ : ∃ n, n = l.length := ⟨_, rfl⟩
    have hn128 : n ≤ 128 := by
      rw [hn, hl]
      simp only [keysT, List.length_map]
      exact h1.few hj
    rw [← hn] at LI
    have HF := Lib.hid hF
    have HE := Lib.hid hE
    have HML := Lib.hid hML
    have HN := Lib.hid hn
    have H1 := Lib.hid (h1.below b1)
    have HW := Lib.hid hw1
    have HG := Lib.hid hg
    have B1 := Lib.hid b1
    have N1 := Lib.hid n1
    have HGT := Lib.hid hgT
    have HT := Lib.hid (And.intro hTT hTlt)
    have EQ := Lib.hid eq
    obtain ⟨M0, hM0⟩ : ∃ M0, M0 = M := ⟨_, rfl⟩
    rw [← hM0] at HML
    rw [← hM0] at H1
    clear hM0
    have c1 : w1.cell? ⟨g, 0, none⟩ = some (.int .i64 (jn : Int)) := cell_of_one n1
    have hj0 : (0 : Int) ≤ (jn : Int) := by omega
    have hj2 : (jn : Int) < 65 := by omega
    clear h1 hw1 hg b1 n1 hgT hTT hTlt e1 e2 e3 hF hE hl hML hn hi eq
    go_enter Try.func35, Try.ntmps35
    go_upto_region 1 with fail
    rw [← HW.out, ← HG.out]
    go_upto_region 3 with (first
      | (with_reducible refine (IW.out _).mono ?_; rintro e w4 ⟨rfl, h4⟩; obtain rfl := h4.symm))
    have LCJ := Lib.hid (fun (W : World) (hW : Below w1.heap.size w1 W) => (cell_of_one ((hW.block g (lt_of_rowK N1.out)).trans N1.out) : W.cell? ⟨g, 0, none⟩ = some (.int .i64 (jn : Int))))
    have I0 := Lib.hid (show LoI w1 n l false (none, 0) w1.drew from ⟨below_drewN (Below.refl _ _) 1, (fun e => by cases e)⟩)
    clear c1
    refine wp_region_par (α := (Option Addr × Nat)) (by kernel_rfl) (by kernel_rfl) (by kernel_rfl) (fun y => ⟨#[.pointer (some ⟨b, o, none⟩), .int .i64 (jn : Int), .int .i64 now, undef, .pointer (some ⟨g, 0, none⟩), undef, .slice none 0 0, undef, undef, .int .i64 (jn : Int), .bool true, .bool false, y 0, y 1, y 2, y 3, y 4, y 5, y 6, y 7, undef, undef, undef, undef, undef, undef, undef, undef, undef, undef, undef, undef, undef, undef, undef, undef, undef, undef], []⟩) (fun p j q => match j with | 0 => q = .pointer (some ⟨b, o, none⟩) | 1 => q = .int .i64 (jn : Int) | 2 => q = .pointer (some ⟨b, o, none⟩) | 3 => q = .pointer (some ⟨b, o + 1, none⟩) | 4 => q = .pointer (some ⟨b, o + 1 + jn * 3, none⟩) | 5 => q = .slice p.1 n p.2 | 6 => q = .int .i64 (n : Int) | 7 => q = .int .i64 0 | _ => True) (fun M p wx => LoI w1 n l (M 5) p wx) (fun i => [5].contains i) (fun i j => i == 5 && j == 6) (parOk_spec (by kernel_rfl)) ?_ ?_ ?_ (fun _ => undef) (none, 0) rfl (by exact I0.out)
    · intro i' o hsrc ho M p y wx hd hi' hI
      match i', ho with
      | 0, ho =>
        obtain rfl := Option.some.inj ho
        refine ⟨.pointer (some ⟨b, o, none⟩), ?_, rfl, rfl, hI⟩
        refine runWithP (fun z => match z with  | .tmp 0 => .pointer (some ⟨b, o, none⟩) | .const c => c | _ => undef) (by kernel_rfl) ?_
        go_simp
      | 1, ho =>
        obtain rfl := Option.some.inj ho
        have cx := LCJ.out wx hI.low
        refine ⟨.int .i64 (jn : Int), ?_, rfl, rfl, hI⟩
        refine runWithP (fun z => match z with  | .tmp 4 => .pointer (some ⟨g, 0, none⟩) | .const c => c | _ => undef) (by kernel_rfl) ?_
        go_simp
      | 2, ho =>
        obtain rfl := Option.some.inj ho
        have y0 : y 0 = .pointer (some ⟨b, o, none⟩) := hd ⟨0, .data⟩ (by simp) rfl
        refine ⟨.pointer (some ⟨b, o, none⟩), ?_, rfl, rfl, hI⟩
        refine runWithP (fun z => match z with | .tmp 12 => y 0 | .const c => c | _ => undef) (by kernel_rfl) ?_
        rw [y0]
        go_simp
      | 3, ho =>
        obtain rfl := Option.some.inj ho
        have y0 : y 2 = .pointer (some ⟨b, o, none⟩) := hd ⟨2, .data⟩ (by simp) rfl
        refine ⟨.pointer (some ⟨b, o + 1, none⟩), ?_, rfl, rfl, hI⟩
        refine runWithP (fun z => match z with | .tmp 14 => y 2 | .const c => c | _ => undef) (by kernel_rfl) ?_
        rw [y0]
        go_simp
      | 4, ho =>
        obtain rfl := Option.some.inj ho
        have y0 : y 3 = .pointer (some ⟨b, o + 1, none⟩) := hd ⟨3, .data⟩ (by simp) rfl
        have y1 : y 1 = .int .i64 (jn : Int) := hd ⟨1, .data⟩ (by simp) rfl
        refine ⟨.pointer (some ⟨b, o + 1 + jn * 3, none⟩), ?_, rfl, rfl, hI⟩
        refine runWithP (fun z => match z with | .tmp 15 => y 3 | .tmp 13 => y 1 | .const c => c | _ => undef) (by kernel_rfl) ?_
        rw [y0, y1]
        go_simp
      | 5, ho =>
        obtain rfl := Option.some.inj ho
        cases hsrc
      | 6, ho =>
        obtain rfl := Option.some.inj ho
        have y0 : y 5 = .slice p.1 n p.2 := hd ⟨5, .data⟩ (by simp) rfl
        refine ⟨.int .i64 (n : Int), ?_, rfl, rfl, hI⟩
        refine runWithP (fun z => match z with | .tmp 17 => y 5 | .const c => c | _ => undef) (by kernel_rfl) ?_
        rw [y0]
        go_simp
      | 7, ho =>
        obtain rfl := Option.some.inj ho
        refine ⟨.int .i64 0, ?_, rfl, rfl, hI⟩
        refine runWithP (fun z => match z with  | .const c => c | _ => undef) (by kernel_rfl) ?_
        go_simp
      | j + 8, ho => cases ho
    · intro i' o hsrc ho M p y wx hd hi' hlat hI
      obtain rfl : i' = 5 := by simpa using hsrc
      obtain rfl := Option.some.inj ho
      have y4 : y 4 = .pointer (some ⟨b, o + 1 + jn * 3, none⟩) := (hd ⟨4, .data⟩ (by simp) rfl).2
      rw [hi'] at hI
      refine slot_call #[.pointer (some ⟨b, o + 1 + jn * 3, none⟩)] rfl Try.func19 (by kernel_rfl) (by kernel_rfl) (by simp [Act.eval, y4]) ?_
      refine (LI.out wx hI.low).mono ?_
      rintro e w' ⟨at1, ct, rfl, hown1, hb1⟩
      refine ⟨_, rfl, _, (at1, ct), rfl, rfl, ?_, ?_⟩
      · intro j q hne hl hF
        match j, hne, hF with
        | 0, _, hF => exact hF
        | 1, _, hF => exact hF
        | 2, _, hF => exact hF
        | 3, _, hF => exact hF
        | 4, _, hF => exact hF
        | 5, hne, _ => exact absurd rfl hne
        | 6, _, _ => exact absurd hl (by decide)
        | 7, _, hF => exact hF
        | j + 8, _, _ => trivial
      · exact ⟨hI.low.trans (hb1.mono hI.low.size), fun _ => own_baseQ hown1 hI.low.size⟩
    · rintro M p y wx hall hI
      have y5 : y 5 = .slice p.1 n p.2 := (hall 5 (by decide)).2
      have y6 : y 6 = .int .i64 (n : Int) := (hall 6 (by decide)).2
      have y7 : y 7 = .int .i64 0 := (hall 7 (by decide)).2
      have y4 : y 4 = .pointer (some ⟨b, o + 1 + jn * 3, none⟩) := (hall 4 (by decide)).2
      try dsimp only
      rw [y4, y5, y6, y7]
      rw [(hall 5 (by decide)).1] at hI
      obtain ⟨at1, ct⟩ := p
      obtain ⟨w2, hw2⟩ : ∃ w2, w2 = wx := ⟨_, rfl⟩
      rw [← hw2] at hI ⊢
      have HO1 := Lib.hid (show w2.ownsRow w1.heap.size 32 3 (.slice at1 n ct) n (kss l) from hI.row rfl)
      have B2 := Lib.hid hI.low
      obtain ⟨z0, hz0⟩ : ∃ z, z = y 0 := ⟨_, rfl⟩
      obtain ⟨z1, hz1⟩ : ∃ z, z = y 1 := ⟨_, rfl⟩
      obtain ⟨z2, hz2⟩ : ∃ z, z = y 2 := ⟨_, rfl⟩
      obtain ⟨z3, hz3⟩ : ∃ z, z = y 3 := ⟨_, rfl⟩
      rw [← hz0, ← hz1, ← hz2, ← hz3]
      have H2 := Lib.hid (H1.out.below B2.out)
      have N2 := Lib.hid ((B2.out.block g (lt_of_rowK N1.out)).trans N1.out)
      clear hI hall y4 y5 y6 y7 hw2 hz0 hz1 hz2 hz3
      go_wp2_with fail
      go_loopw [19] (fun iv wr => frRel w2 T1 b o R0 ty now jn l ML iv wr) (fun iv _ => n - (intOf iv).toNat)
      case atStart => exact ⟨0, M0, Nat.zero_le _, rfl, HML.out.symm, .same H2.out (Below.refl _ _)⟩
      case round =>
        obtain ⟨wq, rfl⟩ : ∃ wq : World, wq = wr := ⟨_, rfl⟩
        obtain ⟨i, M2, hi, rfl, hfr, hP2⟩ := hrel
        by_cases hin2 : i < n
        · have hil : i < l.length := by rw [← HN.out]; exact hin2
          obtain ⟨k, hk⟩ : ∃ k, l[i]? = some k := ⟨_, List.getElem?_eq_getElem hil⟩
          have hwf := WFL.out k (List.mem_of_getElem? hk)
          rw [dropK hk, frs] at hfr
          obtain ⟨gp, hgp, hge, hglt, _⟩ := own_cellK HO1.out (kss_at _ i k hk 0 _ rfl)
          subst hgp
          have gpT : ¬ T1 gp := fun e => by have h5 := HT.out.2 gp e; have h6 := B1.out.size; omega
          have KX : ∀ j v, (kcs k)[j]? = some v → wq.cell? ((⟨gp, i * 3, none⟩ : Addr).add j) = some v := by
            intro j v hj
            obtain ⟨g2, e2, hge2, hlt, hc⟩ := own_cellK HO1.out (kss_at _ i k hk j v hj)
            injection e2 with e2
            injection e2 with e2
            subst e2
            rw [Addr.add_mid, World.cell?_of_block (w := w2) (a := ⟨gp, i * 3 + j, none⟩) (hP2.1.block gp hlt gpT)]
            exact hc
          obtain ⟨w7, hw7⟩ : ∃ w7, w7 = wq.alloc (.cells (kcs k).toArray 32) := ⟨_, rfl⟩
          obtain ⟨g7, hg7⟩ : ∃ g, g = wq.heap.size := ⟨_, rfl⟩
          have b7 : Below wq.heap.size wq w7 := by rw [hw7]; exact (Below.refl _ _).alloc (Nat.le_refl _) _
          have n7 : w7.heap[g7]? = some (.cells (kcs k).toArray 32 (0, 0)) := by rw [hw7, hg7]; exact heap_alloc_new _ _
          have KT := box_at n7
          have nw := hP2.keepRow N2.out HGT.out
          have cn : w7.cell? ⟨g, 0, none⟩ = some (.int .i64 (jn : Int)) := cell_of_one ((b7.block g (lt_of_rowK nw)).trans nw)
          have SX := Lib.hid (show (Try.prog.info? 32).map (·.size) = some (kcs k).toArray.size by kernel_rfl)
          have OX := Lib.hid (kcs_one k)
          obtain ⟨hF2, T2, hM2, hT2⟩ := hP2
          have FR := Lib.hid (mt_free (hM2.below b7) hj k hwf now hnow)
          have HF2 := Lib.hid hF2
          have HT2 := Lib.hid hT2
          have HFR := Lib.hid hfr
          have HW7 := Lib.hid hw7
          have HG7 := Lib.hid hg7
          have B7 := Lib.hid b7
          have HK := Lib.hid hk
          have hi2 : (i : Int) < (n : Int) := by omega
          have h0 : (0 : Int) ≤ (i : Int) := by omega
          clear hF2 hT2 hM2 hfr hw7 hg7 b7 n7 nw hk hwf hge hglt gpT
          go_upto_region 6 with (first
            | (with_reducible show wpList _ _ _ _ _ _; refine wpList_load_allW rfl 32 (.tmp 21) rfl ⟨gp, i * 3, none⟩ rfl (kcs k) _ KX Try.underlying32 rfl (tkSize _) ?_)
            | (with_reducible show wpList _ _ _ _ _ _; refine wpList_store_newW rfl 32 (.tmp 8) (.tmp 22) rfl 32 _ (kcs k).toArray (by with_unfolding_all rfl) (by with_unfolding_all rfl) SX.out rfl OX.out ?_))
          rw [← HW7.out, ← HG7.out]
          simp only [Act.put, List.setIfInBounds_toArray, List.set_cons_zero, List.set_cons_succ, List.getElem_toArray, List.getElem_cons_zero, List.getElem_cons_succ]
          go_wp2_with (first
            | (with_reducible show wpList _ _ _ _ _ _; refine wpList_load_allW rfl 32 (.tmp 8) rfl ⟨g7, 0, none⟩ rfl (kcs k) _ KT Try.underlying32 rfl (tkSize _) ?_)
            | (with_reducible refine FR.out.mono ?_; rintro e w8 ⟨rfl, hP8⟩))
          exact ⟨⟨i + 1, M2.fr k jn now, by rw [← HN.out]; omega, rfl, HFR.out, MPost.glue HF2.out HT2.out B7.out hP8⟩, by simp [intOf]; omega⟩
        · have hie : i = l.length := by have := HN.out; omega
          have hin3 : ¬ (i : Int) < (n : Int) := by omega
          have hMM : M2 = ML := by
            rw [hie, List.drop_length] at hfr
            exact hfr
          subst hMM
          have nw := hP2.keepRow N2.out HGT.out
          have cw : wq.cell? ⟨g, 0, none⟩ = some (.int .i64 (jn : Int)) := cell_of_one nw
          obtain ⟨hF2, T2, hM2, hT2⟩ := hP2
          have TH := Lib.hid (show (wq.drew).there b (o + 1 + jn * 3) 3 from by rw [EQ.out]; exact (hM2.below (below_drewN (Below.refl _ _) 1)).there hj)
          have HF2 := Lib.hid hF2
          have HT2 := Lib.hid hT2
          have HM2 := Lib.hid hM2
          have NW := Lib.hid nw
          clear hfr hF2 hT2 hM2 hie nw
          go_upto_region 8 with fail
          refine wp_region_quiet_tail 6 (by kernel_rfl) (by kernel_rfl) ?_
          simp only [List.take_succ_cons, List.take_zero, List.drop_succ_cons, List.drop_zero]
          repeat (go_big_quiet_step (fail))
          refine wpQuiet_nil ?_
          intro _ hw'
          obtain ⟨nq, hw''⟩ := hw'
          subst hw''
          have B6 := Lib.hid (below_drewN (Below.refl wq.heap.size wq) nq)
          obtain ⟨w6, hw6⟩ : ∃ x, x = wq.drewN nq := ⟨_, rfl⟩
          rw [← hw6] at B6 ⊢
          have TH6 := Lib.hid (show w6.there b (o + 1 + jn * 3) 3 from by rw [EQ.out]; exact (HM2.out.below B6.out).there hj)
          have CLR := Lib.hid (show MPost w6 T2 b o R0 ty (M2.q jn []) (w6.setCells b (o + 1 + jn * 3) (#[Value.pointer none, Value.pointer none, Value.map none] : Array Value).toList) from by
            rw [EQ.out]
            exact (HM2.out.below B6.out).clear hj)
          have n6 := (B6.out.block g (lt_of_rowK NW.out)).trans NW.out
          have gT2 : ¬ T2 g := fun e => by
            rcases (HT2.out g e).1 with h | h
            · exact HGT.out h
            · have := lt_of_rowK N2.out; omega
          obtain ⟨w9, hw9⟩ : ∃ x, x = w6.setCells b (o + 1 + jn * 3) (#[Value.pointer none, Value.pointer none, Value.map none] : Array Value).toList := ⟨_, rfl⟩
          rw [← hw9] at CLR
          have HW9 := Lib.hid hw9
          have N9 := Lib.hid (CLR.out.keepRow n6 gT2)
          have PF := Lib.hid (MPost.glue HF2.out HT2.out B6.out CLR.out)
          obtain ⟨hF9, T9, hM9, hT9⟩ := PF.out
          have EN := Lib.hid (mt_end hM9 HE.out (asks_wk N9.out) (enters_of Try.func61 (by kernel_rfl) rfl))
          rw [← HF.out] at EN
          have HF9 := Lib.hid hF9
          have HT9 := Lib.hid hT9
          clear hw6 n6 gT2 hw9 hF9 hM9 hT9
          refine wpList_store_mid rfl 29 (.tmp 34) (.tmp 31) rfl b (o + 1 + jn * 3) #[.pointer none, .pointer none, .map none] rfl rfl TH6.out (by kernel_rfl) (by kernel_rfl) ?_
          rw [← HW9.out]
          go_wp2_with (first
            | (with_reducible refine EN.out.mono ?_; rintro e w5 ⟨a1, c1, rfl, hL, hX⟩))
          go_ret
          exact ⟨a1, c1, rfl, own_baseQ hL (Nat.le_trans (Nat.le_trans B1.out.size B2.out.size) HF9.out.size), MPostX.chain (B1.out.trans (B2.out.mono B1.out.size)) HF9.out HT9.out HT.out.1 hX⟩
end Go.Proofs.Ytkmhbbcppjckiaa.Ma
/- A law's own Match: the calls, and the law's boxes that they leave alone. -/
namespace Go.Proofs.Ytkmhbbcppjckiaa.Ma
open Go Go.RowKit Go.Proofs.Ytkmhbbcppjckiaa
open Go.Proofs.Ytkmhbbcppjckiaa.Hp (i64wf K3 wf3)
open Go.Proofs.Ytkmhbbcppjckiaa.Qu
open Go.Proofs.Ytkmhbbcppjckiaa.Dk (Frm below_drewN)
set_option linter.unusedVariables false
set_option linter.unusedSimpArgs false
set_option maxRecDepth 100000
variable {w w' wx : World} {T T' X : Nat → Prop} {b o : Nat} {R R0 : Array Value} {ty : TypeId} {M M' : MM}
def M0 : MM := ⟨0, fun _ => [], []⟩
theorem flat3 {a b c : Value} {T : List Value} : ∀ (n k : Nat), k < n → ((List.replicate n [a, b, c]).flatten ++ T)[3 * k]? = some a ∧ ((List.replicate n [a, b, c]).flatten ++ T)[3 * k + 1]? = some b ∧ ((List.replicate n [a, b, c]).flatten ++ T)[3 * k + 2]? = some c
  | n + 1, 0, _ => ⟨rfl, rfl, rfl⟩
  | n + 1, k + 1, h => by
    have ih := flat3 (a := a) (b := b) (c := c) (T := T) n k (by omega)
    rw [show (List.replicate (n + 1) [a, b, c]).flatten ++ T = a :: b :: c :: ((List.replicate n [a, b, c]).flatten ++ T) from rfl]
    rw [show 3 * (k + 1) = 3 * k + 3 by omega]
    exact ih
theorem zero_cells : Try.zeroCells70 = (.int .u64 0 :: ((List.replicate 65 [Value.pointer none, Value.pointer none, Value.map none]).flatten ++ [Value.slice none 0 0])).toArray := by kernel_rfl
theorem zero_rest : ∀ i, 197 ≤ i → Try.zeroCells70[i]? = none := by
  intro i hi
  have hs : Try.zeroCells70.size = 197 := by kernel_rfl
  exact Array.getElem?_eq_none (by omega)
/-- The zero Match, at the beginning of a row. -/
theorem MtAt.zero {R : Array Value} (hh : w.heap[b]? = some (.cells R ty (0, 0))) (hR : ∀ i, i < 197 → R[i]? = Try.zeroCells70[i]?) (ht : ty ≠ 118) : MtAt w b 0 R ty 0 (fun _ => none) (fun _ => []) none 0 [] := by
  have hq : ∀ k, k < 65 → R[1 + 3 * k]? = some (.pointer none) ∧ R[1 + 3 * k + 1]? = some (.pointer none) ∧ R[1 + 3 * k + 2]? = some (.map none) := by
    intro k hk
    have h := flat3 (a := Value.pointer none) (b := Value.pointer none) (c := Value.map none) (T := [Value.slice none 0 0]) 65 k hk
    rw [hR _ (by omega), hR _ (by omega), hR _ (by omega), zero_cells]
    simp only [List.getElem?_toArray]
    rw [show 1 + 3 * k = 3 * k + 1 by omega, show 3 * k + 1 + 1 = (3 * k + 1) + 1 by omega, show 3 * k + 1 + 2 = (3 * k + 2) + 1 by omega]
    simp only [List.getElem?_cons_succ]
    exact h
  refine ⟨hh, by rw [hR 0 (by decide), zero_cells]; rfl, fun k hk => ?_, fun k j _ _ _ q h1 _ => ?_, by rw [hR 196 (by decide)]; kernel_rfl, World.ownsRow_nil _ _ _ _, fun k hk q _ h2 => by cases h2⟩
  · obtain ⟨e0, e1, e2⟩ := hq k hk
    refine ⟨⟨RowQ.of hh ?_ ?_ ?_ ht, trivial, by simp⟩, ⟨rfl, fun _ => rfl⟩, (fun x hx => by cases hx), by simp, by simp⟩
    · rw [show qo 0 k = 1 + 3 * k by unfold qo; omega]; exact e0
    · rw [show qo 0 k = 1 + 3 * k by unfold qo; omega]; exact e1
    · rw [show qo 0 k = 1 + 3 * k by unfold qo; omega]; exact e2
  · rcases h1 with e | e | ⟨x, hx, _⟩
    · exact e
    · cases e
    · cases hx
theorem MT.new (w : World) : MT (w.alloc (.cells Try.zeroCells70 70)) (fun q => q = w.heap.size) w.heap.size 0 #[] 70 M0 :=
  ⟨_, _, _, _, _, MtAt.zero (heap_alloc_new w _) (fun _ _ => rfl) (by decide), fun k hk => rfl, (fun i hi => by
    rw [zero_rest i (by omega)]; rfl), (fun k hk q hq => by
    rcases hq with e | e | ⟨x, hx, _⟩
    · exact e
    · cases e
    · cases hx), fun q hq => by cases hq⟩
/-- What a call leaves alone. -/
structure KX (X : Nat → Prop) (wx w' : World) : Prop where
  keep : ∀ q, X q → w'.heap[q]? = wx.heap[q]?
  size : wx.heap.size ≤ w'.heap.size
/-- A Match of somebody's (its row at b), who has boxes of their own. -/
structure MX (w : World) (b : Nat) (X : Nat → Prop) (M : MM) (wx : World) : Prop where
  m : MPostX w (fun q => q = b) b 0 #[] 70 M X wx
  lt : ∀ q, X q → q < wx.heap.size
theorem MX.new (w : World) : MX (w.alloc (.cells Try.zeroCells70 70)) w.heap.size (fun _ => False) M0 (w.alloc (.cells Try.zeroCells70 70)) :=
  ⟨⟨Frm.refl _ _, _, MT.new w, fun q hq => ⟨.inl hq, by rw [hq]; exact lt_of_rowK (heap_alloc_new w _), fun h => h⟩⟩, fun q h => h.elim⟩
section
theorem MX.step (h : MX w b X M wx) : ∃ T', MT wx T' b 0 #[] 70 M ∧ ∀ M' w', MPost wx T' b 0 #[] 70 M' w' → MX w b X M' w' ∧ KX X wx w' := by
  obtain ⟨⟨hF, T', hM, hT⟩, hX⟩ := h
  refine ⟨T', hM, fun M' w' hP => ⟨⟨.glue hF hT hP hX, fun q hq => Nat.lt_of_lt_of_le (hX q hq) hP.1.size⟩, ⟨fun q hq => hP.1.block q (hX q hq) fun e => (hT q e).2.2 hq, hP.1.size⟩⟩⟩
theorem MX.below (h : MX w b X M wx) (hb : Below wx.heap.size wx w') : MX w b X M w' ∧ KX X wx w' :=
  ⟨⟨h.m.below hb, fun q hq => Nat.lt_of_lt_of_le (h.lt q hq) hb.size⟩, ⟨fun q hq => hb.block q (h.lt q hq), hb.size⟩⟩
/-- One box more. -/
theorem MX.box (h : MX w b X M wx) (ob : Obj) : MX w b (fun q => X q ∨ q = wx.heap.size) M (wx.alloc ob) := by
  have b1 : Below wx.heap.size wx (wx.alloc ob) := (Below.refl _ _).alloc (Nat.le_refl _) _
  refine ⟨h.m.alloc ob, fun q hq => ?_⟩
  rcases hq with hq | hq
  · exact Nat.lt_of_lt_of_le (h.lt q hq) b1.size
  · rw [hq]; exact lt_of_rowK (heap_alloc_new wx ob)
theorem MX.low {B : Nat} (h : MX w b X M wx) (hb : B ≤ b) (hB : B ≤ w.heap.size) : Below B w wx := h.m.1.below (fun q _ hq => by rw [hq]; exact hb) hB
theorem mx_add (h : MX w b X M wx) (k : K3) (hk : wf3 k) (wk now : Int) (hn : i64wf now) (hE : M.E.length ≤ 1000) : Calls Try.prog 25 #[.pointer (some ⟨b, 0, none⟩), .agg (kcs k).toArray, .int .i64 wk, .int .i64 now] wx fun e w' => e = .returned (.int .i64 (M.adE k wk)) ∧ MX w b X (M.ad k wk now) w' ∧ KX X wx w' := by
  obtain ⟨T', hM, hS⟩ := h.step
  exact (mt_add hM k hk wk now hn hE).mono fun e w' hh => ⟨hh.1, hS _ _ hh.2⟩
theorem mx_poll (h : MX w b X M wx) (wk kind now : Int) (hE : M.E.length ≤ 256) (hg0 : 0 ≤ M.giv) (hg1 : M.giv < 9223372036854775807) (hn0 : -9223372036854775808 ≤ now) (hn1 : now + 20 < 9223372036854775808) : Calls Try.prog 27 #[.pointer (some ⟨b, 0, none⟩), .int .i64 wk, .int .i64 kind, .int .i64 now] wx fun e w' => e = .returned (.tuple #[.agg (M.plL wk kind now).cs.toArray, .int .i64 (M.plE wk kind)]) ∧ MX w b X (M.pl wk kind now) w' ∧ KX X wx w' := by
  obtain ⟨T', hM, hS⟩ := h.step
  exact (mt_poll hM wk kind now hE hg0 hg1 hn0 hn1).mono fun e w' hh => ⟨hh.1, hS _ _ hh.2⟩
theorem mx_get (h : MX w b X M wx) (tok now : Int) (hE : M.E.length ≤ 1000) : Calls Try.prog 29 #[.pointer (some ⟨b, 0, none⟩), .int .u64 tok, .int .i64 now] wx fun e w' => e = .returned (.tuple #[.agg (M.gt tok now).1.cs.toArray, .int .i64 (M.gt tok now).2]) ∧ MX w b X M w' ∧ KX X wx w' := by
  obtain ⟨T', hM, hS⟩ := h.step
  exact (mt_get hM tok now hE).mono fun e w' hh => ⟨hh.1, h.below hh.2⟩
theorem mx_known (h : MX w b X M wx) (k : K3) (hk : wf3 k) (hE : M.E.length ≤ 1000) : Calls Try.prog 40 #[.pointer (some ⟨b, 0, none⟩), .agg (kcs k).toArray] wx fun e w' => e = .returned (.bool (M.kn k)) ∧ MX w b X M w' ∧ KX X wx w' := by
  obtain ⟨T', hM, hS⟩ := h.step
  exact (mt_known hM k hk hE).mono fun e w' hh => ⟨hh.1, h.below hh.2⟩
theorem mx_waiting (h : MX w b X M wx) : Calls Try.prog 42 #[.pointer (some ⟨b, 0, none⟩)] wx fun e w' => ∃ ao c, e = .returned (.slice ao M.wt.length c) ∧ w'.ownsRow wx.heap.size 32 3 (.slice ao M.wt.length c) M.wt.length (kss M.wt) ∧ Below wx.heap.size wx w' ∧ MX w b X M w' ∧ KX X wx w' := by
  obtain ⟨T', hM, hS⟩ := h.step
  exact (mt_waiting hM).mono fun e w' ⟨ao, c, h1, h2, h3⟩ => ⟨ao, c, h1, h2, h3, h.below h3⟩
theorem mx_leases (h : MX w b X M wx) (hE : M.E.length ≤ 1000) : Calls Try.prog 43 #[.pointer (some ⟨b, 0, none⟩)] wx fun e w' => ∃ ao c, e = .returned (.slice ao M.E.length c) ∧ LRow w' wx.heap.size ao c M.E ∧ Below wx.heap.size wx w' ∧ MX w b X M w' ∧ KX X wx w' := by
  obtain ⟨T', hM, hS⟩ := h.step
  exact (mt_leases hM hE).mono fun e w' ⟨ao, c, h1, h2, h3⟩ => ⟨ao, c, h1, h2, h3, h.below h3⟩
theorem mx_given (h : MX w b X M wx) : Calls Try.prog 49 #[.pointer (some ⟨b, 0, none⟩)] wx fun e w' => e = .returned (.int .u64 M.giv) ∧ w' = wx := by
  obtain ⟨T', hM, hS⟩ := h.step
  exact mt_given hM
end
/-- Done, as a law sees it. -/
def MM.dn (M : MM) (tok : Int) : MM := M.l (M.E.filter fun l => !decide (l.tok = tok))
theorem mt_done (h : MT w T b o R0 ty M) (hE : M.E.length ≤ 1000) (tok : Int) : Calls Try.prog 30 #[.pointer (some ⟨b, o, none⟩), .int .u64 tok] w fun e w' => e = .returned (.bool (M.E.any fun l => decide (l.tok = tok))) ∧ MPost w T b o R0 ty (M.dn tok) w' := by
  obtain ⟨w1, hw1⟩ : ∃ x, x = w.alloc (.cells #[.int .u64 tok] 62) := ⟨_, rfl⟩
  obtain ⟨g, hg⟩ : ∃ g, g = w.heap.size := ⟨_, rfl⟩
  have b1 : Below w.heap.size w w1 := by rw [hw1]; exact (Below.refl _ _).alloc (Nat.le_refl _) _
  have n1 : w1.heap[g]? = some (.cells #[.int .u64 tok] 62 (0, 0)) := by rw [hw1, hg]; exact heap_alloc_new _ _
  have BT := Lib.hid (byToken_any tok w)
  rw [← hw1, ← hg] at BT
  have EN := Lib.hid (mt_end (h.below b1) hE (asks_tok n1) (enters_of Try.func70 (by kernel_rfl) rfl))
  have HA := Lib.hid (any_fil (fun l => decide (l.tok = tok)) M.E)
  obtain ⟨N, hN⟩ : ∃ N, N = (M.E.filter fun l => decide (l.tok = tok)).length := ⟨_, rfl⟩
  rw [← hN] at HA EN
  obtain ⟨A, hA⟩ : ∃ A, A = M.E.any fun l => decide (l.tok = tok) := ⟨_, rfl⟩
  rw [← hA] at HA ⊢
  obtain ⟨MD, hMD⟩ : ∃ MD, MD = M.dn tok := ⟨_, rfl⟩
  rw [← hMD]
  rw [show M.l (M.E.filter fun l => !decide (l.tok = tok)) = MD from hMD.symm] at EN
  have B1 := Lib.hid b1
  clear h hw1 hg b1 n1 hE hN hA hMD
  go_enter Try.func30, Try.ntmps30
  go_wp2_with (first
    | (with_reducible refine BT.out.mono ?_; rintro e w5 ⟨rfl, rfl⟩)
    | (with_reducible refine EN.out.mono ?_; rintro e w6 ⟨a1, c1, rfl, hl, hm⟩; have HM := Lib.hid hm; clear hl hm))
  go_ret
  refine ⟨?_, MPost.first' B1.out HM.out.post⟩
  have e : decide (0 < N) = A := by rw [← HA.out]; simp
  exact congrArg (fun z => Ending.returned (.bool z)) e
theorem mx_done (h : MX w b X M wx) (tok : Int) (hE : M.E.length ≤ 1000) : Calls Try.prog 30 #[.pointer (some ⟨b, 0, none⟩), .int .u64 tok] wx fun e w' => e = .returned (.bool (M.E.any fun l => decide (l.tok = tok))) ∧ MX w b X (M.dn tok) w' ∧ KX X wx w' := by
  obtain ⟨T', hM, hS⟩ := h.step
  exact (mt_done hM hE tok).mono fun e w' hh => ⟨hh.1, hS _ _ hh.2⟩
theorem mx_expire (h : MX w b X M wx) (now : Int) (hnow : i64wf now) (hE : M.E.length ≤ 1000) : Calls Try.prog 31 #[.pointer (some ⟨b, 0, none⟩), .int .i64 now] wx fun e w' => ∃ a1 c1, e = .returned (.slice a1 (M.E.filter fun l => decide (l.til ≤ now)).length c1) ∧ LRow w' wx.heap.size a1 c1 (M.E.filter fun l => decide (l.til ≤ now)) ∧ MX w b X (M.ex now) w' ∧ KX X wx w' := by
  obtain ⟨T', hM, hS⟩ := h.step
  exact (mt_expire hM now hnow hE).mono fun e w' ⟨a1, c1, h1, h2, h3⟩ => ⟨a1, c1, h1, h2, hS _ _ h3.post⟩
theorem mx_lose (h : MX w b X M wx) (wk now : Int) (hnow : i64wf now) (hE : M.E.length ≤ 1000) : Calls Try.prog 35 #[.pointer (some ⟨b, 0, none⟩), .int .i64 wk, .int .i64 now] wx fun e w' => ∃ a1 c1, e = .returned (.slice a1 (M.loL wk).length c1) ∧ LRow w' wx.heap.size a1 c1 (M.loL wk) ∧ MX w b X (M.lo wk now) w' ∧ KX X wx w' := by
  obtain ⟨T', hM, hS⟩ := h.step
  exact (mt_lose hM wk now hnow hE).mono fun e w' ⟨a1, c1, h1, h2, h3⟩ => ⟨a1, c1, h1, h2, hS _ _ h3.post⟩
/-- Two leases held against each other. -/
instance : DecidableEq Ls := fun a b => decidable_of_iff (a.tok = b.tok ∧ a.key = b.key ∧ a.wk = b.wk ∧ a.til = b.til) (by cases a; cases b; simp)
theorem lease_equal (a b : Ls) (w : World) : (Op.equalIn 10000 80 (.agg a.cs.toArray) (.agg b.cs.toArray)).run Try.prog w = .ok (decide (a = b)) w := by
  obtain ⟨a0, ⟨a1, a2, a3⟩, a4, a5⟩ := a
  obtain ⟨b0, ⟨b1, b2, b3⟩, b4, b5⟩ := b
  rw [show (10000 : Nat) = 9999 + 1 from rfl]
  have he : ∀ (a b : Int) w, (Op.equalIn 9999 3 (.int .i64 a) (.int .i64 b)).run Try.prog w = .ok (a == b) w := fun a b w => run_equalIn_int w 9998 3 .i64 .i64 a b Try.underlying3
  have he2 : ∀ (a b : Int) w, (Op.equalIn 9999 2 (.int .i64 a) (.int .i64 b)).run Try.prog w = .ok (a == b) w := fun a b w => run_equalIn_int w 9998 2 .i64 .i64 a b Try.underlying2
  have he4 : ∀ (a b : Int) w, (Op.equalIn 9999 62 (.int .u64 a) (.int .u64 b)).run Try.prog w = .ok (a == b) w := fun a b w => run_equalIn_int w 9998 62 .u64 .u64 a b Try.underlying62
  have he3 : ∀ (a b : K3) w, (Op.equalIn 9999 32 (.agg (kcs a).toArray) (.agg (kcs b).toArray)).run Try.prog w = .ok (decide (a = b)) w := by
    intro a b w
    obtain ⟨a1, a2, a3⟩ := a
    obtain ⟨b1, b2, b3⟩ := b
    rw [show (9999 : Nat) = 9998 + 1 from rfl]
    have he : ∀ (a b : Int) w, (Op.equalIn 9998 3 (.int .i64 a) (.int .i64 b)).run Try.prog w = .ok (a == b) w := fun a b w => run_equalIn_int w 9997 3 .i64 .i64 a b Try.underlying3
    have he2 : ∀ (a b : Int) w, (Op.equalIn 9998 2 (.int .i64 a) (.int .i64 b)).run Try.prog w = .ok (a == b) w := fun a b w => run_equalIn_int w 9997 2 .i64 .i64 a b Try.underlying2
    by_cases h1 : a1 = b1 <;> by_cases h2 : a2 = b2 <;> by_cases h3 : a3 = b3 <;> simp [go_sem, Try.underlying32, he, he2, kcs, h1, h2, h3]
  have he5 : ∀ w, (Op.equalIn 9999 32 (.agg #[.int .i64 a1, .int .i64 a2, .int .i64 a3]) (.agg #[.int .i64 b1, .int .i64 b2, .int .i64 b3])).run Try.prog w = .ok (decide ((a1, a2, a3) = (b1, b2, b3))) w := he3 (a1, a2, a3) (b1, b2, b3)
  clear he3
  by_cases h0 : a0 = b0 <;> by_cases h1 : (a1, a2, a3) = (b1, b2, b3) <;> by_cases h4 : a4 = b4 <;> by_cases h5 : a5 = b5 <;> simp only [h0, h1, h4, h5] at he5 ⊢ <;> simp [go_sem, Try.underlying80, he, he2, he4, he5, Ls.cs, h0, h1, h4, h5]
theorem lease_eql (a b : Ls) (w : World) : (binOp .eql 80 (.agg a.cs.toArray) (.agg b.cs.toArray)).run Try.prog w = .ok (.bool (decide (a = b))) w := by
  rw [run_eql_struct, lease_equal]
  rfl
theorem lease_neq (a b : Ls) (w : World) : (binOp .neq 80 (.agg a.cs.toArray) (.agg b.cs.toArray)).run Try.prog w = .ok (.bool (!decide (a = b))) w := by
  rw [run_neq_struct, lease_equal]
  rfl
theorem lease_guard : Try.prog.eqGuardType Try.prog.depth 80 = false := by kernel_rfl
theorem exec_leql {o : Oper} {ev : Operand → Value} {x y : Operand} {s : TypeId} (ho : o.op = .binOp .eql 80 x y s) (a b : Ls) (hx : ev x = .agg a.cs.toArray) (hy : ev y = .agg b.cs.toArray) (w : World) :
    (execOp ev o).run Try.prog w = .ok (.value (.bool (decide (a = b)))) w := by
  have hg := lease_guard
  have hq := lease_eql a b w
  unfold execOp
  simp only [ho, hx, hy]
  simp [eqGuard, Sem.run_bind, hg, hq]
theorem exec_lneq {o : Oper} {ev : Operand → Value} {x y : Operand} {s : TypeId} (ho : o.op = .binOp .neq 80 x y s) (a b : Ls) (hx : ev x = .agg a.cs.toArray) (hy : ev y = .agg b.cs.toArray) (w : World) :
    (execOp ev o).run Try.prog w = .ok (.value (.bool (!decide (a = b)))) w := by
  have hg := lease_guard
  have hq := lease_neq a b w
  unfold execOp
  simp only [ho, hx, hy]
  simp [eqGuard, Sem.run_bind, hg, hq]
theorem wpList_leql {ops : Array Oper} {rest : List Oper} {o : Oper} {a : Act} {w : World} {Q : Exit → Act → World → Prop} (hw : Region.wanted o (yielded ops a.tmps) = true) (x y : Operand) (s : TypeId) (ho : o.op = .binOp .eql 80 x y s) (k l : Ls) (hx : a.eval x = .agg k.cs.toArray) (hy : a.eval y = .agg l.cs.toArray)
    (h : wpList Try.prog ops Q rest (a.put o.dst (.bool (decide (k = l)))) w) : wpList Try.prog ops Q (o :: rest) a w :=
  wpList_runWanted hw _ (exec_leql ho k l hx hy w) h
theorem wpList_lneq {ops : Array Oper} {rest : List Oper} {o : Oper} {a : Act} {w : World} {Q : Exit → Act → World → Prop} (hw : Region.wanted o (yielded ops a.tmps) = true) (x y : Operand) (s : TypeId) (ho : o.op = .binOp .neq 80 x y s) (k l : Ls) (hx : a.eval x = .agg k.cs.toArray) (hy : a.eval y = .agg l.cs.toArray)
    (h : wpList Try.prog ops Q rest (a.put o.dst (.bool (!decide (k = l)))) w) : wpList Try.prog ops Q (o :: rest) a w :=
  wpList_runWanted hw _ (exec_lneq ho k l hx hy w) h
end Go.Proofs.Ytkmhbbcppjckiaa.Ma
/- A task that waits for one worker, and is taken by it: the head of matching's laws. -/
namespace Go.Proofs.Ytkmhbbcppjckiaa.Ma
open Go Go.RowKit Go.Proofs.Ytkmhbbcppjckiaa
open Go.Proofs.Ytkmhbbcppjckiaa.Hp (i64wf K3 wf3)
open Go.Proofs.Ytkmhbbcppjckiaa.Qu
open Go.Proofs.Ytkmhbbcppjckiaa.Dk (Frm below_drewN)
set_option linter.unusedVariables false
set_option linter.unusedSimpArgs false
set_option maxRecDepth 100000
def tK : K3 := (1, 1, 0)
def M1 : MM := M0.ad tK 2 10
def M2 : MM := M1.pl 2 1 12
def lB : Ls := ⟨1, tK, 2, 32⟩
theorem wf_tK : wf3 tK := ⟨rfl, rfl, rfl⟩
theorem br1 : M0.adE tK 2 = 0 := by kernel_rfl
theorem br2 : M1.adE tK 0 = 5 := by kernel_rfl
theorem br3 : M1.plE 1 1 = 4 := by kernel_rfl
theorem br4 : M1.plE 2 1 = 0 := by kernel_rfl
theorem br5 : M1.plL 2 1 12 = lB := by kernel_rfl
theorem br6 : M2.gt 1 31 = (lB, 0) := by kernel_rfl
theorem br7 : M2.gt 1 32 = (l0, 210) := by kernel_rfl
theorem br8 : M2.kn tK = true := by kernel_rfl
theorem br9 : M2.wt.length = 0 := by kernel_rfl
theorem br10 : M2.E.length = 1 := by kernel_rfl
theorem br11 : M2.giv = 1 := by kernel_rfl
theorem br12 : M1.E.length = 0 ∧ M1.giv = 0 := ⟨by kernel_rfl, by kernel_rfl⟩
theorem MM.ad_no {M : MM} {k : K3} {wk now : Int} (h : M.adE k wk ≠ 0) : M.ad k wk now = M := by unfold MM.ad; rw [if_neg h]
theorem MM.pl_no {M : MM} {wk kind now : Int} (h : M.plE wk kind ≠ 0) : M.pl wk kind now = M ∧ M.plL wk kind now = l0 := by unfold MM.pl MM.plL; rw [if_neg h, if_neg h]; exact ⟨rfl, rfl⟩
set_option maxHeartbeats 2000000 in
theorem brings_any (w : World) : Calls Try.prog 24 #[] w fun e w' => e = .returned (.bool true) ∧ Below w.heap.size w w' := by
  obtain ⟨w1, hw1⟩ : ∃ x, x = w.alloc (.cells Try.zeroCells70 70) := ⟨_, rfl⟩
  obtain ⟨b, hb⟩ : ∃ b, b = w.heap.size := ⟨_, rfl⟩
  have X1 := MX.new w
  rw [← hw1, ← hb] at X1
  have B1 := Lib.hid (show Below w.heap.size w w1 from by rw [hw1]; exact (Below.refl _ _).alloc (Nat.le_refl _) _)
  have BL := Lib.hid (show w.heap.size ≤ b from Nat.le_of_eq hb.symm)
  obtain ⟨w2, hw2⟩ : ∃ x, x = w1.alloc (.cells (kcs tK).toArray 32) := ⟨_, rfl⟩
  obtain ⟨g2, hg2⟩ : ∃ g, g = w1.heap.size := ⟨_, rfl⟩
  have n2 : w2.heap[g2]? = some (.cells (kcs tK).toArray 32 (0, 0)) := by rw [hw2, hg2]; exact heap_alloc_new _ _
  have X2 := X1.box (.cells (kcs tK).toArray 32)
  rw [← hw2, ← hg2] at X2
  have HX2 := Lib.hid X2
  have N2 := Lib.hid n2
  have K2 := box_at n2
  have AD1 := Lib.hid (mx_add X2 tK wf_tK 2 10 rfl (by decide))
  rw [br1] at AD1
  have SK := Lib.hid (show ∀ k : K3, (Try.prog.info? 32).map (·.size) = some (kcs k).toArray.size from fun k => by kernel_rfl)
  have OK := Lib.hid (fun k : K3 => kcs_one k)
  have SL := Lib.hid (fun l : Ls => lsSizeA l)
  have OL := Lib.hid (fun l : Ls => l.oneA)
  have HW1 := Lib.hid hw1
  have HB := Lib.hid hb
  have HW2 := Lib.hid hw2
  have HG2 := Lib.hid hg2
  clear X1 X2 hw1 hb hw2 hg2 n2
  go_enter Try.func24, Try.ntmps24
  go_upto_region 2 with fail
  rw [← HW1.out, ← HB.out]
  go_upto_region 3 with (first
    | (with_reducible show wpList _ _ _ _ _ _; refine wpList_store_newW rfl 32 (.tmp 2) (.tmp 11) rfl 32 _ (kcs tK).toArray (by with_unfolding_all rfl) (by with_unfolding_all rfl) (SK.out tK) rfl (OK.out tK) ?_))
  rw [← HW2.out, ← HG2.out]
  go_upto_region 5 with (first
    | (with_reducible show wpList _ _ _ _ _ _; refine wpList_load_allW rfl 32 (.tmp 2) rfl ⟨g2, 0, none⟩ rfl (kcs tK) _ K2 Try.underlying32 rfl (tkSize _) ?_)
    | ((with_reducible refine AD1.out.mono ?_); rintro e w3 ⟨rfl, hx3, hk3⟩; have K3 := box_at ((hk3.keep g2 (.inr rfl)).trans N2.out); have AD2 := Lib.hid (mx_add hx3 tK wf_tK 0 10 rfl (by decide)); rw [show (M0.ad tK 2 10).adE tK 0 = 5 from br2, show (M0.ad tK 2 10).ad tK 0 10 = M1 from MM.ad_no (by rw [show (M0.ad tK 2 10).adE tK 0 = 5 from br2]; decide)] at AD2)
    | ((with_reducible show wpList _ _ _ _ _ _); refine wpList_loadWanted (by kernel_rfl) 32 (.tmp 2) rfl ⟨g2, 0, none⟩ rfl (kcs tK) _ K3 Try.underlying32 rfl (tkSize _) ?_)
    | ((with_reducible refine AD2.out.mono ?_); rintro e w4 ⟨rfl, hx4, hk4⟩))
  have N4 := Lib.hid ((hk4.keep g2 (.inr rfl)).trans ((hk3.keep g2 (.inr rfl)).trans N2.out))
  have PO1 := Lib.hid (mx_poll hx4 1 1 11 (by rw [br12.1]; decide) (by rw [br12.2]; decide) (by rw [br12.2]; decide) (by decide) (by decide))
  rw [br3, (MM.pl_no (now := 11) (by rw [br3]; decide : M1.plE 1 1 ≠ 0)).1, (MM.pl_no (now := 11) (by rw [br3]; decide : M1.plE 1 1 ≠ 0)).2] at PO1
  clear hx3 hk3 hx4 hk4 AD1 AD2 K2 K3
  go_upto_region 6 with (first
    | ((with_reducible refine PO1.out.mono ?_); rintro e w5 ⟨rfl, hx5, hk5⟩)
    | (with_reducible show wpList _ _ _ _ _ _; refine wpList_store_newW rfl 80 (.tmp 3) (.tmp 22) rfl 80 _ l0.cs.toArray (by with_unfolding_all rfl) (by with_unfolding_all rfl) (SL.out l0) rfl (OL.out l0) ?_))
  have n5 := (hk5.keep g2 (.inr rfl)).trans N4.out
  have b5 : Below w5.heap.size w5 (w5.alloc (.cells l0.cs.toArray 80)) := (Below.refl _ _).alloc (Nat.le_refl _) _
  have X6 := (hx5.below b5).1
  have N6 := Lib.hid ((b5.block g2 (lt_of_rowK n5)).trans n5)
  obtain ⟨w6, hw6⟩ : ∃ w6, w6 = w5.alloc (.cells l0.cs.toArray 80) := ⟨_, rfl⟩
  rw [← hw6] at X6 N6 ⊢
  have PO2 := Lib.hid (mx_poll X6 2 1 12 (by rw [br12.1]; decide) (by rw [br12.2]; decide) (by rw [br12.2]; decide) (by decide) (by decide))
  rw [br4, br5, show M1.pl 2 1 12 = M2 from rfl] at PO2
  clear hx5 hk5 PO1 n5 b5 X6 hw6
  go_upto_region 9 with (first
    | ((with_reducible refine PO2.out.mono ?_); rintro e w7 ⟨rfl, hx7, hk7⟩)
    | (with_reducible show wpList _ _ _ _ _ _; refine wpList_store_newW rfl 80 (.tmp 5) (.tmp 28) rfl 80 _ lB.cs.toArray (by with_unfolding_all rfl) (by with_unfolding_all rfl) (SL.out lB) rfl (OL.out lB) ?_))
  obtain ⟨w8, hw8⟩ : ∃ w8, w8 = w7.alloc (.cells lB.cs.toArray 80) := ⟨_, rfl⟩
  obtain ⟨g8, hg8⟩ : ∃ g, g = w7.heap.size := ⟨_, rfl⟩
  have n7 := (hk7.keep g2 (.inr rfl)).trans N6.out
  have b8 : Below w7.heap.size w7 w8 := by rw [hw8]; exact (Below.refl _ _).alloc (Nat.le_refl _) _
  have n8 : w8.heap[g8]? = some (.cells lB.cs.toArray 80 (0, 0)) := by rw [hw8, hg8]; exact heap_alloc_new _ _
  have N8 := Lib.hid ((b8.block g2 (lt_of_rowK n7)).trans n7)
  have X8 := hx7.box (.cells lB.cs.toArray 80)
  rw [← hw8, ← hg8] at X8
  rw [← hw8, ← hg8]
  have L8 := Lib.hid n8
  have c8 : w8.cell? ⟨g8, 0, none⟩ = some (.int .u64 1) := by rw [cell_of_row w8 g8 0 _ _ _ n8]; rfl
  have GE1 := Lib.hid (mx_get X8 1 31 (by rw [br10]; decide))
  rw [br6] at GE1
  clear hx7 hk7 PO2 n7 b8 hw8 hg8 X8 n8
  go_upto_region 10 with (first
    | ((with_reducible refine GE1.out.mono ?_); rintro e w9 ⟨rfl, hx9, hk9⟩)
    | (with_reducible show wpList _ _ _ _ _ _; refine wpList_store_newW rfl 80 (.tmp 7) (.tmp 34) rfl 80 _ lB.cs.toArray (by with_unfolding_all rfl) (by with_unfolding_all rfl) (SL.out lB) rfl (OL.out lB) ?_))
  obtain ⟨wa, hwa⟩ : ∃ wa, wa = w9.alloc (.cells lB.cs.toArray 80) := ⟨_, rfl⟩
  obtain ⟨ga, hga⟩ : ∃ g, g = w9.heap.size := ⟨_, rfl⟩
  have na : wa.heap[ga]? = some (.cells lB.cs.toArray 80 (0, 0)) := by rw [hwa, hga]; exact heap_alloc_new _ _
  have ba : Below w9.heap.size w9 wa := by rw [hwa]; exact (Below.refl _ _).alloc (Nat.le_refl _) _
  have n9 := (hk9.keep g2 (.inl (.inr rfl))).trans N8.out
  have l9 := (hk9.keep g8 (.inr rfl)).trans L8.out
  have NA := Lib.hid ((ba.block g2 (lt_of_rowK n9)).trans n9)
  have LA := Lib.hid ((ba.block g8 (lt_of_rowK l9)).trans l9)
  have GA := Lib.hid na
  have XA := hx9.box (.cells lB.cs.toArray 80)
  rw [← hwa, ← hga] at XA
  rw [← hwa, ← hga]
  have ca : wa.cell? ⟨g8, 0, none⟩ = some (.int .u64 1) := by rw [cell_of_row wa g8 0 _ _ _ LA.out]; rfl
  have GE2 := Lib.hid (mx_get XA 1 32 (by rw [br10]; decide))
  rw [br7] at GE2
  clear hx9 hk9 GE1 n9 l9 ba hwa hga XA na c8
  go_upto_region 11 with (first
    | ((with_reducible refine GE2.out.mono ?_); rintro e wb ⟨rfl, hxb, hkb⟩)
    | (with_reducible show wpList _ _ _ _ _ _; refine wpList_store_newW rfl 80 (.tmp 9) (.tmp 40) rfl 80 _ l0.cs.toArray (by with_unfolding_all rfl) (by with_unfolding_all rfl) (SL.out l0) rfl (OL.out l0) ?_))
  obtain ⟨wc, hwc⟩ : ∃ wc, wc = wb.alloc (.cells l0.cs.toArray 80) := ⟨_, rfl⟩
  have bc : Below wb.heap.size wb wc := by rw [hwc]; exact (Below.refl _ _).alloc (Nat.le_refl _) _
  have nb := (hkb.keep g2 (.inl (.inl (.inr rfl)))).trans NA.out
  have lb := (hkb.keep g8 (.inl (.inr rfl))).trans LA.out
  have gb := (hkb.keep ga (.inr rfl)).trans GA.out
  have KT := box_at ((bc.block g2 (lt_of_rowK nb)).trans nb)
  have KL := box_at ((bc.block g8 (lt_of_rowK lb)).trans lb)
  have KG := box_at ((bc.block ga (lt_of_rowK gb)).trans gb)
  have XC := (hxb.below bc).1
  rw [← hwc]
  have NC := Lib.hid ((bc.block g2 (lt_of_rowK nb)).trans nb)
  have KN := Lib.hid (mx_known XC tK wf_tK (by rw [br10]; decide))
  rw [br8] at KN
  have hll : decide (lB = lB) = true := by simp
  clear hxb hkb GE2 nb lb gb bc hwc XC ca

  go_wp2_with (first
    | ((with_reducible show wpList _ _ _ _ _ _); refine wpList_loadWanted (by kernel_rfl) 80 (.tmp 5) rfl ⟨g8, 0, none⟩ rfl lB.cs _ KL Try.underlying80 rfl (lsSize _) ?_)
    | ((with_reducible show wpList _ _ _ _ _ _); refine wpList_loadWanted (by kernel_rfl) 80 (.tmp 7) rfl ⟨ga, 0, none⟩ rfl lB.cs _ KG Try.underlying80 rfl (lsSize _) ?_)
    | ((with_reducible show wpList _ _ _ _ _ _); refine wpList_loadWanted (by kernel_rfl) 32 (.tmp 2) rfl ⟨g2, 0, none⟩ rfl (kcs tK) _ KT Try.underlying32 rfl (tkSize _) ?_)
    | ((with_reducible show wpList _ _ _ ({ dst := some 53, op := _, type := _, pos := _, after := _, guard := _ } :: _) _ _); refine wpList_runWanted (by kernel_rfl) (.agg lB.cs.toArray) (by kernel_rfl) ?_)
    | ((with_reducible show wpList _ _ _ _ _ _); refine wpList_leql (by kernel_rfl) (.tmp 51) (.tmp 53) _ rfl lB lB (by kernel_rfl) (by kernel_rfl) ?_; rw [hll])
    | ((with_reducible show wpList _ _ _ _ _ _); refine wpList_leql (by kernel_rfl) (.tmp 57) (.tmp 58) _ rfl lB lB (by kernel_rfl) (by kernel_rfl) ?_; rw [hll])
    | ((with_reducible refine KN.out.mono ?_); rintro e wd ⟨rfl, hxd, hkd⟩; have WT := Lib.hid (mx_waiting hxd); rw [br9] at WT)
    | ((with_reducible refine WT.out.mono ?_); rintro e we ⟨aw, cw, rfl, _, _, hxe, hke⟩; have LE := Lib.hid (mx_leases hxe (by rw [br10]; decide)); rw [br10] at LE)
    | ((with_reducible refine LE.out.mono ?_); rintro e wf ⟨al, cl, rfl, _, _, hxf, hkf⟩; have GI := Lib.hid (mx_given hxf); rw [br11] at GI)
    | ((with_reducible refine GI.out.mono ?_); rintro e wg ⟨rfl, rfl⟩))
  go_ret
  exact ⟨rfl, B1.out.trans (hxf.low BL.out B1.out.size)⟩
end Go.Proofs.Ytkmhbbcppjckiaa.Ma
