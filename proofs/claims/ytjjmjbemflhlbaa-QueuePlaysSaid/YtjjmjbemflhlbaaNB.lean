/- A task waits behind the others. -/
import Derived.Test.YtjjmjbemflhlbaaNA
namespace Go.Proofs.Ytjjmjbemflhlbaa.Qu
open Go Go.RowKit Go.Proofs.Ytjjmjbemflhlbaa
open Go.Proofs.Ytjjmjbemflhlbaa.Hp (K3 kv KLit wf3 i64wf kv_inj)
open Go.Proofs.Ytjjmjbemflhlbaa.Dk (Frm below_drewN Frm.of_below Frm.setCell Frm.refl Frm.drewN Frm.drew Frm.transT Frm.turned Frm.trans Frm.mono)
set_option linter.unusedVariables false
set_option linter.unusedSimpArgs false
set_option maxRecDepth 100000
variable {w : World} {b o : Nat} {R : Array Value} {ty : TypeId} {mo : Option Nat} {L : List Lk}
theorem qadd_twice (h : QAt w b o R ty mo L) (k : K3) (hk : wf3 k) (now : Int) (hin : adOf L k ≠ none) : Calls Try.prog 14 #[.pointer (some ⟨b, o, none⟩), .agg (kcs k).toArray, .int .i64 now] w fun e w' => e = .returned (.int .i64 5) ∧ Below w.heap.size w w' := by
  obtain ⟨w1, hw1⟩ : ∃ x, x = w.alloc (.cells (kcs k).toArray 32) := ⟨_, rfl⟩
  obtain ⟨g, hg⟩ : ∃ g, g = w.heap.size := ⟨_, rfl⟩
  have b1 : Below w.heap.size w w1 := by rw [hw1]; exact (Below.refl _ _).alloc (Nat.le_refl _) _
  have KT : ∀ j v, (kcs k)[j]? = some v → w1.cell? ((⟨g, 0, none⟩ : Addr).add j) = some v := by rw [hw1, hg]; exact box_task w k
  have HS := Lib.hid (qhas_any (h.below b1) k hk)
  have e1 : (adOf L k).isSome = true := by cases hA : adOf L k with | none => exact absurd hA hin | some a => rfl
  rw [e1, kv_eq] at HS
  have HW := Lib.hid hw1
  have HG := Lib.hid hg
  have B1 := Lib.hid b1
  clear h hw1 hg b1 e1 hin
  go_enter Try.func14, Try.ntmps14
  go_upto_region 1 with fail
  rw [← HW.out, ← HG.out]
  go_wp2_with (with_reducible show wpList _ _ _ _ _ _; refine wpList_load_allW rfl 32 (.tmp 4) rfl ⟨g, 0, none⟩ rfl (kcs k) _ KT Try.underlying32 rfl (tkSize _) ?_)
  refine HS.out.mono ?_
  rintro e w2 ⟨rfl, hb2⟩
  have B2 := Lib.hid (B1.out.trans (hb2.mono B1.out.size))
  clear hb2
  go_wp2_with fail
  go_ret
  exact ⟨rfl, B2.out⟩
theorem qadd_full (h : QAt w b o R ty mo L) (k : K3) (hk : wf3 k) (now : Int) (hno : adOf L k = none) (hfull : L.length = 128) : Calls Try.prog 14 #[.pointer (some ⟨b, o, none⟩), .agg (kcs k).toArray, .int .i64 now] w fun e w' => e = .returned (.int .i64 3) ∧ Below w.heap.size w w' := by
  obtain ⟨w1, hw1⟩ : ∃ x, x = w.alloc (.cells (kcs k).toArray 32) := ⟨_, rfl⟩
  obtain ⟨g, hg⟩ : ∃ g, g = w.heap.size := ⟨_, rfl⟩
  have b1 : Below w.heap.size w w1 := by rw [hw1]; exact (Below.refl _ _).alloc (Nat.le_refl _) _
  have KT : ∀ j v, (kcs k)[j]? = some v → w1.cell? ((⟨g, 0, none⟩ : Addr).add j) = some v := by rw [hw1, hg]; exact box_task w k
  have HS := Lib.hid (qhas_any (h.below b1) k hk)
  rw [hno, kv_eq] at HS
  have H1 := Lib.hid (h.below b1)
  have HW := Lib.hid hw1
  have HG := Lib.hid hg
  have B1 := Lib.hid b1
  have HL := Lib.hid hfull
  clear h hw1 hg b1 hno hfull
  go_enter Try.func14, Try.ntmps14
  go_upto_region 1 with fail
  rw [← HW.out, ← HG.out]
  go_wp2_with (with_reducible show wpList _ _ _ _ _ _; refine wpList_load_allW rfl 32 (.tmp 4) rfl ⟨g, 0, none⟩ rfl (kcs k) _ KT Try.underlying32 rfl (tkSize _) ?_)
  refine HS.out.mono ?_
  rintro e w2 ⟨rfl, hb2⟩
  have B2 := Lib.hid (B1.out.trans (hb2.mono B1.out.size))
  have LEN := Lib.hid (qlen_any (H1.out.below hb2))
  rw [HL.out] at LEN
  clear hb2 KT
  go_wp2_with fail
  refine LEN.out.mono ?_
  rintro e w3 ⟨rfl, rfl⟩
  go_wp2_with fail
  go_ret
  exact ⟨rfl, B2.out⟩
/-- What stands while the last region is under way. -/
structure AddI (w : World) (b o : Nat) (R : Array Value) (ty : TypeId) (m : Nat) (k : K3) (now : Int) (g : Nat) (L : List Lk) (T : Nat → Prop) (s11 s12 : Bool) (p : Nat) (wx : World) : Prop where
  cell : wx.cell? ⟨b, o + 2, none⟩ = some (.map (some m))
  box : wx.heap[g]? = some (.cells (kcs k).toArray 32 (0, 0))
  frm : Frm T w wx
  one : s11 = false → s12 = false → CAt wx b o R ty (some m) L ∧ MapP Try.prog 32 wx (some m) L.length (adOf L)
  two : s11 = true → s12 = false → CAt wx b o R ty (some m) (L ++ [⟨k, now, p⟩]) ∧ MapP Try.prog 32 wx (some m) L.length (adOf L) ∧ w.heap.size ≤ p ∧ p ≠ m
  three : s12 = true → QAt wx b o R ty (some m) (L ++ [⟨k, now, p⟩]) ∧ w.heap.size ≤ p
theorem box_at {w : World} {g : Nat} {cs : List Value} {t : TypeId} {fr : Nat × Nat} (h : w.heap[g]? = some (.cells cs.toArray t fr)) : ∀ j v, cs[j]? = some v → w.cell? ((⟨g, 0, none⟩ : Addr).add j) = some v := fun j v hj => by
  rw [Addr.add_mid, Nat.zero_add, cell_of_row _ _ j _ _ _ h]
  simpa using hj
section
variable {m : Nat} {k : K3} {now : Int} {g p : Nat} {T : Nat → Prop} {s12 : Bool} {wx w' : World}
theorem AddI.hang {p' : Nat} (h : AddI w b o R ty m k now g L T false false p wx) (hC : CAt wx b o R ty (some m) L) (hM : MapP Try.prog 32 wx (some m) L.length (adOf L)) (nm : ¬ qT b L m) (ng : ¬ own b (some m) L g) (sub : ∀ q, q < w.heap.size → qT b L q → T q)
    (hC' : CAt w' b o R ty (some m) (L ++ [⟨k, now, p'⟩])) (hF' : Frm (qT b L) wx w') (hp' : wx.heap.size ≤ p') : AddI w b o R ty m k now g L T true false p' w' := by
  have ng' : ¬ qT b L g := fun e => ng (by
    rcases e with e | e
    · exact .inl e
    · exact .inr (.inr e))
  refine ⟨hC'.row.cells.c2, (hF'.block g (lt_of_rowW h.box) ng').trans h.box, h.frm.transT hF' fun q hq hqT => sub q hq hqT, (fun e => by cases e), fun _ _ => ⟨hC', hM.keep fun m' hm' => by cases hm'; exact hF'.block m hM.lt nm, Nat.le_trans h.frm.size hp', fun e => by have := hM.lt; omega⟩, (fun e => by cases e)⟩
theorem AddI.put {w5 : World} (h : AddI w b o R ty m k now g L T true false p wx) (hC : CAt wx b o R ty (some m) (L ++ [⟨k, now, p⟩])) (hM' : MapP Try.prog 32 w' (some m) (if (adOf L k).isSome then L.length else L.length + 1) (fun y => if y = k then some p else adOf L y)) (hT : wx.mapTurned w' m) (hp : w.heap.size ≤ p)
    (hnew : adOf L k = none) (hwf : wf3 k ∧ i64wf now) (hfew : L.length < 128) (h5 : QAt w5 b o R ty (some m) L) (hms : p ≠ m) (mg : m ≠ g) (hmT : T m ∨ w.heap.size ≤ m) : AddI w b o R ty m k now g L T true true p w' := by
  have hnk := adOf_none.1 hnew
  have mne := h5.msep rfl
  have hbm : b ≠ m := fun e => mne.1 e.symm
  have hall : ∀ x ∈ L ++ [(⟨k, now, p⟩ : Lk)], x.ad ≠ m := by
    intro x hx
    rcases List.mem_append.1 hx with hx | hx
    · exact mne.2 x hx
    · rw [List.mem_singleton.1 hx]
      exact hms
  have hC' : CAt w' b o R ty (some m) (L ++ [⟨k, now, p⟩]) := hC.keep (turned_block hT hbm hC.row.lt) fun x hx => turned_block hT (hall x hx) (hC.chain.lt x hx)
  rw [hnew] at hM'
  refine ⟨hC'.row.cells.c2, (turned_block hT (Ne.symm mg) (lt_of_rowW h.box)).trans h.box, h.frm.turned hT hmT, (fun _ e => by cases e), (fun _ e => by cases e), fun _ => ⟨⟨hC', ?_, ?_, ?_, ?_⟩, hp⟩⟩
  · rw [List.length_append]
    exact hM'.ext fun y => adOf_app_new (x := ⟨k, now, p⟩) hnk y
  · intro x hx
    rcases List.mem_append.1 hx with hx | hx
    · exact h5.wf x hx
    · rw [List.mem_singleton.1 hx]; exact hwf
  · rw [List.map_append, List.nodup_append]
    refine ⟨h5.keys, by simp, fun a ha c hc e => ?_⟩
    obtain ⟨x, hx, rfl⟩ := List.mem_map.1 ha
    have : c = k := by simpa using hc
    exact hnk x hx (e.trans this)
  · rw [List.length_append, List.length_singleton]; omega
end
set_option maxHeartbeats 4000000
theorem qadd_ok (h : QAt w b o R ty mo L) (k : K3) (hk : wf3 k) (now : Int) (hnow : i64wf now) (hno : adOf L k = none) (hfew : L.length < 128) : Calls Try.prog 14 #[.pointer (some ⟨b, o, none⟩), .agg (kcs k).toArray, .int .i64 now] w fun e w' =>
    ∃ p mo', e = .returned (.int .i64 0) ∧ w.heap.size ≤ p ∧ QAt w' b o R ty mo' (L ++ [⟨k, now, p⟩]) ∧ Frm (own b mo L) w w' ∧ (∀ m, mo' = some m → mo = some m ∨ w.heap.size ≤ m) := by
  obtain ⟨w1, hw1⟩ : ∃ x, x = w.alloc (.cells (kcs k).toArray 32) := ⟨_, rfl⟩
  obtain ⟨g, hg⟩ : ∃ g, g = w.heap.size := ⟨_, rfl⟩
  have b1 : Below w.heap.size w w1 := by rw [hw1]; exact (Below.refl _ _).alloc (Nat.le_refl _) _
  have n1 : w1.heap[g]? = some (.cells (kcs k).toArray 32 (0, 0)) := by rw [hw1, hg]; exact heap_alloc_new _ _
  have KT : ∀ j v, (kcs k)[j]? = some v → w1.cell? ((⟨g, 0, none⟩ : Addr).add j) = some v := by rw [hw1, hg]; exact box_task w k
  have HS := Lib.hid (qhas_any (h.below b1) k hk)
  rw [hno, kv_eq] at HS
  have H0 := Lib.hid h
  have H1 := Lib.hid (h.below b1)
  have HW := Lib.hid hw1
  have HG := Lib.hid hg
  have B1 := Lib.hid b1
  have N1 := Lib.hid n1
  have NEW := Lib.hid hno
  have WF := Lib.hid (And.intro hk hnow)
  have FEW := Lib.hid hfew
  have LM := Lib.hid (show L.length < maxLen by unfold maxLen; omega)
  obtain ⟨T, hT⟩ : ∃ T, T = own b mo L := ⟨_, rfl⟩
  rw [← hT]
  have HTT := Lib.hid hT
  clear hT
  have hl128 : ((L.length : Int) == 128) = false := by
    have : ¬ (L.length : Int) = 128 := by omega
    simpa using this
  clear h hw1 hg b1 n1 hno hk hnow
  go_enter Try.func14, Try.ntmps14
  go_upto_region 1 with fail
  rw [← HW.out, ← HG.out]
  go_upto_region 3 with (first | (with_reducible show wpList _ _ _ _ _ _; refine wpList_load_allW rfl 32 (.tmp 4) rfl ⟨g, 0, none⟩ rfl (kcs k) _ KT Try.underlying32 rfl (tkSize _) ?_) | (with_reducible refine HS.out.mono ?_; rintro e w2 ⟨rfl, hb2⟩))
  have h2 := H1.out.below hb2
  have LEN := Lib.hid (qlen_any h2)
  have N2 := Lib.hid ((hb2.block g (lt_of_rowW N1.out)).trans N1.out)
  have B2 := Lib.hid (B1.out.trans (hb2.mono B1.out.size))
  have EQ := fun (w : World) (r : Option Nat) => run_eql_map_nil (P := Try.prog) w _ _ _ r Try.underlying27
  obtain ⟨c0, c1, c2, f0, f1, f2⟩ := h2.c.row.cells
  have H2 := Lib.hid h2
  have GLT := Lib.hid (show g < w2.heap.size from lt_of_rowW N2.out)
  clear hb2 h2 KT c0 c1 f0 f1
  cases mo with
  | none =>
    have HLN := Lib.hid (show L = [] from List.eq_nil_of_length_eq_zero H2.out.map.1)
    obtain ⟨m, hm⟩ : ∃ m, m = w2.heap.size := ⟨_, rfl⟩
    obtain ⟨w4, hw4⟩ : ∃ x, x = w2.alloc (.map #[] 0) := ⟨_, rfl⟩
    have b4 : Below w2.heap.size w2 w4 := by rw [hw4]; exact (Below.refl _ _).alloc (Nat.le_refl _) _
    have h4 := H2.out.below b4
    have m4 : MapP Try.prog 32 w4 (some m) L.length (adOf L) := by
      have hL : L.length = 0 := by rw [HLN.out]; rfl
      rw [hL, hw4, hm]
      exact (MapP.made w2).ext fun y => by rw [HLN.out]; rfl
    obtain ⟨w5, hw5⟩ : ∃ x, x = w4.setCell ⟨b, o + 2, none⟩ (.map (some m)) := ⟨_, rfl⟩
    have mb : m ≠ b := fun e => by have := H2.out.c.row.lt; omega
    have o5 : ∀ q, q ≠ b → w5.heap[q]? = w4.heap[q]? := fun q hq => by rw [hw5]; exact setCell_other _ _ _ hq
    have h5 : QAt w5 b o R ty (some m) L := by
      refine ⟨⟨?_, ?_, h4.c.ads⟩, m4.keep (fun m' hm' => by cases hm'; exact o5 m mb), h4.wf, h4.keys, h4.few⟩
      · rw [hw5]; exact h4.c.row.set2 _
      · rw [HLN.out]; trivial
    have f5 : Frm (own b none L) w w5 := by
      rw [hw5]
      exact (Frm.of_below (B2.out.trans (b4.mono B2.out.size)) (Nat.le_refl _)).setCell (p := ⟨b, o + 2, none⟩) (.inl (.inl rfl)) _
    have gb : g ≠ b := fun e => by have h1 := H0.out.c.row.lt; have h3 := HG.out; omega
    have n5 : w5.heap[g]? = some (.cells (kcs k).toArray 32 (0, 0)) := (o5 g gb).trans ((b4.block g GLT.out).trans N2.out)
    replace f2 : w4.frozen? ⟨b, o + 2, none⟩ = false := h4.c.row.cells.f2
    have c4 : w4.cell? ⟨b, o + 2, none⟩ = some (.map none) := h4.c.row.cells.c2
    have NQ := Lib.hid (show ¬ qT b L m ∧ ¬ own b (some m) L g from by
      rw [HLN.out]
      refine ⟨?_, ?_⟩
      · rintro (e | ⟨y, hy, _⟩)
        · exact mb e
        · cases hy
      · rintro (e | e | ⟨y, hy, _⟩)
        · exact gb e
        · have := GLT.out; injection e with e; omega
        · cases hy)
    have SUB := Lib.hid (show ∀ q, q < w.heap.size → qT b L q → own b none L q from fun q _ hq => by
      rcases hq with e | e
      · exact .inl e
      · exact .inr (.inr e))
    have SUBM := Lib.hid (show own b none L m ∨ w.heap.size ≤ m from .inr (by rw [hm]; exact B2.out.size))
    have I0 := Lib.hid (show AddI w b o R ty m k now g L (own b none L) false false 0 w5.drew from ⟨h5.c.row.cells.c2, n5, f5.drew, fun _ _ => ⟨h5.c.keep rfl (fun _ _ => rfl), h5.map.keep fun _ _ => rfl⟩, (fun e => by cases e), (fun e => by cases e)⟩)
    have OWN := Lib.hid (show ∀ m', some m = some m' → (none : Option Nat) = some m' ∨ w.heap.size ≤ m' from fun m' e => .inr (by injection e with e; rw [← e, hm]; exact B2.out.size))
    have H5 := Lib.hid h5
    have HW4 := Lib.hid hw4
    have HW5 := Lib.hid hw5
    have HM := Lib.hid hm
    rw [← HTT.out] at SUB SUBM I0
    clear hm hw4 hw5 h4 m4 mb o5 h5 f5 gb n5 b4
    go_upto_region 6 with (with_reducible refine LEN.out.mono ?_; rintro e w3 ⟨rfl, rfl⟩)
    clear c2
    have MK : (Instr.makeMap 27 none).run Try.prog w3 = .ok (.map (some m)) w4 := by rw [HW4.out, HM.out]; rfl
    go_upto_region 7 with fail
    rw [← HW5.out]
    clear f2 c4 MK
    refine wp_region_par (α := Nat) (by kernel_rfl) (by kernel_rfl) (by kernel_rfl) (fun y => ⟨#[.pointer (some ⟨b, o, none⟩), .agg (kcs k).toArray, .int .i64 now, undef, .pointer (some ⟨g, 0, none⟩), undef, .int .i64 0, .pointer (some ⟨b, o, none⟩), .agg (kcs k).toArray, .bool false, .pointer (some ⟨b, o, none⟩), .int .i64 (L.length : Int), .bool false, .pointer (some ⟨b, o, none⟩), .pointer (some ⟨b, o, none⟩), .pointer (some ⟨b, o + 2, none⟩), .map none, .bool true, .pointer (some ⟨b, o, none⟩), .map (some m), .pointer (some ⟨b, o, none⟩), .pointer (some ⟨b, o + 2, none⟩), y 0, y 1, y 2, y 3, y 4, y 5, y 6, y 7, y 8, y 9, y 10, y 11], []⟩) (fun p j q => match j with | 0 => q = .pointer (some ⟨b, o, none⟩) | 1 => q = .pointer (some ⟨b, o, none⟩) | 2 => q = .pointer (some ⟨b, o + 2, none⟩) | 3 => q = .map (some m) | 4 => q = .agg (kcs k).toArray | 5 => q = .pointer (some ⟨b, o, none⟩) | 6 => q = .pointer (some ⟨b, o, none⟩) | 7 => q = .pointer (some ⟨b, o, none⟩) | 8 => q = .agg (kcs k).toArray | 9 => q = .int .i64 now | 10 => q = .agg (wcs k now).toArray | 11 => q = .pointer (some ⟨p, 0, none⟩) | _ => True) (fun M p wx => AddI w b o R ty m k now g L T (M 11) (M 12) p wx) (fun i => [11, 12].contains i) (fun i j => i == 11 && j == 12) (parOk_spec (by kernel_rfl)) ?_ ?_ ?_ (fun _ => undef) 0 rfl (by exact I0.out)
    · intro i' o hsrc ho M p y wx hd hi' hI
      match i', ho with
      | 0, ho =>
        obtain rfl := Option.some.inj ho
        refine ⟨.pointer (some ⟨b, o, none⟩), ?_, rfl, rfl, hI⟩
        refine runWithP (fun z => match z with  | .tmp 0 => .pointer (some ⟨b, o, none⟩) | .const c => c | _ => undef) (by kernel_rfl) ?_
        go_simp
      | 1, ho =>
        obtain rfl := Option.some.inj ho
        have y0 : y 0 = .pointer (some ⟨b, o, none⟩) := hd ⟨0, .data⟩ (by simp) rfl
        refine ⟨.pointer (some ⟨b, o, none⟩), ?_, rfl, rfl, hI⟩
        refine runWithP (fun z => match z with | .tmp 22 => y 0 | .const c => c | _ => undef) (by kernel_rfl) ?_
        rw [y0]
        go_simp
      | 2, ho =>
        obtain rfl := Option.some.inj ho
        have y0 : y 1 = .pointer (some ⟨b, o, none⟩) := hd ⟨1, .data⟩ (by simp) rfl
        refine ⟨.pointer (some ⟨b, o + 2, none⟩), ?_, rfl, rfl, hI⟩
        refine runWithP (fun z => match z with | .tmp 23 => y 1 | .const c => c | _ => undef) (by kernel_rfl) ?_
        rw [y0]
        go_simp
      | 3, ho =>
        obtain rfl := Option.some.inj ho
        have y0 : y 2 = .pointer (some ⟨b, o + 2, none⟩) := hd ⟨2, .data⟩ (by simp) rfl
        have cx := hI.cell
        refine ⟨.map (some m), ?_, rfl, rfl, hI⟩
        refine runWithP (fun z => match z with | .tmp 24 => y 2 | .const c => c | _ => undef) (by kernel_rfl) ?_
        rw [y0]
        go_simp
      | 4, ho =>
        obtain rfl := Option.some.inj ho
        exact ⟨.agg (kcs k).toArray, run_loadP 32 (.tmp 4) rfl ⟨g, 0, none⟩ (by rfl) (kcs k) _ (box_at hI.box) Try.underlying32 rfl (tkSize _), rfl, rfl, hI⟩
      | 5, ho =>
        obtain rfl := Option.some.inj ho
        refine ⟨.pointer (some ⟨b, o, none⟩), ?_, rfl, rfl, hI⟩
        refine runWithP (fun z => match z with  | .tmp 0 => .pointer (some ⟨b, o, none⟩) | .const c => c | _ => undef) (by kernel_rfl) ?_
        go_simp
      | 6, ho =>
        obtain rfl := Option.some.inj ho
        have y0 : y 5 = .pointer (some ⟨b, o, none⟩) := hd ⟨5, .data⟩ (by simp) rfl
        refine ⟨.pointer (some ⟨b, o, none⟩), ?_, rfl, rfl, hI⟩
        refine runWithP (fun z => match z with | .tmp 27 => y 5 | .const c => c | _ => undef) (by kernel_rfl) ?_
        rw [y0]
        go_simp
      | 7, ho =>
        obtain rfl := Option.some.inj ho
        have y0 : y 6 = .pointer (some ⟨b, o, none⟩) := hd ⟨6, .data⟩ (by simp) rfl
        refine ⟨.pointer (some ⟨b, o, none⟩), ?_, rfl, rfl, hI⟩
        refine runWithP (fun z => match z with | .tmp 28 => y 6 | .const c => c | _ => undef) (by kernel_rfl) ?_
        rw [y0]
        go_simp
      | 8, ho =>
        obtain rfl := Option.some.inj ho
        exact ⟨.agg (kcs k).toArray, run_loadP 32 (.tmp 4) rfl ⟨g, 0, none⟩ (by rfl) (kcs k) _ (box_at hI.box) Try.underlying32 rfl (tkSize _), rfl, rfl, hI⟩
      | 9, ho =>
        obtain rfl := Option.some.inj ho
        refine ⟨.int .i64 now, ?_, rfl, rfl, hI⟩
        refine runWithP (fun z => match z with  | .tmp 2 => .int .i64 now | .const c => c | _ => undef) (by kernel_rfl) ?_
        go_simp
      | 10, ho =>
        obtain rfl := Option.some.inj ho
        have y0 : y 8 = .agg (kcs k).toArray := hd ⟨8, .data⟩ (by simp) rfl
        have y1 : y 9 = .int .i64 now := hd ⟨9, .data⟩ (by simp) rfl
        refine ⟨.agg (wcs k now).toArray, ?_, rfl, rfl, hI⟩
        refine runWithP (fun z => match z with | .tmp 30 => y 8 | .tmp 31 => y 9 | .const c => c | _ => undef) (by kernel_rfl) ?_
        rw [y0, y1]
        kernel_rfl
      | 11, ho =>
        obtain rfl := Option.some.inj ho
        cases hsrc
      | 12, ho =>
        obtain rfl := Option.some.inj ho
        cases hsrc
      | j + 13, ho => cases ho
    · intro i' o hsrc ho M p y wx hd hi' hlat hI
      match i', hsrc, ho with
      | 0, hsrc, ho =>
        cases hsrc
      | 1, hsrc, ho =>
        cases hsrc
      | 2, hsrc, ho =>
        cases hsrc
      | 3, hsrc, ho =>
        cases hsrc
      | 4, hsrc, ho =>
        cases hsrc
      | 5, hsrc, ho =>
        cases hsrc
      | 6, hsrc, ho =>
        cases hsrc
      | 7, hsrc, ho =>
        cases hsrc
      | 8, hsrc, ho =>
        cases hsrc
      | 9, hsrc, ho =>
        cases hsrc
      | 10, hsrc, ho =>
        cases hsrc
      | 11, hsrc, ho =>
        obtain rfl := Option.some.inj ho
        have h12 : M 12 = false := hlat 12 rfl
        have y7 : y 7 = .pointer (some ⟨b, o, none⟩) := (hd ⟨7, .data⟩ (by simp) rfl).2
        have y10 : y 10 = .agg (wcs k now).toArray := (hd ⟨10, .data⟩ (by simp) rfl).2
        rw [hi', h12] at hI
        obtain ⟨hC, hM⟩ := hI.one rfl rfl
        refine slot_call #[.pointer (some ⟨b, o, none⟩), .agg (wcs k now).toArray] rfl Try.func46 (by kernel_rfl) (by kernel_rfl) (by simp [Act.eval, y7, y10]) ?_
        refine (hang_any hC k now).mono ?_
        rintro e w' ⟨p', rfl, hp', hC', hF'⟩
        refine ⟨_, rfl, _, p', rfl, rfl, ?_, ?_⟩
        · intro j q hne _ hF
          match j, hne, hF with
          | 0, _, hF => exact hF
          | 1, _, hF => exact hF
          | 2, _, hF => exact hF
          | 3, _, hF => exact hF
          | 4, _, hF => exact hF
          | 5, _, hF => exact hF
          | 6, _, hF => exact hF
          | 7, _, hF => exact hF
          | 8, _, hF => exact hF
          | 9, _, hF => exact hF
          | 10, _, hF => exact hF
          | 11, hne, _ => exact absurd rfl hne
          | 12, _, hF => exact hF
          | j + 13, _, _ => trivial
        · show AddI w b o R ty m k now g L T true (M 12) p' w'
          rw [h12]
          exact hI.hang hC hM NQ.out.1 NQ.out.2 SUB.out hC' hF' hp'
      | 12, hsrc, ho =>
        obtain rfl := Option.some.inj ho
        have y3 : y 3 = .map (some m) := (hd ⟨3, .data⟩ (by simp) rfl).2
        have y4 : y 4 = .agg (kcs k).toArray := (hd ⟨4, .data⟩ (by simp) rfl).2
        have h11 := hd ⟨11, .data⟩ (by simp) rfl
        have y11 : y 11 = .pointer (some ⟨p, 0, none⟩) := h11.2
        rw [h11.1, hi'] at hI
        obtain ⟨hC, hM, hp, hpm⟩ := hI.two rfl rfl
        obtain ⟨w', hrun, hM', hT⟩ := hM.put_run qu_keyP LM.out WF.out.1 p
        refine slot_turnP (w' := w') ?_ ⟨undef, p, rfl, trivial, fun j q _ _ h => h, ?_⟩
        · refine runWithP (fun z => match z with | .tmp 25 => y 3 | .tmp 26 => y 4 | .tmp 33 => y 11 | .const c => c | _ => undef) (by kernel_rfl) ?_
          rw [y3, y4, y11]
          rw [kv_eq] at hrun
          have hrun : (Instr.mapUpdate 27 (.map (some m)) (.agg (kcs k).toArray) (.pointer (some ⟨p, 0, none⟩))).run Try.prog wx = .ok () w' := hrun
          simp [execOp, hrun, Result.andThen]
        · show AddI w b o R ty m k now g L T (M 11) true p w'
          rw [h11.1]
          exact hI.put hC hM' hT hp NEW.out WF.out FEW.out H5.out hpm (show m ≠ g from fun e => NQ.out.2 (.inr (.inl (by rw [e])))) SUBM.out
      | j + 13, hsrc, ho => cases ho
    · rintro M p y wx hall hI
      obtain ⟨hQ, hp⟩ := hI.three (hall 12 (by decide)).1
      have HQ := Lib.hid hQ
      have HP := Lib.hid hp
      have HF := Lib.hid hI.frm
      clear hI hall hQ hp
      go_wp2_with fail
      go_ret
      exact ⟨p, some m, rfl, HP.out, HQ.out, HF.out, OWN.out⟩
  | some m =>
    have NQ := Lib.hid (show ¬ qT b L m ∧ ¬ own b (some m) L g from by
      have hs := H2.out.msep rfl
      refine ⟨?_, fun e => by have h1 := H0.out.lt e; have h3 := HG.out; omega⟩
      rintro (e | ⟨y, hy, e⟩)
      · exact hs.1 e
      · exact hs.2 y hy e)
    have SUB := Lib.hid (show ∀ q, q < w.heap.size → qT b L q → own b (some m) L q from fun q _ hq => by
      rcases hq with e | e
      · exact .inl e
      · exact .inr (.inr e))
    have SUBM := Lib.hid (show own b (some m) L m ∨ w.heap.size ≤ m from .inl (.inr (.inl rfl)))
    have I0 := Lib.hid (show AddI w b o R ty m k now g L (own b (some m) L) false false 0 w2.drew from ⟨H2.out.c.row.cells.c2, N2.out, (Frm.of_below B2.out (Nat.le_refl _)).drew, fun _ _ => ⟨H2.out.c.keep rfl (fun _ _ => rfl), H2.out.map.keep fun _ _ => rfl⟩, (fun e => by cases e), (fun e => by cases e)⟩)
    have OWN := Lib.hid (show ∀ m', some m = some m' → some m = some m' ∨ w.heap.size ≤ m' from fun m' e => .inl e)
    have H5 := Lib.hid H2.out
    rw [← HTT.out] at SUB SUBM I0
    clear f2
    go_upto_region 7 with (with_reducible refine LEN.out.mono ?_; rintro e w3 ⟨rfl, rfl⟩)
    refine wp_region_par (α := Nat) (by kernel_rfl) (by kernel_rfl) (by kernel_rfl) (fun y => ⟨#[.pointer (some ⟨b, o, none⟩), .agg (kcs k).toArray, .int .i64 now, undef, .pointer (some ⟨g, 0, none⟩), undef, .int .i64 0, .pointer (some ⟨b, o, none⟩), .agg (kcs k).toArray, .bool false, .pointer (some ⟨b, o, none⟩), .int .i64 (L.length : Int), .bool false, .pointer (some ⟨b, o, none⟩), .pointer (some ⟨b, o, none⟩), .pointer (some ⟨b, o + 2, none⟩), .map (some m), .bool false, undef, undef, undef, undef, y 0, y 1, y 2, y 3, y 4, y 5, y 6, y 7, y 8, y 9, y 10, y 11], []⟩) (fun p j q => match j with | 0 => q = .pointer (some ⟨b, o, none⟩) | 1 => q = .pointer (some ⟨b, o, none⟩) | 2 => q = .pointer (some ⟨b, o + 2, none⟩) | 3 => q = .map (some m) | 4 => q = .agg (kcs k).toArray | 5 => q = .pointer (some ⟨b, o, none⟩) | 6 => q = .pointer (some ⟨b, o, none⟩) | 7 => q = .pointer (some ⟨b, o, none⟩) | 8 => q = .agg (kcs k).toArray | 9 => q = .int .i64 now | 10 => q = .agg (wcs k now).toArray | 11 => q = .pointer (some ⟨p, 0, none⟩) | _ => True) (fun M p wx => AddI w b o R ty m k now g L T (M 11) (M 12) p wx) (fun i => [11, 12].contains i) (fun i j => i == 11 && j == 12) (parOk_spec (by kernel_rfl)) ?_ ?_ ?_ (fun _ => undef) 0 rfl (by exact I0.out)
    · intro i' o hsrc ho M p y wx hd hi' hI
      match i', ho with
      | 0, ho =>
        obtain rfl := Option.some.inj ho
        refine ⟨.pointer (some ⟨b, o, none⟩), ?_, rfl, rfl, hI⟩
        refine runWithP (fun z => match z with  | .tmp 0 => .pointer (some ⟨b, o, none⟩) | .const c => c | _ => undef) (by kernel_rfl) ?_
        go_simp
      | 1, ho =>
        obtain rfl := Option.some.inj ho
        have y0 : y 0 = .pointer (some ⟨b, o, none⟩) := hd ⟨0, .data⟩ (by simp) rfl
        refine ⟨.pointer (some ⟨b, o, none⟩), ?_, rfl, rfl, hI⟩
        refine runWithP (fun z => match z with | .tmp 22 => y 0 | .const c => c | _ => undef) (by kernel_rfl) ?_
        rw [y0]
        go_simp
      | 2, ho =>
        obtain rfl := Option.some.inj ho
        have y0 : y 1 = .pointer (some ⟨b, o, none⟩) := hd ⟨1, .data⟩ (by simp) rfl
        refine ⟨.pointer (some ⟨b, o + 2, none⟩), ?_, rfl, rfl, hI⟩
        refine runWithP (fun z => match z with | .tmp 23 => y 1 | .const c => c | _ => undef) (by kernel_rfl) ?_
        rw [y0]
        go_simp
      | 3, ho =>
        obtain rfl := Option.some.inj ho
        have y0 : y 2 = .pointer (some ⟨b, o + 2, none⟩) := hd ⟨2, .data⟩ (by simp) rfl
        have cx := hI.cell
        refine ⟨.map (some m), ?_, rfl, rfl, hI⟩
        refine runWithP (fun z => match z with | .tmp 24 => y 2 | .const c => c | _ => undef) (by kernel_rfl) ?_
        rw [y0]
        go_simp
      | 4, ho =>
        obtain rfl := Option.some.inj ho
        exact ⟨.agg (kcs k).toArray, run_loadP 32 (.tmp 4) rfl ⟨g, 0, none⟩ (by rfl) (kcs k) _ (box_at hI.box) Try.underlying32 rfl (tkSize _), rfl, rfl, hI⟩
      | 5, ho =>
        obtain rfl := Option.some.inj ho
        refine ⟨.pointer (some ⟨b, o, none⟩), ?_, rfl, rfl, hI⟩
        refine runWithP (fun z => match z with  | .tmp 0 => .pointer (some ⟨b, o, none⟩) | .const c => c | _ => undef) (by kernel_rfl) ?_
        go_simp
      | 6, ho =>
        obtain rfl := Option.some.inj ho
        have y0 : y 5 = .pointer (some ⟨b, o, none⟩) := hd ⟨5, .data⟩ (by simp) rfl
        refine ⟨.pointer (some ⟨b, o, none⟩), ?_, rfl, rfl, hI⟩
        refine runWithP (fun z => match z with | .tmp 27 => y 5 | .const c => c | _ => undef) (by kernel_rfl) ?_
        rw [y0]
        go_simp
      | 7, ho =>
        obtain rfl := Option.some.inj ho
        have y0 : y 6 = .pointer (some ⟨b, o, none⟩) := hd ⟨6, .data⟩ (by simp) rfl
        refine ⟨.pointer (some ⟨b, o, none⟩), ?_, rfl, rfl, hI⟩
        refine runWithP (fun z => match z with | .tmp 28 => y 6 | .const c => c | _ => undef) (by kernel_rfl) ?_
        rw [y0]
        go_simp
      | 8, ho =>
        obtain rfl := Option.some.inj ho
        exact ⟨.agg (kcs k).toArray, run_loadP 32 (.tmp 4) rfl ⟨g, 0, none⟩ (by rfl) (kcs k) _ (box_at hI.box) Try.underlying32 rfl (tkSize _), rfl, rfl, hI⟩
      | 9, ho =>
        obtain rfl := Option.some.inj ho
        refine ⟨.int .i64 now, ?_, rfl, rfl, hI⟩
        refine runWithP (fun z => match z with  | .tmp 2 => .int .i64 now | .const c => c | _ => undef) (by kernel_rfl) ?_
        go_simp
      | 10, ho =>
        obtain rfl := Option.some.inj ho
        have y0 : y 8 = .agg (kcs k).toArray := hd ⟨8, .data⟩ (by simp) rfl
        have y1 : y 9 = .int .i64 now := hd ⟨9, .data⟩ (by simp) rfl
        refine ⟨.agg (wcs k now).toArray, ?_, rfl, rfl, hI⟩
        refine runWithP (fun z => match z with | .tmp 30 => y 8 | .tmp 31 => y 9 | .const c => c | _ => undef) (by kernel_rfl) ?_
        rw [y0, y1]
        kernel_rfl
      | 11, ho =>
        obtain rfl := Option.some.inj ho
        cases hsrc
      | 12, ho =>
        obtain rfl := Option.some.inj ho
        cases hsrc
      | j + 13, ho => cases ho
    · intro i' o hsrc ho M p y wx hd hi' hlat hI
      match i', hsrc, ho with
      | 0, hsrc, ho =>
        cases hsrc
      | 1, hsrc, ho =>
        cases hsrc
      | 2, hsrc, ho =>
        cases hsrc
      | 3, hsrc, ho =>
        cases hsrc
      | 4, hsrc, ho =>
        cases hsrc
      | 5, hsrc, ho =>
        cases hsrc
      | 6, hsrc, ho =>
        cases hsrc
      | 7, hsrc, ho =>
        cases hsrc
      | 8, hsrc, ho =>
        cases hsrc
      | 9, hsrc, ho =>
        cases hsrc
      | 10, hsrc, ho =>
        cases hsrc
      | 11, hsrc, ho =>
        obtain rfl := Option.some.inj ho
        have h12 : M 12 = false := hlat 12 rfl
        have y7 : y 7 = .pointer (some ⟨b, o, none⟩) := (hd ⟨7, .data⟩ (by simp) rfl).2
        have y10 : y 10 = .agg (wcs k now).toArray := (hd ⟨10, .data⟩ (by simp) rfl).2
        rw [hi', h12] at hI
        obtain ⟨hC, hM⟩ := hI.one rfl rfl
        refine slot_call #[.pointer (some ⟨b, o, none⟩), .agg (wcs k now).toArray] rfl Try.func46 (by kernel_rfl) (by kernel_rfl) (by simp [Act.eval, y7, y10]) ?_
        refine (hang_any hC k now).mono ?_
        rintro e w' ⟨p', rfl, hp', hC', hF'⟩
        refine ⟨_, rfl, _, p', rfl, rfl, ?_, ?_⟩
        · intro j q hne _ hF
          match j, hne, hF with
          | 0, _, hF => exact hF
          | 1, _, hF => exact hF
          | 2, _, hF => exact hF
          | 3, _, hF => exact hF
          | 4, _, hF => exact hF
          | 5, _, hF => exact hF
          | 6, _, hF => exact hF
          | 7, _, hF => exact hF
          | 8, _, hF => exact hF
          | 9, _, hF => exact hF
          | 10, _, hF => exact hF
          | 11, hne, _ => exact absurd rfl hne
          | 12, _, hF => exact hF
          | j + 13, _, _ => trivial
        · show AddI w b o R ty m k now g L T true (M 12) p' w'
          rw [h12]
          exact hI.hang hC hM NQ.out.1 NQ.out.2 SUB.out hC' hF' hp'
      | 12, hsrc, ho =>
        obtain rfl := Option.some.inj ho
        have y3 : y 3 = .map (some m) := (hd ⟨3, .data⟩ (by simp) rfl).2
        have y4 : y 4 = .agg (kcs k).toArray := (hd ⟨4, .data⟩ (by simp) rfl).2
        have h11 := hd ⟨11, .data⟩ (by simp) rfl
        have y11 : y 11 = .pointer (some ⟨p, 0, none⟩) := h11.2
        rw [h11.1, hi'] at hI
        obtain ⟨hC, hM, hp, hpm⟩ := hI.two rfl rfl
        obtain ⟨w', hrun, hM', hT⟩ := hM.put_run qu_keyP LM.out WF.out.1 p
        refine slot_turnP (w' := w') ?_ ⟨undef, p, rfl, trivial, fun j q _ _ h => h, ?_⟩
        · refine runWithP (fun z => match z with | .tmp 25 => y 3 | .tmp 26 => y 4 | .tmp 33 => y 11 | .const c => c | _ => undef) (by kernel_rfl) ?_
          rw [y3, y4, y11]
          rw [kv_eq] at hrun
          have hrun : (Instr.mapUpdate 27 (.map (some m)) (.agg (kcs k).toArray) (.pointer (some ⟨p, 0, none⟩))).run Try.prog wx = .ok () w' := hrun
          simp [execOp, hrun, Result.andThen]
        · show AddI w b o R ty m k now g L T (M 11) true p w'
          rw [h11.1]
          exact hI.put hC hM' hT hp NEW.out WF.out FEW.out H5.out hpm (show m ≠ g from fun e => NQ.out.2 (.inr (.inl (by rw [e])))) SUBM.out
      | j + 13, hsrc, ho => cases ho
    · rintro M p y wx hall hI
      obtain ⟨hQ, hp⟩ := hI.three (hall 12 (by decide)).1
      have HQ := Lib.hid hQ
      have HP := Lib.hid hp
      have HF := Lib.hid hI.frm
      clear hI hall hQ hp
      go_wp2_with fail
      go_ret
      exact ⟨p, some m, rfl, HP.out, HQ.out, HF.out, OWN.out⟩
end Go.Proofs.Ytjjmjbemflhlbaa.Qu
