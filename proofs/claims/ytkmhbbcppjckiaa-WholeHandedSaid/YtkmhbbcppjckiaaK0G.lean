/- A task waits behind the others. -/
import Derived.Test.YtkmhbbcppjckiaaK0F
namespace Go.Proofs.Ytkmhbbcppjckiaa.Qu
open Go Go.RowKit Go.Proofs.Ytkmhbbcppjckiaa
open Go.Proofs.Ytkmhbbcppjckiaa.Hp (K3 kv KLit wf3 i64wf kv_inj)
open Go.Proofs.Ytkmhbbcppjckiaa.Dk (Frm below_drewN Frm.of_below Frm.setCell Frm.refl Frm.drewN Frm.drew Frm.transT Frm.turned Frm.trans Frm.mono)
set_option linter.unusedVariables false
set_option linter.unusedSimpArgs false
set_option maxRecDepth 100000
variable {w : World} {b o : Nat} {R : Array Value} {ty : TypeId} {mo : Option Nat} {L : List Lk}
theorem qadd_twice (h : QAt w b o R ty mo L) (k : K3) (hk : wf3 k) (now : Int) (hin : adOf L k ≠ none) : Calls Try.prog 14 #[.pointer (some ⟨b, o, none⟩), .agg (kcs k).toArray, .int .i64 now] w fun e w' => e = .returned (.int .i64 5) ∧ Below w.heap.size w w' := by
  obtain ⟨w1, hw1⟩ : ∃ x, x = w.alloc (.cells (kcs k).toArray 32) := ⟨_, rfl⟩
  obtain ⟨g, hg⟩ : ∃ g, g = w.heap.size := ⟨_, rfl⟩
  have b1 : Below w.heap.size w w1 := by rw [hw1]; exact (Below.refl _ _).alloc (Nat.le_refl _) _
  have KT : ∀ j v, (kcs k)[j]? = some v → w1.cell? ((⟨g, 0, none⟩ : Addr).add j) = some v := by rw [hw1, hg]; exact box_task w k
  have HS := Lib.hid (qhas_any (h.below b1) k hk)
  have e1 : (adOf L k).isSome = true := by cases hA : adOf L k with | none => exact absurd hA hin | some a => rfl
  rw [e1, kv_eq] at HS
  have HW := Lib.hid hw1
  have HG := Lib.hid hg
  have B1 := Lib.hid b1
  clear h hw1 hg b1 e1 hin
  go_enter Try.func14, Try.ntmps14
  go_upto_region 1 with fail
  rw [← HW.out, ← HG.out]
  go_wp2_with (with_reducible show wpList _ _ _ _ _ _; refine wpList_load_allW rfl 32 (.tmp 4) rfl ⟨g, 0, none⟩ rfl (kcs k) _ KT Try.underlying32 rfl (tkSize _) ?_)
  refine HS.out.mono ?_
  rintro e w2 ⟨rfl, hb2⟩
  have B2 := Lib.hid (B1.out.trans (hb2.mono B1.out.size))
  clear hb2
  go_wp2_with fail
  go_ret
  exact ⟨rfl, B2.out⟩
theorem qadd_full (h : QAt w b o R ty mo L) (k : K3) (hk : wf3 k) (now : Int) (hno : adOf L k = none) (hfull : L.length = 128) : Calls Try.prog 14 #[.pointer (some ⟨b, o, none⟩), .agg (kcs k).toArray, .int .i64 now] w fun e w' => e = .returned (.int .i64 3) ∧ Below w.heap.size w w' := by
  obtain ⟨w1, hw1⟩ : ∃ x, x = w.alloc (.cells (kcs k).toArray 32) := ⟨_, rfl⟩
  obtain ⟨g, hg⟩ : ∃ g, g = w.heap.size := ⟨_, rfl⟩
  have b1 : Below w.heap.size w w1 := by rw [hw1]; exact (Below.refl _ _).alloc (Nat.le_refl _) _
  have KT : ∀ j v, (kcs k)[j]? = some v → w1.cell? ((⟨g, 0, none⟩ : Addr).add j) = some v := by rw [hw1, hg]; exact box_task w k
  have HS := Lib.hid (qhas_any (h.below b1) k hk)
  rw [hno, kv_eq] at HS
  have H1 := Lib.hid (h.below b1)
  have HW := Lib.hid hw1
  have HG := Lib.hid hg
  have B1 := Lib.hid b1
  have HL := Lib.hid hfull
  clear h hw1 hg b1 hno hfull
  go_enter Try.func14, Try.ntmps14
  go_upto_region 1 with fail
  rw [← HW.out, ← HG.out]
  go_wp2_with (with_reducible show wpList _ _ _ _ _ _; refine wpList_load_allW rfl 32 (.tmp 4) rfl ⟨g, 0, none⟩ rfl (kcs k) _ KT Try.underlying32 rfl (tkSize _) ?_)
  refine HS.out.mono ?_
  rintro e w2 ⟨rfl, hb2⟩
  have B2 := Lib.hid (B1.out.trans (hb2.mono B1.out.size))
  have LEN := Lib.hid (qlen_any (H1.out.below hb2))
  rw [HL.out] at LEN
  clear hb2 KT
  go_wp2_with fail
  refine LEN.out.mono ?_
  rintro e w3 ⟨rfl, rfl⟩
  go_wp2_with fail
  go_ret
  exact ⟨rfl, B2.out⟩
/-- What stands while the last region is under way. -/
structure AddI (w : World) (b o : Nat) (R : Array Value) (ty : TypeId) (m : Nat) (k : K3) (now : Int) (g : Nat) (L : List Lk) (T : Nat → Prop) (s11 s12 : Bool) (p : Nat) (wx : World) : Prop where
  cell : wx.cell? ⟨b, o + 2, none⟩ = some (.map (some m))
  box : wx.heap[g]? = some (.cells (kcs k).toArray 32 (0, 0))
  frm : Frm T w wx
  one : s11 = false → s12 = false → CAt wx b o R ty (some m) L ∧ MapP Try.prog 32 wx (some m) L.length (adOf L)
  two : s11 = true → s12 = false → CAt wx b o R ty (some m) (L ++ [⟨k, now, p⟩]) ∧ MapP Try.prog 32 wx (some m) L.length (adOf L) ∧ w.heap.size ≤ p ∧ p ≠ m
  three : s12 = true → QAt wx b o R ty (some m) (L ++ [⟨k, now, p⟩]) ∧ w.heap.size ≤ p
theorem box_at {w : World} {g : Nat} {cs : List Value} {t : TypeId} {fr : Nat × Nat} (h : w.heap[g]? = some (.cells cs.toArray t fr)) : ∀ j v, cs[j]? = some v → w.cell? ((⟨g, 0, none⟩ : Addr).add j) = some v := fun j v hj => by
  rw [Addr.add_mid, Nat.zero_add, cell_of_row _ _ j _ _ _ h]
  simpa using hj
section
variable {m : Nat} {k : K3} {now : Int} {g p : Nat} {T : Nat → Prop} {s12 : Bool} {wx w' : World}
theorem AddI.hang {p' : Nat} (h : AddI w b o R ty m k now g L T false false p wx) (hC : CAt wx b o R ty (some m) L) (hM : MapP Try.prog 32 wx (some m) L.length (adOf L)) (nm : ¬ qT b L m) (ng : ¬ own b (some m) L g) (sub : ∀ q, q < w.heap.size → qT b L q → T q)
    (hC' : CAt w' b o R ty (some m) (L ++ [⟨k, now, p'⟩])) (hF' : Frm (qT b L) wx w') (hp' : wx.heap.size ≤ p') : AddI w b o R ty m k now g L T true false p' w' := by
  have ng' : ¬ qT b L g := fun e => ng (by
    rcases e with e | e
    · exact .inl e
    · exact .inr (.inr e))
  refine ⟨hC'.row.cells.c2, (hF'.block g (lt_of_rowW h.box) ng').trans h.box, h.frm.transT hF' fun q hq hqT => sub q hq hqT, (fun e => by cases e), fun _ _ => ⟨hC', hM.keep fun m' hm' => by cases hm'; exact hF'.block m hM.lt nm, Nat.le_trans h.frm.size hp', fun e => by have := hM.lt; omega⟩, (fun e => by cases e)⟩
theorem AddI.put {w5 : World} (h : AddI w b o R ty m k now g L T true false p wx) (hC : CAt wx b o R ty (some m) (L ++ [⟨k, now, p⟩])) (hM' : MapP Try.prog 32 w' (some m) (if (adOf L k).isSome then L.length else L.length + 1) (fun y => if y = k then some p else adOf L y)) (hT : wx.mapTurned w' m) (hp : w.heap.size ≤ p)
    (hnew : adOf L k = none) (hwf : wf3 k ∧ i64wf now) (hfew : L.length < 128) (h5 : QAt w5 b o R ty (some m) L) (hms : p ≠ m) (mg : m ≠ g) (hmT : T m ∨ w.heap.size ≤ m) : AddI w b o R ty m k now g L T true true p w' := by
  have hnk := adOf_none.1 hnew
  have mne := h5.msep rfl
  have hbm : b ≠ m := fun e => mne.1 e.symm
  have hall : ∀ x ∈ L ++ [(⟨k, now, p⟩ : Lk)], x.ad ≠ m := by
    intro x hx
    rcases List.mem_append.1 hx with hx | hx
    · exact mne.2 x hx
    · rw [List.mem_singleton.1 hx]
      exact hms
  have hC' : CAt w' b o R ty (some m) (L ++ [⟨k, now, p⟩]) := hC.keep (turned_block hT hbm hC.row.lt) fun x hx => turned_block hT (hall x hx) (hC.chain.lt x hx)
  rw [hnew] at hM'
  refine ⟨hC'.row.cells.c2, (turned_block hT (Ne.symm mg) (lt_of_rowW h.box)).trans h.box, h.frm.turned hT hmT, (fun _ e => by cases e), (fun _ e => by cases e), fun _ => ⟨⟨hC', ?_, ?_, ?_, ?_⟩, hp⟩⟩
  · rw [List.length_append]
    exact hM'.ext fun y => adOf_app_new (x := ⟨k, now, p⟩) hnk y
  · intro x hx
    rcases List.mem_append.1 hx with hx | hx
    · exact h5.wf x hx
    · rw [List.mem_singleton.1 hx]; exact hwf
  · rw [List.map_append, List.nodup_append]
    refine ⟨h5.keys, by simp, fun a ha c hc e => ?_⟩
    obtain ⟨x, hx, rfl⟩ := List.mem_map.1 ha
    have : c = k := by simpa using hc
    exact hnk x hx (e.trans this)
  · rw [List.length_append, List.length_singleton]; omega
end
set_option maxHeartbeats 4000000
theorem qadd_ok (h : QAt w b o R ty mo L) (k : K3) (hk : wf3 k) (now : Int) (hnow : i64wf now) (hno : adOf L k = none) (hfew : L.length < 128) : Calls Try.prog 14 #[.pointer (some ⟨b, o, none⟩), .agg (kcs k).toArray, .int .i64 now] w fun e w' =>
    ∃ p mo', e = .returned (.int .i64 0) ∧ w.heap.size ≤ p ∧ QAt w' b o R ty mo' (L ++ [⟨k, now, p⟩]) ∧ Frm (own b mo L) w w' ∧ (∀ m, mo' = some m → mo = some m ∨ w.heap.size ≤ m) := by
  obtain ⟨w1, hw1⟩ : ∃ x, x = w.alloc (.cells (kcs k).toArray 32) := ⟨_, rfl⟩
  obtain ⟨g, hg⟩ : ∃ g, g = w.heap.size := ⟨_, rfl⟩
  have b1 : Below w.heap.size w w1 := by rw [hw1]; exact (Below.refl _ _).alloc (Nat.le_refl _) _
  have n1 : w1.heap[g]? = some (.cells (kcs k).toArray 32 (0, 0)) := by rw [hw1, hg]; exact heap_alloc_new _ _
  have KT : ∀ j v, (kcs k)[j]? = some v → w1.cell? ((⟨g, 0, none⟩ : Addr).add j) = some v := by rw [hw1, hg]; exact box_task w k
  have HS := Lib.hid (qhas_any (h.below b1) k hk)
  rw [hno, kv_eq] at HS
  have H0 := Lib.hid h
  have H1 := Lib.hid (h.below b1)
  have HW := Lib.hid hw1
  have HG := Lib.hid hg
  have B1 := Lib.hid b1
  have N1 := Lib.hid n1
  have NEW := Lib.hid hno
  have WF := Lib.hid (And.intro hk hnow)
  have FEW := Lib.hid hfew
  have LM := Lib.hid (show L.length < maxLen by unfold maxLen; omega)
  obtain ⟨T, hT⟩ : ∃ T, T = own b mo L := ⟨_, rfl⟩
  rw [← hT]
  have HTT := Lib.hid hT
  clear hT
  have hl128 : ((L.length : Int) == 128) = false := by
    have : ¬ (L.length : Int) = 128 := by omega
    simpa using this
  clear h hw1 hg b1 n1 hno hk hnow
  go_enter Try.func14, Try.ntmps14
  go_upto_region 1 with fail
  rw [← HW.out, ← HG.out]
  go_upto_region 3 with (first | (with_reducible show wpList _ _ _ _ _ _; refine wpList_load_allW rfl 32 (.tmp 4) rfl ⟨g, 0, none⟩ rfl (kcs k) _ KT Try.underlying32 rfl (tkSize _) ?_) | (with_reducible refine HS.out.mono ?_; rintro e w2 ⟨rfl, hb2⟩))
  have h2 := H1.out.below hb2
  have LEN := Lib.hid (qlen_any h2)
  have N2 := Lib.hid ((hb2.block g (lt_of_rowW N1.out)).trans N1.out)
  have B2 := Lib.hid (B1.out.trans (hb2.mono B1.out.size))
  have EQ := fun (w : World) (r : Option Nat) => run_eql_map_nil (P := Try.prog) w _ _ _ r Try.underlying27
  obtain ⟨c0, c1, c2, f0, f1, f2⟩ := h2.c.row.cells
  have H2 := Lib.hid h2
  have GLT := Lib.hid (show g < w2.heap.size from lt_of_rowW N2.out)
  clear hb2 h2 KT c0 c1 f0 f1
  cases mo with
  | none =>
    have HLN := Lib.hid (show L = [] from List.eq_nil_of_length_eq_zero H2.out.map.1)
    obtain ⟨m, hm⟩ : ∃ m, m = w2.heap.size := ⟨_, rfl⟩
    obtain ⟨w4, hw4⟩ : ∃ x, x = w2.alloc (.map #[] 0) := ⟨_, rfl⟩
    have b4 : Below w2.heap.size w2 w4 := by rw [hw4]; exact (Below.refl _ _).alloc (Nat.le_refl _) _
    have h4 := H2.out.below b4
    have m4 : MapP Try.prog 32 w4 (some m) L.length (adOf L) := by
      have hL : L.length = 0 := by rw [HLN.out]; rfl
      rw [hL, hw4, hm]
      exact (MapP.made w2).ext fun y => by rw [HLN.out]; rfl
    obtain ⟨w5, hw5⟩ : ∃ x, x = w4.setCell ⟨b, o + 2, none⟩ (.map (some m)) := ⟨_, rfl⟩
    have mb : m ≠ b := fun e => by have := H2.out.c.row.lt; omega
    have o5 : ∀ q, q ≠ b → w5.heap[q]? = w4.heap[q]? := fun q hq => by rw [hw5]; exact setCell_other _ _ _ hq
    have h5 : QAt w5 b o R ty (some m) L := by
      refine ⟨⟨?_, ?_, h4.c.ads⟩, m4.keep (fun m' hm' => by cases hm'; exact o5 m mb), h4.wf, h4.keys, h4.few⟩
      · rw [hw5]; exact h4.c.row.set2 _
      · rw [HLN.out]; trivial
    have f5 : Frm (own b none L) w w5 := by
      rw [hw5]
      exact (Frm.of_below (B2.out.trans (b4.mono B2.out.size)) (Nat.le_refl _)).setCell (p := ⟨b, o + 2, none⟩) (.inl (.inl rfl)) _
    have gb : g ≠ b := fun e => by have h1 := H0.out.c.row.lt; have h3 := HG.out; omega
    have n5 : w5.heap[g]? = some (.cells (kcs k).toArray 32 (0, 0)) := (o5 g gb).trans ((b4.block g GLT.out).trans N2.out)
    replace f2 : w4.frozen? ⟨b, o + 2, none⟩ = false := h4.c.row.cells.f2
    have c4 : w4.cell? ⟨b, o + 2, none⟩ = some (.map none) := h4.c.row.cells.c2
    have NQ := Lib.hid (show ¬ qT b L m ∧ ¬ own b (some m) L g from by
      rw [HLN.out]
      refine ⟨?_, ?_⟩
      · rintro (e | ⟨y, hy, _⟩)
        · exact mb e
        · cases hy
      · rintro (e | e | ⟨y, hy, _⟩)
        · exact gb e
        · have := GLT.out; injection e with e; omega
        · cases hy)
    have SUB := Lib.hid (show ∀ q, q < w.heap.size → qT b L q → own b none L q from fun q _ hq => by
      rcases hq with e | e
      · exact .inl e
      · exact .inr (.inr e))
    have SUBM := Lib.hid (show own b none L m ∨ w.heap.size ≤ m from .inr (by rw [hm]; exact B2.out.size))
    have I0 := Lib.hid (show AddI w b o R ty m k now g L (own b none L) false false 0 w5.drew from ⟨h5.c.row.cells.c2, n5, f5.drew, fun _ _ => ⟨h5.c.keep rfl (fun _ _ => rfl), h5.map.keep fun _ _ => rfl⟩, (fun e => by cases e), (fun e => by cases e)⟩)
    have OWN := Lib.hid (show ∀ m', some m = some m' → (none : Option Nat) = some m' ∨ w.heap.size ≤ m' from fun m' e => .inr (by injection e with e; rw [← e, hm]; exact B2.out.size))
    have H5 := Lib.hid h5
    have HW4 := Lib.hid hw4
    have HW5 := Lib.hid hw5
    have HM := Lib.hid hm
    rw [← HTT.out] at SUB SUBM I0
    clear hm hw4 hw5 h4 m4 mb o5 h5 f5 gb n5 b4
    go_upto_region 6 with (with_reducible refine LEN.out.mono ?_; rintro e w3 ⟨rfl, rfl⟩)
    clear c2
    have MK : (Instr.makeMap 27 none).run Try.prog w3 = .ok (.map (some m)) w4 := by rw [HW4.out, HM.out]; rfl
    go_upto_region 7 with fail
    rw [← HW5.out]
    clear f2 c4 MK
    refine wp_region_par (α := Nat) (by kernel_rfl) (by kernel_rfl) (by kernel_rfl) (fun y => ⟨#[.pointer (some ⟨b, o, none⟩), .agg (kcs k).toArray, .int .i64 now, undef, .pointer (some ⟨g, 0, none⟩), undef, .int .i64 0, .pointer (some ⟨b, o, none⟩), .agg (kcs k).toArray, .bool false, .pointer (some ⟨b, o, none⟩), .int .i64 (L.length : Int), .bool false, .pointer (some ⟨b, o, none⟩), .pointer (some ⟨b, o, none⟩), .pointer (some ⟨b, o + 2, none⟩), .map none, .bool true, .pointer (some ⟨b, o, none⟩), .map (some m), .pointer (some ⟨b, o, none⟩), .pointer (some ⟨b, o + 2, none⟩), y 0, y 1, y 2, y 3, y 4, y 5, y 6, y 7, y 8, y 9, y 10, y 11], []⟩) (fun p j q => match j with | 0 => q = .pointer (some ⟨b, o, none⟩) | 1 => q = .pointer (some ⟨b, o, none⟩) | 2 => q = .pointer (some ⟨b, o + 2, none⟩) | 3 => q = .map (some m) | 4 => q = .agg (kcs k).toArray | 5 => q = .pointer (some ⟨b, o, none⟩) | 6 => q = .pointer (some ⟨b, o, none⟩) | 7 => q = .pointer (some ⟨b, o, none⟩) | 8 => q = .agg (kcs k).toArray | 9 => q = .int .i64 now | 10 => q = .agg (wcs k now).toArray | 11 => q = .pointer (some ⟨p, 0, none⟩) | _ => True) (fun M p wx => AddI w b o R ty m k now g L T (M 11) (M 12) p wx) (fun i => [11, 12].contains i) (fun i j => i == 11 && j == 12) (parOk_spec (by kernel_rfl)) ?_ ?_ ?_ (fun _ => undef) 0 rfl (by exact I0.out)
    · intro i' o hsrc ho M p y wx hd hi' hI
      match i', ho with
      | 0, ho =>
        obtain rfl := Option.some.inj ho
        refine ⟨.pointer (some ⟨b, o, none⟩), ?_, rfl, rfl, hI⟩
        refine runWithP (fun z => match z with  | .tmp 0 => .pointer (some ⟨b, o, none⟩) | .const c => c | _ => undef) (by kernel_rfl) ?_
        go_simp
      | 1, ho =>
        obtain rfl := Option.some.inj ho
        have y0 : y 0 = .pointer (some ⟨b, o, none⟩) := hd ⟨0, .data⟩ (by simp) rfl
        refine ⟨.pointer (some ⟨b, o, none⟩), ?_, rfl, rfl, hI⟩
        refine runWithP (fun z => match z with | .tmp 22 => y 0 | .const c => c | _ => undef) (by kernel_rfl) ?_
        rw [y0]
        go_simp
      | 2, ho =>
        obtain rfl := Option.some.inj ho
        have y0 : y 1 = .pointer (some ⟨b, o, none⟩) := hd ⟨1, .data⟩ (by simp) rfl
        refine ⟨.pointer (some ⟨b, o + 2, none⟩), ?_, rfl, rfl, hI⟩
        refine runWithP (fun z => match z with | .tmp 23 => y 1 | .const c => c | _ => undef) (by kernel_rfl) ?_
        rw [y0]
        go_simp
      | 3, ho =>
        obtain rfl := Option.some.inj ho
        have y0 : y 2 = .pointer (some ⟨b, o + 2, none⟩) := hd ⟨2, .data⟩ (by simp) rfl
        have cx := hI.cell
        refine ⟨.map (some m), ?_, rfl, rfl, hI⟩
        refine runWithP (fun z => match z with | .tmp 24 => y 2 | .const c => c | _ => undef) (by kernel_rfl) ?_
        rw [y0]
        go_simp
      | 4, ho =>
        obtain rfl := Option.some.inj ho
        exact ⟨.agg (kcs k).toArray, run_loadP 32 (.tmp 4) rfl ⟨g, 0, none⟩ (by rfl) (kcs k) _ (box_at hI.box) Try.underlying32 rfl (tkSize _), rfl, rfl, hI⟩
      | 5, ho =>
        obtain rfl := Option.some.inj ho
        refine ⟨.pointer (some ⟨b, o, none⟩), ?_, rfl, rfl, hI⟩
        refine runWithP (fun z => match z with  | .tmp 0 => .pointer (some ⟨b, o, none⟩) | .const c => c | _ => undef) (by kernel_rfl) ?_
        go_simp
      | 6, ho =>
        obtain rfl := Option.some.inj ho
        have y0 : y 5 = .pointer (some ⟨b, o, none⟩) := hd ⟨5, .data⟩ (by simp) rfl
        refine ⟨.pointer (some ⟨b, o, none⟩), ?_, rfl, rfl, hI⟩
        refine runWithP (fun z => match z with | .tmp 27 => y 5 | .const c => c | _ => undef) (by kernel_rfl) ?_
        rw [y0]
        go_simp
      | 7, ho =>
        obtain rfl := Option.some.inj ho
        have y0 : y 6 = .pointer (some ⟨b, o, none⟩) := hd ⟨6, .data⟩ (by simp) rfl
        refine ⟨.pointer (some ⟨b, o, none⟩), ?_, rfl, rfl, hI⟩
        refine runWithP (fun z => match z with | .tmp 28 => y 6 | .const c => c | _ => undef) (by kernel_rfl) ?_
        rw [y0]
        go_simp
      | 8, ho =>
        obtain rfl := Option.some.inj ho
        exact ⟨.agg (kcs k).toArray, run_loadP 32 (.tmp 4) rfl ⟨g, 0, none⟩ (by rfl) (kcs k) _ (box_at hI.box) Try.underlying32 rfl (tkSize _), rfl, rfl, hI⟩
      | 9, ho =>
        obtain rfl := Option.some.inj ho
        refine ⟨.int .i64 now, ?_, rfl, rfl, hI⟩
        refine runWithP (fun z => match z with  | .tmp 2 => .int .i64 now | .const c => c | _ => undef) (by kernel_rfl) ?_
        go_simp
      | 10, ho =>
        obtain rfl := Option.some.inj ho
        have y0 : y 8 = .agg (kcs k).toArray := hd ⟨8, .data⟩ (by simp) rfl
        have y1 : y 9 = .int .i64 now := hd ⟨9, .data⟩ (by simp) rfl
        refine ⟨.agg (wcs k now).toArray, ?_, rfl, rfl, hI⟩
        refine runWithP (fun z => match z with | .tmp 30 => y 8 | .tmp 31 => y 9 | .const c => c | _ => undef) (by kernel_rfl) ?_
        rw [y0, y1]
        kernel_rfl
      | 11, ho =>
        obtain rfl := Option.some.inj ho
        cases hsrc
      | 12, ho =>
        obtain rfl := Option.some.inj ho
        cases hsrc
      | j + 13, ho => cases ho
    · intro i' o hsrc ho M p y wx hd hi' hlat hI
      match i', hsrc, ho with
      | 0, hsrc, ho =>
        cases hsrc
      | 1, hsrc, ho =>
        cases hsrc
      | 2, hsrc, ho =>
        cases hsrc
      | 3, hsrc, ho =>
        cases hsrc
      | 4, hsrc, ho =>
        cases hsrc
      | 5, hsrc, ho =>
        cases hsrc
      | 6, hsrc, ho =>
        cases hsrc
      | 7, hsrc, ho =>
        cases hsrc
      | 8, hsrc, ho =>
        cases hsrc
      | 9, hsrc, ho =>
        cases hsrc
      | 10, hsrc, ho =>
        cases hsrc
      | 11, hsrc, ho =>
        obtain rfl := Option.some.inj ho
        have h12 : M 12 = false := hlat 12 rfl
        have y7 : y 7 = .pointer (some ⟨b, o, none⟩) := (hd ⟨7, .data⟩ (by simp) rfl).2
        have y10 : y 10 = .agg (wcs k now).toArray := (hd ⟨10, .data⟩ (by simp) rfl).2
        rw [hi', h12] at hI
        obtain ⟨hC, hM⟩ := hI.one rfl rfl
        refine slot_call #[.pointer (some ⟨b, o, none⟩), .agg (wcs k now).toArray] rfl Try.func46 (by kernel_rfl) (by kernel_rfl) (by simp [Act.eval, y7, y10]) ?_
        refine (hang_any hC k now).mono ?_
        rintro e w' ⟨p', rfl, hp', hC', hF'⟩
        refine ⟨_, rfl, _, p', rfl, rfl, ?_, ?_⟩
        · intro j q hne _ hF
          match j, hne, hF with
          | 0, _, hF => exact hF
          | 1, _, hF => exact hF
          | 2, _, hF => exact hF
          | 3, _, hF => exact hF
          | 4, _, hF => exact hF
          | 5, _, hF => exact hF
          | 6, _, hF => exact hF
          | 7, _, hF => exact hF
          | 8, _, hF => exact hF
          | 9, _, hF => exact hF
          | 10, _, hF => exact hF
          | 11, hne, _ => exact absurd rfl hne
          | 12, _, hF => exact hF
          | j + 13, _, _ => trivial
        · show AddI w b o R ty m k now g L T true (M 12) p' w'
          rw [h12]
          exact hI.hang hC hM NQ.out.1 NQ.out.2 SUB.out hC' hF' hp'
      | 12, hsrc, ho =>
        obtain rfl := Option.some.inj ho
        have y3 : y 3 = .map (some m) := (hd ⟨3, .data⟩ (by simp) rfl).2
        have y4 : y 4 = .agg (kcs k).toArray := (hd ⟨4, .data⟩ (by simp) rfl).2
        have h11 := hd ⟨11, .data⟩ (by simp) rfl
        have y11 : y 11 = .pointer (some ⟨p, 0, none⟩) := h11.2
        rw [h11.1, hi'] at hI
        obtain ⟨hC, hM, hp, hpm⟩ := hI.two rfl rfl
        obtain ⟨w', hrun, hM', hT⟩ := hM.put_run qu_keyP LM.out WF.out.1 p
        refine slot_turnP (w' := w') ?_ ⟨undef, p, rfl, trivial, fun j q _ _ h => h, ?_⟩
        · refine runWithP (fun z => match z with | .tmp 25 => y 3 | .tmp 26 => y 4 | .tmp 33 => y 11 | .const c => c | _ => undef) (by kernel_rfl) ?_
          rw [y3, y4, y11]
          rw [kv_eq] at hrun
          have hrun : (Instr.mapUpdate 27 (.map (some m)) (.agg (kcs k).toArray) (.pointer (some ⟨p, 0, none⟩))).run Try.prog wx = .ok () w' := hrun
          simp [execOp, hrun, Result.andThen]
        · show AddI w b o R ty m k now g L T (M 11) true p w'
          rw [h11.1]
          exact hI.put hC hM' hT hp NEW.out WF.out FEW.out H5.out hpm (show m ≠ g from fun e => NQ.out.2 (.inr (.inl (by rw [e])))) SUBM.out
      | j + 13, hsrc, ho => cases ho
    · rintro M p y wx hall hI
      obtain ⟨hQ, hp⟩ := hI.three (hall 12 (by decide)).1
      have HQ := Lib.hid hQ
      have HP := Lib.hid hp
      have HF := Lib.hid hI.frm
      clear hI hall hQ hp
      go_wp2_with fail
      go_ret
      exact ⟨p, some m, rfl, HP.out, HQ.out, HF.out, OWN.out⟩
  | some m =>
    have NQ := Lib.hid (show ¬ qT b L m ∧ ¬ own b (some m) L g from by
      have hs := H2.out.msep rfl
      refine ⟨?_, fun e => by have h1 := H0.out.lt e; have h3 := HG.out; omega⟩
      rintro (e | ⟨y, hy, e⟩)
      · exact hs.1 e
      · exact hs.2 y hy e)
    have SUB := Lib.hid (show ∀ q, q < w.heap.size → qT b L q → own b (some m) L q from fun q _ hq => by
      rcases hq with e | e
      · exact .inl e
      · exact .inr (.inr e))
    have SUBM := Lib.hid (show own b (some m) L m ∨ w.heap.size ≤ m from .inl (.inr (.inl rfl)))
    have I0 := Lib.hid (show AddI w b o R ty m k now g L (own b (some m) L) false false 0 w2.drew from ⟨H2.out.c.row.cells.c2, N2.out, (Frm.of_below B2.out (Nat.le_refl _)).drew, fun _ _ => ⟨H2.out.c.keep rfl (fun _ _ => rfl), H2.out.map.keep fun _ _ => rfl⟩, (fun e => by cases e), (fun e => by cases e)⟩)
    have OWN := Lib.hid (show ∀ m', some m = some m' → some m = some m' ∨ w.heap.size ≤ m' from fun m' e => .inl e)
    have H5 := Lib.hid H2.out
    rw [← HTT.out] at SUB SUBM I0
    clear f2
    go_upto_region 7 with (with_reducible refine LEN.out.mono ?_; rintro e w3 ⟨rfl, rfl⟩)
    refine wp_region_par (α := Nat) (by kernel_rfl) (by kernel_rfl) (by kernel_rfl) (fun y => ⟨#[.pointer (some ⟨b, o, none⟩), .agg (kcs k).toArray, .int .i64 now, undef, .pointer (some ⟨g, 0, none⟩), undef, .int .i64 0, .pointer (some ⟨b, o, none⟩), .agg (kcs k).toArray, .bool false, .pointer (some ⟨b, o, none⟩), .int .i64 (L.length : Int), .bool false, .pointer (some ⟨b, o, none⟩), .pointer (some ⟨b, o, none⟩), .pointer (some ⟨b, o + 2, none⟩), .map (some m), .bool false, undef, undef, undef, undef, y 0, y 1, y 2, y 3, y 4, y 5, y 6, y 7, y 8, y 9, y 10, y 11], []⟩) (fun p j q => match j with | 0 => q = .pointer (some ⟨b, o, none⟩) | 1 => q = .pointer (some ⟨b, o, none⟩) | 2 => q = .pointer (some ⟨b, o + 2, none⟩) | 3 => q = .map (some m) | 4 => q = .agg (kcs k).toArray | 5 => q = .pointer (some ⟨b, o, none⟩) | 6 => q = .pointer (some ⟨b, o, none⟩) | 7 => q = .pointer (some ⟨b, o, none⟩) | 8 => q = .agg (kcs k).toArray | 9 => q = .int .i64 now | 10 => q = .agg (wcs k now).toArray | 11 => q = .pointer (some ⟨p, 0, none⟩) | _ => True) (fun M p wx => AddI w b o R ty m k now g L T (M 11) (M 12) p wx) (fun i => [11, 12].contains i) (fun i j => i == 11 && j == 12) (parOk_spec (by kernel_rfl)) ?_ ?_ ?_ (fun _ => undef) 0 rfl (by exact I0.out)
    · intro i' o hsrc ho M p y wx hd hi' hI
      match i', ho with
      | 0, ho =>
        obtain rfl := Option.some.inj ho
        refine ⟨.pointer (some ⟨b, o, none⟩), ?_, rfl, rfl, hI⟩
        refine runWithP (fun z => match z with  | .tmp 0 => .pointer (some ⟨b, o, none⟩) | .const c => c | _ => undef) (by kernel_rfl) ?_
        go_simp
      | 1, ho =>
        obtain rfl := Option.some.inj ho
        have y0 : y 0 = .pointer (some ⟨b, o, none⟩) := hd ⟨0, .data⟩ (by simp) rfl
        refine ⟨.pointer (some ⟨b, o, none⟩), ?_, rfl, rfl, hI⟩
        refine runWithP (fun z => match z with | .tmp 22 => y 0 | .const c => c | _ => undef) (by kernel_rfl) ?_
        rw [y0]
        go_simp
      | 2, ho =>
        obtain rfl := Option.some.inj ho
        have y0 : y 1 = .pointer (some ⟨b, o, none⟩) := hd ⟨1, .data⟩ (by simp) rfl
        refine ⟨.pointer (some ⟨b, o + 2, none⟩), ?_, rfl, rfl, hI⟩
        refine runWithP (fun z => match z with | .tmp 23 => y 1 | .const c => c | _ => undef) (by kernel_rfl) ?_
        rw [y0]
        go_simp
      | 3, ho =>
        obtain rfl := Option.some.inj ho
        have y0 : y 2 = .pointer (some ⟨b, o + 2, none⟩) := hd ⟨2, .data⟩ (by simp) rfl
        have cx := hI.cell
        refine ⟨.map (some m), ?_, rfl, rfl, hI⟩
        refine runWithP (fun z => match z with | .tmp 24 => y 2 | .const c => c | _ => undef) (by kernel_rfl) ?_
        rw [y0]
        go_simp
      | 4, ho =>
        obtain rfl := Option.some.inj ho
        exact ⟨.agg (kcs k).toArray, run_loadP 32 (.tmp 4) rfl ⟨g, 0, none⟩ (by rfl) (kcs k) _ (box_at hI.box) Try.underlying32 rfl (tkSize _), rfl, rfl, hI⟩
      | 5, ho =>
        obtain rfl := Option.some.inj ho
        refine ⟨.pointer (some ⟨b, o, none⟩), ?_, rfl, rfl, hI⟩
        refine runWithP (fun z => match z with  | .tmp 0 => .pointer (some ⟨b, o, none⟩) | .const c => c | _ => undef) (by kernel_rfl) ?_
        go_simp
      | 6, ho =>
        obtain rfl := Option.some.inj ho
        have y0 : y 5 = .pointer (some ⟨b, o, none⟩) := hd ⟨5, .data⟩ (by simp) rfl
        refine ⟨.pointer (some ⟨b, o, none⟩), ?_, rfl, rfl, hI⟩
        refine runWithP (fun z => match z with | .tmp 27 => y 5 | .const c => c | _ => undef) (by kernel_rfl) ?_
        rw [y0]
        go_simp
      | 7, ho =>
        obtain rfl := Option.some.inj ho
        have y0 : y 6 = .pointer (some ⟨b, o, none⟩) := hd ⟨6, .data⟩ (by simp) rfl
        refine ⟨.pointer (some ⟨b, o, none⟩), ?_, rfl, rfl, hI⟩
        refine runWithP (fun z => match z with | .tmp 28 => y 6 | .const c => c | _ => undef) (by kernel_rfl) ?_
        rw [y0]
        go_simp
      | 8, ho =>
        obtain rfl := Option.some.inj ho
        exact ⟨.agg (kcs k).toArray, run_loadP 32 (.tmp 4) rfl ⟨g, 0, none⟩ (by rfl) (kcs k) _ (box_at hI.box) Try.underlying32 rfl (tkSize _), rfl, rfl, hI⟩
      | 9, ho =>
        obtain rfl := Option.some.inj ho
        refine ⟨.int .i64 now, ?_, rfl, rfl, hI⟩
        refine runWithP (fun z => match z with  | .tmp 2 => .int .i64 now | .const c => c | _ => undef) (by kernel_rfl) ?_
        go_simp
      | 10, ho =>
        obtain rfl := Option.some.inj ho
        have y0 : y 8 = .agg (kcs k).toArray := hd ⟨8, .data⟩ (by simp) rfl
        have y1 : y 9 = .int .i64 now := hd ⟨9, .data⟩ (by simp) rfl
        refine ⟨.agg (wcs k now).toArray, ?_, rfl, rfl, hI⟩
        refine runWithP (fun z => match z with | .tmp 30 => y 8 | .tmp 31 => y 9 | .const c => c | _ => undef) (by kernel_rfl) ?_
        rw [y0, y1]
        kernel_rfl
      | 11, ho =>
        obtain rfl := Option.some.inj ho
        cases hsrc
      | 12, ho =>
        obtain rfl := Option.some.inj ho
        cases hsrc
      | j + 13, ho => cases ho
    · intro i' o hsrc ho M p y wx hd hi' hlat hI
      match i', hsrc, ho with
      | 0, hsrc, ho =>
        cases hsrc
      | 1, hsrc, ho =>
        cases hsrc
      | 2, hsrc, ho =>
        cases hsrc
      | 3, hsrc, ho =>
        cases hsrc
      | 4, hsrc, ho =>
        cases hsrc
      | 5, hsrc, ho =>
        cases hsrc
      | 6, hsrc, ho =>
        cases hsrc
      | 7, hsrc, ho =>
        cases hsrc
      | 8, hsrc, ho =>
        cases hsrc
      | 9, hsrc, ho =>
        cases hsrc
      | 10, hsrc, ho =>
        cases hsrc
      | 11, hsrc, ho =>
        obtain rfl := Option.some.inj ho
        have h12 : M 12 = false := hlat 12 rfl
        have y7 : y 7 = .pointer (some ⟨b, o, none⟩) := (hd ⟨7, .data⟩ (by simp) rfl).2
        have y10 : y 10 = .agg (wcs k now).toArray := (hd ⟨10, .data⟩ (by simp) rfl).2
        rw [hi', h12] at hI
        obtain ⟨hC, hM⟩ := hI.one rfl rfl
        refine slot_call #[.pointer (some ⟨b, o, none⟩), .agg (wcs k now).toArray] rfl Try.func46 (by kernel_rfl) (by kernel_rfl) (by simp [Act.eval, y7, y10]) ?_
        refine (hang_any hC k now).mono ?_
        rintro e w' ⟨p', rfl, hp', hC', hF'⟩
        refine ⟨_, rfl, _, p', rfl, rfl, ?_, ?_⟩
        · intro j q hne _ hF
          match j, hne, hF with
          | 0, _, hF => exact hF
          | 1, _, hF => exact hF
          | 2, _, hF => exact hF
          | 3, _, hF => exact hF
          | 4, _, hF => exact hF
          | 5, _, hF => exact hF
          | 6, _, hF => exact hF
          | 7, _, hF => exact hF
          | 8, _, hF => exact hF
          | 9, _, hF => exact hF
          | 10, _, hF => exact hF
          | 11, hne, _ => exact absurd rfl hne
          | 12, _, hF => exact hF
          | j + 13, _, _ => trivial
        · show AddI w b o R ty m k now g L T true (M 12) p' w'
          rw [h12]
          exact hI.hang hC hM NQ.out.1 NQ.out.2 SUB.out hC' hF' hp'
      | 12, hsrc, ho =>
        obtain rfl := Option.some.inj ho
        have y3 : y 3 = .map (some m) := (hd ⟨3, .data⟩ (by simp) rfl).2
        have y4 : y 4 = .agg (kcs k).toArray := (hd ⟨4, .data⟩ (by simp) rfl).2
        have h11 := hd ⟨11, .data⟩ (by simp) rfl
        have y11 : y 11 = .pointer (some ⟨p, 0, none⟩) := h11.2
        rw [h11.1, hi'] at hI
        obtain ⟨hC, hM, hp, hpm⟩ := hI.two rfl rfl
        obtain ⟨w', hrun, hM', hT⟩ := hM.put_run qu_keyP LM.out WF.out.1 p
        refine slot_turnP (w' := w') ?_ ⟨undef, p, rfl, trivial, fun j q _ _ h => h, ?_⟩
        · refine runWithP (fun z => match z with | .tmp 25 => y 3 | .tmp 26 => y 4 | .tmp 33 => y 11 | .const c => c | _ => undef) (by kernel_rfl) ?_
          rw [y3, y4, y11]
          rw [kv_eq] at hrun
          have hrun : (Instr.mapUpdate 27 (.map (some m)) (.agg (kcs k).toArray) (.pointer (some ⟨p, 0, none⟩))).run Try.prog wx = .ok () w' := hrun
          simp [execOp, hrun, Result.andThen]
        · show AddI w b o R ty m k now g L T (M 11) true p w'
          rw [h11.1]
          exact hI.put hC hM' hT hp NEW.out WF.out FEW.out H5.out hpm (show m ≠ g from fun e => NQ.out.2 (.inr (.inl (by rw [e])))) SUBM.out
      | j + 13, hsrc, ho => cases ho
    · rintro M p y wx hall hI
      obtain ⟨hQ, hp⟩ := hI.three (hall 12 (by decide)).1
      have HQ := Lib.hid hQ
      have HP := Lib.hid hp
      have HF := Lib.hid hI.frm
      clear hI hall hQ hp
      go_wp2_with fail
      go_ret
      exact ⟨p, some m, rfl, HP.out, HQ.out, HF.out, OWN.out⟩
end Go.Proofs.Ytkmhbbcppjckiaa.Qu
/- A region that draws its order, with guarded operations: as wp_region_par. Of no program. -/
namespace Go.Proofs.Ytkmhbbcppjckiaa
open Go
/-- What a guard asks. -/
def gdP (v : Value) (want : Bool) : Bool := (match v with | .bool b => some b | _ => none) == some want
section
variable {P : Program} {ops : Array Oper} {Q : Exit → Act → World → Prop}
theorem wp_region_parG {α : Type} {id : Nat} {a : Act} {w : World} (hm : P.follows .mixedOrders = true) (hback : backOkG ops = true) (mk : (Nat → Value) → Act) (F : α → Nat → Value → Prop) (I : (Nat → Bool) → α → World → Prop) (src : Nat → Bool) (later : Nat → Nat → Bool)
    (hlater : ∀ i j o, src i = true → later i j = true → ops[j]? = some o → ∃ e ∈ o.after, Region.binds .any e = true ∧ (e.on = i ∨ later i e.on = true))
    (hq : ∀ i o, src i = false → ops[i]? = some o → ∀ (L : Nat → Bool) (p : α) (x : Nat → Value) (w : World), (∀ e ∈ o.after, Region.binds .any e = true → F p e.on (x e.on)) → L i = false → I L p w →
      (Region.wanted o (yielded ops (mk x).tmps) = true ∧ ∃ v, (execOp (mk x).eval o).run P w = .ok (.value v) w ∧ (mk x).put o.dst v = mk (upd x i v) ∧ F p i v ∧ I (upd L i true) p w) ∨
      (Region.wanted o (yielded ops (mk x).tmps) = false ∧ ∃ v, (mk x).put o.dst undef = mk (upd x i v) ∧ F p i v ∧ I (upd L i true) p w))
    (hs : ∀ i o, src i = true → ops[i]? = some o → ∀ (L : Nat → Bool) (p : α) (x : Nat → Value) (w : World), (∀ e ∈ o.after, Region.binds .any e = true → L e.on = true ∧ F p e.on (x e.on)) → L i = false → (∀ j, later i j = true → L j = false) → I L p w →
      Region.wanted o (yielded ops (mk x).tmps) = true ∧ o.wp P (mk x) w (fun a' w' => ∃ v p', a' = mk (upd x i v) ∧ F p' i v ∧ (∀ j q, j ≠ i → later i j = false → F p j q → F p' j q) ∧ I (upd L i true) p' w') Q)
    (hend : ∀ L p x w, (∀ j, j < ops.size → L j = true ∧ F p j (x j)) → I L p w → Q .normal (mk x) w)
    (x0 : Nat → Value) (p0 : α) (h0 : a = mk x0) (hI : I (fun _ => false) p0 w.drew) : (Code.region id ops true).wp P Q a w := by
  refine wp_region_slotsJ hm hback mk (fun L x w => (∀ i j, src i = true → later i j = true → j < ops.size → L j = true → L i = true) ∧ (∀ j, L j = true → j < ops.size) ∧ ∃ p, I L p w ∧ ∀ j, L j = true → F p j (x j)) ?_ ?_ x0 h0 ⟨(fun i j _ _ _ h => by cases h), (fun j h => by cases h), p0, hI, fun j h => by cases h⟩
  · rintro i o ho L x w hd hi ⟨hc, hsz, p, hIp, hF⟩
    have hilt : i < ops.size := (Array.getElem?_eq_some_iff.1 ho).1
    have hcl : ∀ i' j, src i' = true → later i' j = true → j < ops.size → upd L i true j = true → upd L i true i' = true := by
      intro i' j hs' hl hj hL
      by_cases hii : i' = i
      · rw [hii, upd_self]
      · rw [upd_ne _ _ hii]
        by_cases hji : j = i
        · subst hji
          obtain ⟨e, he, hb, hor⟩ := hlater i' j o hs' hl ho
          have hLe := hd e he hb
          rcases hor with h | h
          · rw [← h]; exact hLe
          · exact hc i' e.on hs' h (Nat.lt_trans (backOkG_spec hback ho e he hb) hilt) hLe
        · rw [upd_ne _ _ hji] at hL
          exact hc i' j hs' hl hj hL
    have hsz' : ∀ j, upd L i true j = true → j < ops.size := by
      intro j hj
      by_cases hji : j = i
      · rw [hji]; exact hilt
      · rw [upd_ne _ _ hji] at hj
        exact hsz j hj
    cases hsi : src i with
    | false =>
      rcases hq i o hsi ho L p x w (fun e he hb => hF e.on (hd e he hb)) hi hIp with ⟨hw, v, hr, hp, hFv, hIv⟩ | ⟨hw, v, hp, hFv, hIv⟩
      · exact .inl ⟨hw, slot_run (v := v) (w' := w) hr ⟨v, hp, hcl, hsz', p, hIv, updJ hF hFv⟩⟩
      · exact .inr ⟨hw, v, hp, hcl, hsz', p, hIv, updJ hF hFv⟩
    | true =>
      obtain ⟨hw, hwp⟩ := hs i o hsi ho L p x w (fun e he hb => ⟨hd e he hb, hF e.on (hd e he hb)⟩) hi (fun j hl => by
        cases hj : L j with
        | false => rfl
        | true =>
          have := hc i j hsi hl (hsz j hj) hj
          rw [hi] at this
          cases this) hIp
      refine .inl ⟨hw, Oper.wp_mono (fun a' w' h' => ?_) hwp⟩
      obtain ⟨v, p', rfl, hFv, hkeep, hIv⟩ := h'
      refine ⟨v, rfl, hcl, hsz', p', hIv, fun j hj => ?_⟩
      by_cases hji : j = i
      · subst hji; rw [upd_self]; exact hFv
      · rw [upd_ne _ _ hji] at hj ⊢
        by_cases hlj : later i j = true
        · have := hc i j hsi hlj (hsz j hj) hj
          rw [hi] at this
          cases this
        · exact hkeep j _ hji (by simpa using hlj) (hF j hj)
  · rintro L x w hall ⟨hc, _, p, hIp, hF⟩
    exact hend L p x w (fun j hj => ⟨hall j hj, hF j (hall j hj)⟩) hIp
end
end Go.Proofs.Ytkmhbbcppjckiaa
/- The first one is taken. -/
namespace Go.Proofs.Ytkmhbbcppjckiaa.Qu
open Go Go.RowKit Go.Proofs.Ytkmhbbcppjckiaa
open Go.Proofs.Ytkmhbbcppjckiaa.Hp (K3 kv KLit wf3 i64wf kv_inj)
open Go.Proofs.Ytkmhbbcppjckiaa.Dk (Frm below_drewN Frm.of_below Frm.setCell Frm.refl Frm.drewN Frm.drew Frm.transT Frm.turned Frm.trans Frm.mono Frm.setRow)
set_option linter.unusedVariables false
set_option linter.unusedSimpArgs false
set_option maxRecDepth 100000
variable {w : World} {b o : Nat} {R : Array Value} {ty : TypeId} {mo : Option Nat} {L : List Lk}
/-- What stands while the last region is under way. -/
structure TakeI (w : World) (b o : Nat) (R : Array Value) (ty : TypeId) (mo : Option Nat) (L : List Lk) (k : K3) (g g4 : Nat) (T : Nat → Prop) (s5 s7 : Bool) (wx : World) : Prop where
  box : wx.heap[g4]? = some (.cells (kcs k).toArray 32 (0, 0))
  res : wx.heap[g]? = some (.cells (kcs (if s7 = true then k else k0)).toArray 32 (0, 0))
  one : s5 = false → Below w.heap.size w wx
  two : s5 = true → QAt wx b o R ty mo L ∧ Frm T w wx
section
variable {k : K3} {g g4 : Nat} {T : Nat → Prop} {wx w' : World}
theorem TakeI.call (h : TakeI w b o R ty mo L k g g4 T false false wx) (hQ : QAt w' b o R ty mo L) (hF : Frm T wx w') (hT : ∀ q, T q → q < w.heap.size) (hg : w.heap.size ≤ g) (hg4 : w.heap.size ≤ g4) : TakeI w b o R ty mo L k g g4 T true false w' :=
  ⟨(hF.block g4 (lt_of_rowW h.box) (fun e => by have := hT _ e; omega)).trans h.box, (hF.block g (lt_of_rowW h.res) (fun e => by have := hT _ e; omega)).trans h.res, (fun e => by cases e), fun _ => ⟨hQ, (Frm.of_below (h.one rfl) (Nat.le_refl _)).trans hF⟩⟩
theorem TakeI.store {s5 : Bool} (h : TakeI w b o R ty mo L k g g4 T s5 false wx) (hg : w.heap.size ≤ g) (hn : g4 ≠ g) (ho : ¬ own b mo L g) : TakeI w b o R ty mo L k g g4 T s5 true (wx.setRow g (kcs k).toArray) :=
  ⟨(setRow_other _ _ _ _ hn).trans h.box, setRow_heap _ g _ _ _ _ h.res, fun e => below_setRowK (h.one e) hg _, fun e => ⟨(h.two e).1.keep fun q hq => setRow_other _ _ _ _ (fun e => ho (e ▸ hq)), (h.two e).2.setRow (.inr hg) _⟩⟩
end
theorem qtake_any (h : QAt w b o R ty mo L) (V : Value) (k : K3) (s : Int) (ok : Bool) (hV : V = .tuple #[.agg (kcs k).toArray, .int .i64 s, .bool ok])
    (hF : ∀ w', Below w.heap.size w w' → Calls Try.prog 23 #[.pointer (some ⟨b, o, none⟩)] w' fun e w'' => e = .returned V ∧ Below w'.heap.size w' w'') (mo' : Option Nat) (L' : List Lk)
    (hR : ok = true → ∀ w', Below w.heap.size w w' → Calls Try.prog 17 #[.pointer (some ⟨b, o, none⟩), .agg (kcs k).toArray] w' fun e w'' => e = .returned (.bool true) ∧ QAt w'' b o R ty mo' L' ∧ Frm (own b mo L) w' w'') (hN : ok = false → mo' = mo ∧ L' = L) (hO : ∀ q, own b mo' L' q → own b mo L q) :
    Calls Try.prog 15 #[.pointer (some ⟨b, o, none⟩)] w fun e w' => e = .returned (.tuple #[.agg (kcs k).toArray, .bool ok]) ∧ QAt w' b o R ty mo' L' ∧ Frm (own b mo L) w w' := by
  obtain ⟨w2, hw2⟩ : ∃ w2, w2 = w.alloc (.cells (kcs k0).toArray 32) := ⟨_, rfl⟩
  obtain ⟨g, hg⟩ : ∃ g, g = w.heap.size := ⟨_, rfl⟩
  have b2 : Below w.heap.size w w2 := by rw [hw2]; exact (Below.refl _ _).alloc (Nat.le_refl _) _
  have n2 : w2.heap[g]? = some (.cells (kcs k0).toArray 32 (0, 0)) := by rw [hw2, hg]; exact heap_alloc_new _ _
  have FI := Lib.hid (hF w2 b2)
  rw [hV] at FI
  have SZ := Lib.hid (show (Try.prog.info? 32).map (·.size) = some (kcs k).toArray.size by kernel_rfl)
  have OK := Lib.hid (kcs_one k)
  have B2 := Lib.hid b2
  have N2 := Lib.hid n2
  have H := Lib.hid h
  have HW2 := Lib.hid hw2
  have HG := Lib.hid hg
  have HR := Lib.hid hR
  have HN := Lib.hid hN
  obtain ⟨T, hT⟩ : ∃ T, T = own b mo L := ⟨_, rfl⟩
  have HT := Lib.hid hT
  rw [← hT] at HR ⊢
  clear h b2 n2 hw2 hg hF hR hN hV hT
  go_enter Try.func15, Try.ntmps15
  go_upto_region 1 with fail
  rw [show (#[.int .i64 0, .int .i64 0, .int .i64 0] : Array Value) = (kcs k0).toArray from rfl, ← HW2.out, ← HG.out]
  go_upto_region 2 with (first
    | (with_reducible refine FI.out.mono ?_; rintro e w3 ⟨rfl, hb3⟩; have B3 := Lib.hid (B2.out.trans (hb3.mono B2.out.size)); have N3 := Lib.hid ((hb3.block g (lt_of_rowW N2.out)).trans N2.out); clear hb3)
    | (with_reducible show wpList _ _ _ _ _ _; refine wpList_store_newW rfl 32 (.tmp 4) (.tmp 10) rfl 32 _ (kcs k).toArray (by with_unfolding_all rfl) (by with_unfolding_all rfl) SZ.out rfl OK.out ?_))
  obtain ⟨w4, hw4⟩ : ∃ w4, w4 = w3.alloc (.cells (kcs k).toArray 32) := ⟨_, rfl⟩
  obtain ⟨g4, hg4⟩ : ∃ g, g = w3.heap.size := ⟨_, rfl⟩
  have b4 : Below w3.heap.size w3 w4 := by rw [hw4]; exact (Below.refl _ _).alloc (Nat.le_refl _) _
  have n4 : w4.heap[g4]? = some (.cells (kcs k).toArray 32 (0, 0)) := by rw [hw4, hg4]; exact heap_alloc_new _ _
  have r4 : w4.heap[g]? = some (.cells (kcs k0).toArray 32 (0, 0)) := (b4.block g (lt_of_rowW N3.out)).trans N3.out
  rw [← hw4, ← hg4]
  have I0 := Lib.hid (show TakeI w b o R ty mo' L' k g g4 T false false w4.drew from ⟨n4, r4, fun _ => below_drewN (B3.out.trans (b4.mono B3.out.size)) 1, (fun e => by cases e)⟩)
  have HT2 := Lib.hid (show ∀ q, T q → q < w.heap.size from fun q hq => by rw [HT.out] at hq; exact H.out.lt hq)
  have GL := Lib.hid (show w.heap.size ≤ g from Nat.le_of_eq HG.out.symm)
  have G4L := Lib.hid (show w.heap.size ≤ g4 from by rw [hg4]; exact B3.out.size)
  have G4N := Lib.hid (show g4 ≠ g from fun e => by have := lt_of_rowW N3.out; omega)
  have GO := Lib.hid (show ¬ own b mo' L' g from fun e => by have := H.out.lt (hO _ e); have h2 := GL.out; omega)
  clear hw4 hg4 b4 n4 r4 hO
  cases ok with
  | true =>
    refine wp_region_parG (α := Unit) (by kernel_rfl) (by kernel_rfl) (fun y => ⟨#[.pointer (some ⟨b, o, none⟩), undef, .pointer (some ⟨g, 0, none⟩), y 8, .pointer (some ⟨g4, 0, none⟩), .int .i64 s, .bool true, Value.tuple #[.agg (kcs k).toArray, .int .i64 s, .bool true], .pointer (some ⟨b, o, none⟩), Value.tuple #[.agg (kcs k).toArray, .int .i64 s, .bool true], .agg (kcs k).toArray, .int .i64 s, .bool true, y 0, y 1, y 2, y 3, y 4, y 5, y 6], []⟩) (fun p j q => match j with | 0 => q = .agg (kcs k).toArray | 1 => q = .bool true | 2 => q = .bool true | 3 => q = .pointer (some ⟨b, o, none⟩) | 4 => q = .agg (kcs k).toArray | 5 => q = .bool true | 6 => q = .bool true | 8 => q = .bool true | _ => True) (fun M p wx => TakeI w b o R ty mo' L' k g g4 T (M 5) (M 7) wx) (fun i => [5, 7].contains i) (fun i j => (i == 5 && decide (5 < j)) || (i == 7 && j == 8)) (parOk_spec (by kernel_rfl)) ?_ ?_ ?_ (fun k => match k with | 8 => .bool false | _ => undef) () rfl (by exact I0.out)
    · intro i' o hsrc ho M p y wx hd hi' hI
      match i', ho with
      | 0, ho =>
        obtain rfl := Option.some.inj ho
        refine .inl ⟨rfl, ?_⟩
        exact ⟨.agg (kcs k).toArray, run_loadP 32 (.tmp 4) rfl ⟨g4, 0, none⟩ (by rfl) (kcs k) _ (box_at hI.box) Try.underlying32 rfl (tkSize _), rfl, rfl, hI⟩
      | 1, ho =>
        obtain rfl := Option.some.inj ho
        refine .inl ⟨rfl, ?_⟩
        refine ⟨.bool true, ?_, rfl, rfl, hI⟩
        refine runWithP (fun z => match z with  | .tmp 6 => .bool true | .const c => c | _ => undef) (by kernel_rfl) ?_
        go_simp
      | 2, ho =>
        obtain rfl := Option.some.inj ho
        have y0 : y 1 = .bool true := hd ⟨1, .data⟩ (by simp) rfl
        refine .inl ⟨rfl, ?_⟩
        refine ⟨.bool true, ?_, rfl, rfl, hI⟩
        refine runWithP (fun z => match z with | .tmp 14 => y 1 | .const c => c | _ => undef) (by kernel_rfl) ?_
        rw [y0]
        go_simp
      | 3, ho =>
        obtain rfl := Option.some.inj ho
        have yg : y 2 = .bool true := hd ⟨2, .guard⟩ (by simp) rfl
        refine .inl ⟨Eq.trans (b := gdP (y 2) true) (by kernel_rfl) (by rw [yg]; rfl), ?_⟩
        refine ⟨.pointer (some ⟨b, o, none⟩), ?_, rfl, rfl, hI⟩
        refine runWithP (fun z => match z with  | .tmp 0 => .pointer (some ⟨b, o, none⟩) | .const c => c | _ => undef) (by kernel_rfl) ?_
        go_simp
      | 4, ho =>
        obtain rfl := Option.some.inj ho
        have yg : y 2 = .bool true := hd ⟨2, .guard⟩ (by simp) rfl
        refine .inl ⟨Eq.trans (b := gdP (y 2) true) (by kernel_rfl) (by rw [yg]; rfl), ?_⟩
        exact ⟨.agg (kcs k).toArray, run_loadP 32 (.tmp 4) rfl ⟨g4, 0, none⟩ (by rfl) (kcs k) _ (box_at hI.box) Try.underlying32 rfl (tkSize _), rfl, rfl, hI⟩
      | 5, ho =>
        obtain rfl := Option.some.inj ho
        cases hsrc
      | 6, ho =>
        obtain rfl := Option.some.inj ho
        have y0 : y 2 = .bool true := hd ⟨2, .data⟩ (by simp) rfl
        have y1 : y 5 = .bool true := hd ⟨5, .data⟩ (by simp) rfl
        refine .inl ⟨rfl, ?_⟩
        refine ⟨.bool true, ?_, rfl, rfl, hI⟩
        refine runWithP (fun z => match z with | .tmp 15 => y 2 | .tmp 18 => y 5 | .const c => c | _ => undef) (by kernel_rfl) ?_
        rw [y0, y1]
        kernel_rfl
      | 7, ho =>
        obtain rfl := Option.some.inj ho
        cases hsrc
      | 8, ho =>
        obtain rfl := Option.some.inj ho
        have y0 : y 6 = .bool true := hd ⟨6, .data⟩ (by simp) rfl
        refine .inl ⟨rfl, ?_⟩
        refine ⟨.bool true, ?_, rfl, rfl, hI⟩
        refine runWithP (fun z => match z with | .tmp 19 => y 6 | .const c => c | _ => undef) (by kernel_rfl) ?_
        rw [y0]
        go_simp
      | j + 9, ho => cases ho
    · intro i' o hsrc ho M p y wx hd hi' hlat hI
      match i', hsrc, ho with
      | 0, hsrc, ho =>
        cases hsrc
      | 1, hsrc, ho =>
        cases hsrc
      | 2, hsrc, ho =>
        cases hsrc
      | 3, hsrc, ho =>
        cases hsrc
      | 4, hsrc, ho =>
        cases hsrc
      | 5, hsrc, ho =>
        obtain rfl := Option.some.inj ho
        have yg : y 2 = .bool true := (hd ⟨2, .guard⟩ (by simp) rfl).2
        refine ⟨Eq.trans (b := gdP (y 2) true) (by kernel_rfl) (by rw [yg]; rfl), ?_⟩
        have h7 : M 7 = false := hlat 7 rfl
        have y3 : y 3 = .pointer (some ⟨b, o, none⟩) := (hd ⟨3, .data⟩ (by simp) rfl).2
        have y4 : y 4 = .agg (kcs k).toArray := (hd ⟨4, .data⟩ (by simp) rfl).2
        rw [hi', h7] at hI
        refine slot_call #[.pointer (some ⟨b, o, none⟩), .agg (kcs k).toArray] rfl Try.func17 (by kernel_rfl) (by kernel_rfl) (by simp [Act.eval, y3, y4]) ?_
        refine (HR.out rfl wx (hI.one rfl)).mono ?_
        rintro e w' ⟨rfl, hQ, hF⟩
        refine ⟨_, rfl, _, (), rfl, rfl, fun j q _ _ h => h, ?_⟩
        show TakeI w b o R ty mo' L' k g g4 T true (M 7) w'
        rw [h7]
        exact hI.call hQ hF HT2.out GL.out G4L.out
      | 6, hsrc, ho =>
        cases hsrc
      | 7, hsrc, ho =>
        obtain rfl := Option.some.inj ho
        refine ⟨rfl, ?_⟩
        have y0 : y 0 = .agg (kcs k).toArray := (hd ⟨0, .data⟩ (by simp) rfl).2
        have h5 := (hd ⟨5, .chain⟩ (by simp) rfl).1
        rw [h5, hi'] at hI
        refine slot_storeP 32 (.tmp 2) (.tmp 13) rfl g 32 (kcs k0).toArray (kcs k).toArray rfl y0 hI.res SZ.out rfl OK.out ?_
        refine ⟨undef, (), rfl, trivial, fun j q _ _ h => h, ?_⟩
        show TakeI w b o R ty mo' L' k g g4 T (M 5) true _
        rw [h5]
        exact hI.store GL.out G4N.out GO.out
      | 8, hsrc, ho =>
        cases hsrc
      | j + 9, hsrc, ho => cases ho
    · rintro M p y wx hall hI
      have y8 : y 8 = .bool true := (hall 8 (by decide)).2
      try dsimp only
      rw [y8]
      have h7 := (hall 7 (by decide)).1
      rw [(hall 5 (by decide)).1, h7] at hI
      have N4 := Lib.hid hI.res
      have Q4 := Lib.hid (show QAt wx b o R ty mo' L' ∧ Frm T w wx from hI.two rfl)
      clear hI hall y8
      go_wp2_with fail
      refine bodyPost_ret (results_row_tmp rfl _ _ g 32 (kcs k) (0, 0) _ _ rfl rfl N4.out Try.underlying32 rfl SZ.out) rfl ?_
      exact ⟨rfl, Q4.out⟩
  | false =>
    obtain ⟨rfl, rfl⟩ := HN.out rfl
    refine wp_region_parG (α := Unit) (by kernel_rfl) (by kernel_rfl) (fun y => ⟨#[.pointer (some ⟨b, o, none⟩), undef, .pointer (some ⟨g, 0, none⟩), y 8, .pointer (some ⟨g4, 0, none⟩), .int .i64 s, .bool false, Value.tuple #[.agg (kcs k).toArray, .int .i64 s, .bool false], .pointer (some ⟨b, o, none⟩), Value.tuple #[.agg (kcs k).toArray, .int .i64 s, .bool false], .agg (kcs k).toArray, .int .i64 s, .bool false, y 0, y 1, y 2, y 3, y 4, y 5, y 6], []⟩) (fun p j q => match j with | 0 => q = .agg (kcs k).toArray | 1 => q = .bool false | 2 => q = .bool false | 6 => q = .bool false | 8 => q = .bool false | _ => True) (fun M p wx => TakeI w b o R ty mo' L' k g g4 T (false) (M 7) wx) (fun i => [7].contains i) (fun i j => (i == 5 && decide (5 < j)) || (i == 7 && j == 8)) (parOk_spec (by kernel_rfl)) ?_ ?_ ?_ (fun k => match k with | 8 => .bool false | _ => undef) () rfl (by exact I0.out)
    · intro i' o hsrc ho M p y wx hd hi' hI
      match i', ho with
      | 0, ho =>
        obtain rfl := Option.some.inj ho
        refine .inl ⟨rfl, ?_⟩
        exact ⟨.agg (kcs k).toArray, run_loadP 32 (.tmp 4) rfl ⟨g4, 0, none⟩ (by rfl) (kcs k) _ (box_at hI.box) Try.underlying32 rfl (tkSize _), rfl, rfl, hI⟩
      | 1, ho =>
        obtain rfl := Option.some.inj ho
        refine .inl ⟨rfl, ?_⟩
        refine ⟨.bool false, ?_, rfl, rfl, hI⟩
        refine runWithP (fun z => match z with  | .tmp 6 => .bool false | .const c => c | _ => undef) (by kernel_rfl) ?_
        go_simp
      | 2, ho =>
        obtain rfl := Option.some.inj ho
        have y0 : y 1 = .bool false := hd ⟨1, .data⟩ (by simp) rfl
        refine .inl ⟨rfl, ?_⟩
        refine ⟨.bool false, ?_, rfl, rfl, hI⟩
        refine runWithP (fun z => match z with | .tmp 14 => y 1 | .const c => c | _ => undef) (by kernel_rfl) ?_
        rw [y0]
        go_simp
      | 3, ho =>
        obtain rfl := Option.some.inj ho
        have yg : y 2 = .bool false := hd ⟨2, .guard⟩ (by simp) rfl
        exact .inr ⟨Eq.trans (b := gdP (y 2) true) (by kernel_rfl) (by rw [yg]; rfl), undef, rfl, trivial, hI⟩
      | 4, ho =>
        obtain rfl := Option.some.inj ho
        have yg : y 2 = .bool false := hd ⟨2, .guard⟩ (by simp) rfl
        exact .inr ⟨Eq.trans (b := gdP (y 2) true) (by kernel_rfl) (by rw [yg]; rfl), undef, rfl, trivial, hI⟩
      | 5, ho =>
        obtain rfl := Option.some.inj ho
        have yg : y 2 = .bool false := hd ⟨2, .guard⟩ (by simp) rfl
        exact .inr ⟨Eq.trans (b := gdP (y 2) true) (by kernel_rfl) (by rw [yg]; rfl), undef, rfl, trivial, hI⟩
      | 6, ho =>
        obtain rfl := Option.some.inj ho
        have y0 : y 2 = .bool false := hd ⟨2, .data⟩ (by simp) rfl
        refine .inl ⟨rfl, ?_⟩
        refine ⟨.bool false, ?_, rfl, rfl, hI⟩
        refine runWithP (fun z => match z with | .tmp 15 => y 2 | .tmp 18 => y 5 | .const c => c | _ => undef) (by kernel_rfl) ?_
        rw [y0]
        kernel_rfl
      | 7, ho =>
        obtain rfl := Option.some.inj ho
        cases hsrc
      | 8, ho =>
        obtain rfl := Option.some.inj ho
        have y0 : y 6 = .bool false := hd ⟨6, .data⟩ (by simp) rfl
        refine .inl ⟨rfl, ?_⟩
        refine ⟨.bool false, ?_, rfl, rfl, hI⟩
        refine runWithP (fun z => match z with | .tmp 19 => y 6 | .const c => c | _ => undef) (by kernel_rfl) ?_
        rw [y0]
        go_simp
      | j + 9, ho => cases ho
    · intro i' o hsrc ho M p y wx hd hi' hlat hI
      obtain rfl : i' = 7 := by simpa using hsrc
      obtain rfl := Option.some.inj ho
      refine ⟨rfl, ?_⟩
      have y0 : y 0 = .agg (kcs k).toArray := (hd ⟨0, .data⟩ (by simp) rfl).2
      rw [ hi'] at hI
      refine slot_storeP 32 (.tmp 2) (.tmp 13) rfl g 32 (kcs k0).toArray (kcs k).toArray rfl y0 hI.res SZ.out rfl OK.out ?_
      refine ⟨undef, (), rfl, trivial, fun j q _ _ h => h, ?_⟩
      show TakeI w b o R ty mo' L' k g g4 T false true _
      exact hI.store GL.out G4N.out GO.out
    · rintro M p y wx hall hI
      have y8 : y 8 = .bool false := (hall 8 (by decide)).2
      try dsimp only
      rw [y8]
      have h7 := (hall 7 (by decide)).1
      rw [ h7] at hI
      have N4 := Lib.hid hI.res
      have Q4 := Lib.hid (show QAt wx b o R ty mo' L' ∧ Frm T w wx from ⟨H.out.below (hI.one rfl), Frm.of_below (hI.one rfl) (Nat.le_refl _)⟩)
      clear hI hall y8
      go_wp2_with fail
      refine bodyPost_ret (results_row_tmp rfl _ _ g 32 (kcs k) (0, 0) _ _ rfl rfl N4.out Try.underlying32 rfl SZ.out) rfl ?_
      exact ⟨rfl, Q4.out⟩
theorem qtake_nil (h : QAt w b o R ty mo []) : Calls Try.prog 15 #[.pointer (some ⟨b, o, none⟩)] w fun e w' => e = .returned (.tuple #[.agg (kcs k0).toArray, .bool false]) ∧ QAt w' b o R ty mo [] ∧ Frm (own b mo []) w w' :=
  qtake_any h _ k0 0 false rfl (fun w' hb => qfirst_nil (h.below hb).c) mo [] (fun e => by cases e) (fun _ => ⟨rfl, rfl⟩) (fun _ h => h)
theorem qtake_cons {x : Lk} (h : QAt w b o R ty mo (x :: L)) : Calls Try.prog 15 #[.pointer (some ⟨b, o, none⟩)] w fun e w' => e = .returned (.tuple #[.agg (kcs x.key).toArray, .bool true]) ∧ QAt w' b o R ty mo L ∧ Frm (own b mo (x :: L)) w w' :=
  qtake_any h _ x.key x.since true rfl (fun w' hb => qfirst_cons (h.below hb).c) mo L (fun _ w' hb => qremove_yes (A := []) (h.below hb)) (fun e => by cases e) (fun q hq => by
    rcases hq with e | e | ⟨y, hy, e⟩
    · exact .inl e
    · exact .inr (.inl e)
    · exact .inr (.inr ⟨y, by simp [hy], e⟩))
end Go.Proofs.Ytkmhbbcppjckiaa.Qu
/- All things of a chain, as a row. -/
namespace Go.Proofs.Ytkmhbbcppjckiaa.Qu
open Go Go.RowKit Go.Proofs.Ytkmhbbcppjckiaa
open Go.Proofs.Ytkmhbbcppjckiaa.Hp (K3 kv KLit wf3 i64wf kv_inj)
open Go.Proofs.Ytkmhbbcppjckiaa.Dk (Frm below_drewN Frm.of_below Frm.setCell Frm.refl Frm.drewN Frm.drew Frm.transT Frm.turned Frm.trans Frm.mono Frm.setRow)
set_option linter.unusedVariables false
set_option linter.unusedSimpArgs false
set_option maxRecDepth 100000
variable {w : World} {b o : Nat} {R : Array Value} {ty : TypeId} {mo : Option Nat} {L : List Lk}
def wss (L : List Lk) : List Value := (L.map fun x => wcs x.key x.since).flatten
theorem wss_app (A B : List Lk) : wss (A ++ B) = wss A ++ wss B := by simp [wss]
def lenOf (v : Value) : Nat := match v with
  | .slice _ n _ => n
  | _ => 0
theorem wcs_mem (k : K3) (s : Int) : ∀ u ∈ wcs k s, u.oneCell' = true := by
  intro u hu
  simp only [wcs, List.mem_cons, List.not_mem_nil, or_false] at hu
  rcases hu with rfl | rfl | rfl | rfl <;> rfl
theorem infoWt : (Try.prog.info? 112).map (fun i => (i.zero, i.size, i.bytes)) = some (some (.agg (wcs k0 0).toArray), 4, 32) := by kernel_rfl
def thRel (w : World) (L : List Lk) (lv pv : Value) (wr : World) : Prop :=
  ∃ (A B : List Lk) (ao : Option Addr) (c : Nat), L = A ++ B ∧ lv = .slice ao A.length c ∧ pv = ptr (hd B none) ∧ wr.ownsRow w.heap.size 112 4 (.slice ao A.length c) A.length (wss A) ∧ Below w.heap.size w wr
theorem things_any (h : CAt w b o R ty mo L) (hl : L.length ≤ 100000) : Calls Try.prog 48 #[.pointer (some ⟨b, o, none⟩)] w fun e w' =>
    ∃ ao c, e = .returned (.slice ao L.length c) ∧ w'.ownsRow w.heap.size 112 4 (.slice ao L.length c) L.length (wss L) ∧ Below w.heap.size w w' := by
  obtain ⟨c0, c1, c2, f0, f1, f2⟩ := h.row.cells
  have H := Lib.hid h
  clear h c1 c2 f0 f1 f2
  go_enter Try.func48, Try.ntmps48
  go_wp2_with fail
  go_loopw [3, 4] (fun lv pv wr => thRel w L lv pv wr) (fun lv _ _ => L.length - lenOf lv)
  case atStart => exact ⟨[], L, none, 0, rfl, rfl, rfl, World.ownsRow_nil _ _ _ _, Below.refl _ _⟩
  case round =>
    obtain ⟨wq, rfl⟩ : ∃ wq : World, wq = wr := ⟨_, rfl⟩
    obtain ⟨A, B, ao, c, hL, rfl, rfl, hown, hb⟩ := hrel
    cases B with
    | nil =>
      rw [List.append_nil] at hL
      have R0 := Lib.hid (show ∃ ao' c', (Value.slice ao A.length c) = .slice ao' L.length c' ∧ wq.ownsRow w.heap.size 112 4 (.slice ao' L.length c') L.length (wss L) ∧ Below w.heap.size w wq from ⟨ao, c, by rw [hL], by rw [hL]; exact hown, hb⟩)
      clear hL hown hb
      rw [show ptr (hd ([] : List Lk) none) = .pointer none from rfl]
      go_wp2_with fail
      go_ret
      obtain ⟨ao', c', e1, e2, e3⟩ := R0.out
      exact ⟨ao', c', by rw [e1]; rfl, e2, e3⟩
    | cons x B =>
      have hx : ∃ p, LkAt w x p (hd B none) := by
        have hc := H.out.chain
        rw [hL, chain_app] at hc
        exact ⟨_, hc.2.1⟩
      obtain ⟨p, hx⟩ := hx
      have hxq : wq.heap[x.ad]? = some (.cells (x.cells p (hd B none)) 118 (0, 0)) := (hb.block x.ad (lt_of_rowW hx)).trans hx
      obtain ⟨a, ha⟩ : ∃ a, a = x.ad := ⟨_, rfl⟩
      have KX : ∀ j v, (wcs x.key x.since)[j]? = some v → wq.cell? ((⟨a, 0, none⟩ : Addr).add j) = some v := by
        intro j v hj
        rw [Addr.add_mid, Nat.zero_add, ha, cell_of_row wq x.ad j _ _ _ hxq]
        match j, hj with
        | 0, hj => exact hj
        | 1, hj => exact hj
        | 2, hj => exact hj
        | 3, hj => exact hj
        | k + 4, hj => simp [wcs] at hj
      have hpv : ptr (hd (x :: B) none) = .pointer (some ⟨a, 0, none⟩) := by rw [ha]; rfl
      rw [hpv]
      obtain ⟨n, hn⟩ : ∃ n, n = A.length := ⟨_, rfl⟩
      rw [← hn] at hown ⊢
      have hw4 : (wcs x.key x.since).length = 4 := rfl
      have hlen : n + 1 ≤ L.length := by rw [hL, hn]; simp
      have HL := Lib.hid hL
      have HN := Lib.hid hn
      have HO := Lib.hid hown
      have HB := Lib.hid hb
      have HXQ := Lib.hid hxq
      have HA := Lib.hid ha
      have HX := Lib.hid hx
      clear hL hn hown hb hxq ha hpv hx
      go_upto_region 4 with (first
        | (with_reducible show wpList _ _ _ _ _ _; refine wpList_load_allW rfl 112 (.tmp 18) rfl ⟨a, 0, none⟩ rfl (wcs x.key x.since) _ KX Try.underlying112 rfl (wtSize _ _) ?_)
        | (at_builtin; refine wpList_apK rfl (.tmp 15) (.tmp 20) 115 112 4 32 _ rfl Try.underlying115 infoWt (by decide) rfl w.heap.size _ _ _ _ rfl HO.out HB.out.size (wcs x.key x.since) rfl (wcs_mem _ _) rfl (by omega) ?_))
      intro ao' c' w' hown' hb' hk'
      have k5 : w'.cell? ⟨a, 5, none⟩ = some (ptr (hd B none)) := by
        rw [HA.out, cell_of_row w' x.ad 5 _ _ _ ((hk' x.ad (lt_of_rowW HXQ.out) (own_neK HO.out HXQ.out (by decide))).trans HXQ.out)]
        rfl
      have RL := Lib.hid (show thRel w L (.slice ao' (n + 1) c') (ptr (hd B none)) w' from ⟨A ++ [x], B, ao', c', by rw [HL.out]; simp, by rw [HN.out]; simp, rfl, by
        rw [wss_app]
        have e : (A ++ [x]).length = n + 1 := by rw [HN.out]; simp
        rw [e]
        simpa [wss] using hown', HB.out.trans (hb'.mono (Nat.le_refl _))⟩)
      have ML := Lib.hid (show L.length - (n + 1) < L.length - n by omega)
      clear hown' hb' hk' KX
      go_wp2_with fail
      trace_state
      exact ⟨RL.out, ML.out⟩
end Go.Proofs.Ytkmhbbcppjckiaa.Qu
