/- The laws' head: works answers true. -/
import Derived.Test.YthcliaaoadfegaaDy
import Derived.Test.YthcliaaoadfegaaDn
import Derived.Test.YthcliaaoadfegaaDl
import Derived.Test.YthcliaaoadfegaaDu
import Derived.Test.YthcliaaoadfegaaDe
namespace Go.Proofs.Ythcliaaoadfegaa.Dk
open Go Go.RowKit
set_option linter.unusedVariables false
set_option linter.unusedSimpArgs false

/-- Bytes of one's own are written. -/
theorem write_own {w : World} {d g m n : Nat} {x : DS} (h : DiskAt Try.prog w d g m n x) (hn : n < maxLen) (i : Int) (hw : wfi i) {v : Value} {l : List UInt8} {t : TypeId} (hv : ∃ k, v = .slice (some ⟨k, 0, none⟩) 128 128 ∧ w.heap[k]? = some (.cells (bvs l).toArray t (0, 0)) ∧ l.length = 128 ∧ ¬ own3 d g m k) :
    Calls Try.prog 15 #[.pointer (some ⟨d, 0, none⟩), .int .i64 i, v] w fun e w' => e = .returned (.int .i64 (x.wcode i 128)) ∧ DiskAt Try.prog w' d g m (n + 1) (x.write i l) ∧ Frm (own3 d g m) w w' := by
  obtain ⟨k, rfl, hb, hl, hk⟩ := hv
  have := write_any h hn i hw (some ⟨k, 0, none⟩) l 128 (by
    intro k' o e
    cases e
    intro j u hu
    rw [cell_of_row w k (0 + j) _ _ _ hb, Nat.zero_add]
    simpa using hu) (fun _ => ⟨k, 0, rfl, hk⟩)
  rw [hl] at this
  exact this
theorem ks_nil {w : World} {d g m : Nat} : ∀ j, j < ([] : List Int).length → ∃ a, (none : Option Addr) = some a ∧ w.cell? (a.add j) = some (.int .i64 (([] : List Int).getD j 0)) ∧ ¬ own3 d g m (a.add j).block := fun j hj => by simp at hj
/-- A disk's life in works. -/
def dA (b : List UInt8) : DS := ⟨[zeros, zeros], upd (fun _ => none) 1 b, -1, false, 1, 0, 2, []⟩
def dB (b : List UInt8) : DS := ⟨[zeros, b], fun _ => none, -1, false, 1, 1, 2, []⟩
def dC (b c : List UInt8) : DS := ⟨[zeros, b], upd (fun _ => none) 1 c, -1, false, 2, 1, 2, []⟩
def dD (b c : List UInt8) : DS := ⟨[zeros, c.take 3 ++ b.drop 3], fun _ => none, -1, true, 2, 1, 2, []⟩
def dE (b c : List UInt8) : DS := ⟨[zeros, c.take 3 ++ b.drop 3], fun _ => none, -1, false, 2, 1, 2, []⟩
theorem life_a {b : List UInt8} (hb : b.length = 128) : (DS.new 2).write 1 b = dA b ∧ (DS.new 2).wcode 1 128 = 0 := by
  constructor
  · simp [DS.write, DS.new, DS.has, DS.spend, dA, hb, wrap64]
  · simp [DS.wcode, DS.new, DS.has]
theorem life_b {b : List UInt8} : (dA b).flush = dB b ∧ (dA b).fcode = 0 := by
  constructor
  · simp [DS.flush, DS.spend, dA, dB, wrap64, laid, upd]
  · simp [DS.fcode, dA]
theorem life_c {b c : List UInt8} (hc : c.length = 128) : (dB b).write 1 c = dC b c ∧ (dB b).wcode 1 128 = 0 := by
  constructor
  · simp [DS.write, dB, DS.has, DS.spend, dC, hc, wrap64]
  · simp [DS.wcode, dB, DS.has]
theorem life_d {b c : List UInt8} : (dC b c).crash [] 1 3 = dD b c := by
  have e : (min (max (3 : Int) 0) 128).toNat = 3 := by decide
  simp [DS.crash, DS.settle, dC, dD, upd, e]
theorem life_e {b c : List UInt8} : (dD b c).up = dE b c := by
  simp [DS.up, dD, dE]
theorem life_f {b c : List UInt8} : (dE b c).read 1 = (c.take 3 ++ b.drop 3, 0) := by
  simp [DS.read, DS.sure, DS.has, dE]
theorem life_in {x : DS} {b : List UInt8} (hS : x.S = upd (fun _ => none) 1 b) (hs : x.s.length = 2) : ∀ i l, wfi i → x.S i = some l → x.has i = true := by
  intro i l _ h
  rw [hS] at h
  simp [upd] at h
  simp [DS.has, hs, h.1]
theorem sec_at {w0 w : World} {v : Value} {l : List UInt8} (h : Sec w0 w v l) : ∃ g, v = .slice (some ⟨g, 0, none⟩) 128 128 ∧ w0.heap.size ≤ g ∧ w.heap[g]? = some (.cells (bvs l).toArray 75 (0, 0)) := by
  obtain ⟨g, e, h1, h2, _⟩ := h
  exact ⟨g, e, h1, h2⟩
set_option maxRecDepth 100000 in
set_option maxHeartbeats 2000000 in
theorem works_any (w : World) : Calls Try.prog 5 #[] w fun e w' => e = .returned (.bool true) ∧ Below w.heap.size w w' := by
  obtain ⟨b, hb⟩ : ∃ b, b = List.replicate 128 (7 : UInt8) := ⟨_, rfl⟩
  obtain ⟨c, hc⟩ : ∃ c, c = List.replicate 128 (9 : UInt8) := ⟨_, rfl⟩
  have hbl : b.length = 128 := by rw [hb]; simp
  have hcl : c.length = 128 := by rw [hc]; simp
  have B7 := Lib.hid hb
  have C9 := Lib.hid hc
  have BL := Lib.hid hbl
  have CL := Lib.hid hcl
  have F7 := Lib.hid (show ∀ w, Calls Try.prog 16 #[.int .u8 7] w fun e w' => ∃ v, e = .returned v ∧ Own w w' v (List.replicate 128 7) ∧ Below w.heap.size w w' from fun w => full_any 7 w)
  have F9 := Lib.hid (show ∀ w, Calls Try.prog 16 #[.int .u8 9] w fun e w' => ∃ v, e = .returned v ∧ Own w w' v (List.replicate 128 9) ∧ Below w.heap.size w w' from fun w => full_any 9 w)
  rw [← hb] at F7
  rw [← hc] at F9
  have N := Lib.hid (new_any 2 (by decide) (by decide) w)
  clear hb hc hbl hcl
  go_enter Try.func5, Try.ntmps5
  go_wp2_with fail
  refine N.out.mono ?_
  rintro e w1 ⟨d, g, m, rfl, hD1, hb1, hd, hg, hm⟩
  have S1 := Lib.hid (sectors_any hD1)
  have HD1 := Lib.hid hD1
  have HB1 := Lib.hid hb1
  clear hD1 hb1
  have z1 := Lib.hid (show d < w1.heap.size ∧ g < w1.heap.size ∧ m < w1.heap.size from ⟨HD1.out.dlt, HD1.out.glt, HD1.out.mlt⟩)
  have FRE := Lib.hid (show ∀ a : Nat, w1.heap.size ≤ a → ¬ own3 d g m a from fun a h => by rintro (h' | h' | h') <;> (have := z1.out; omega))
  go_wp2_with fail
  refine S1.out.mono ?_
  rintro e w' ⟨rfl, rfl⟩
  have e2 : (((DS.new 2).s.length : Nat) : Int) = 2 := by simp [DS.new]
  rw [e2]
  clear S1 e2
  go_wp2_with fail
  refine (F7.out _).mono ?_
  rintro e w2 ⟨v, rfl, ⟨k, rfl, hk, hrow, hlen⟩, hb2⟩
  have hD2 := HD1.out.below hb2 (Nat.le_refl _)
  have W1 := Lib.hid (write_own hD2 (by unfold maxLen; decide) 1 (by unfold wfi; decide) ⟨k, rfl, hrow, hlen, FRE.out _ hk⟩)
  rw [(life_a BL.out).1, (life_a BL.out).2] at W1
  have HB2 := Lib.hid (HB1.out.trans (hb2.mono HB1.out.size))
  clear hD2 hb2 hrow hlen
  go_wp2_with fail
  refine W1.out.mono ?_
  rintro e w3 ⟨rfl, hD3, hF3⟩
  have FL := Lib.hid (flush_any hD3 (life_in rfl rfl))
  rw [life_b.1, life_b.2] at FL
  have OWN := Lib.hid (show ∀ i, own3 d g m i → w.heap.size ≤ i from fun i h => by rcases h with h | h | h <;> omega)
  have HB3 := Lib.hid (HB2.out.trans (hF3.below (fun i _ h => OWN.out i h) HB2.out.size))
  clear hD3 hF3 W1
  go_wp2_with fail
  refine FL.out.mono ?_
  rintro e w4 ⟨rfl, hD4, hF4⟩
  have HD4 := Lib.hid hD4
  have HB4 := Lib.hid (HB3.out.trans (hF4.below (fun i _ h => OWN.out i h) HB3.out.size))
  clear FL hD4 hF4
  go_wp2_with fail
  refine (F9.out _).mono ?_
  rintro e w5 ⟨v, rfl, ⟨k2, rfl, hk2, hrow, hlen⟩, hb5⟩
  have hD5 := HD4.out.below hb5 (Nat.le_refl _)
  have W2 := Lib.hid (write_own hD5 (by unfold maxLen; decide) 1 (by unfold wfi; decide) ⟨k2, rfl, hrow, hlen, (by rintro (h' | h' | h') <;> (have := HD4.out.dlt; have := HD4.out.glt; have := HD4.out.mlt; omega))⟩)
  rw [(life_c CL.out).1, (life_c CL.out).2] at W2
  have HB5 := Lib.hid (HB4.out.trans (hb5.mono HB4.out.size))
  clear hD5 hb5 hrow hlen
  go_wp2_with fail
  refine W2.out.mono ?_
  rintro e w6 ⟨rfl, hD6, hF6⟩
  have CR := Lib.hid (crash_any hD6 (life_in rfl rfl) none 0 [] (by decide) ks_nil (by simp) 1 3 (by unfold wfi; decide) (by unfold wfi; decide))
  rw [life_d] at CR
  have HB6 := Lib.hid (HB5.out.trans (hF6.below (fun i _ h => OWN.out i h) HB5.out.size))
  clear hD6 hF6 W2
  go_wp2_with fail
  refine CR.out.mono ?_
  rintro e w7 ⟨rfl, hD7, hF7⟩
  have DN := Lib.hid (down_any hD7)
  have UP := Lib.hid (up_any hD7)
  rw [life_e] at UP
  have HB7 := Lib.hid (HB6.out.trans (hF7.below (fun i _ h => OWN.out i h) HB6.out.size))
  clear hD7 hF7 CR
  go_wp2_with fail
  refine DN.out.mono ?_
  rintro e w' ⟨rfl, rfl⟩
  rw [show (dD b c).down = true from rfl]
  clear DN
  go_wp2_with fail
  refine UP.out.mono ?_
  rintro e w8 ⟨rfl, hD8, hF8⟩
  have RD := Lib.hid (read_any hD8 1 (by unfold wfi; decide))
  rw [life_f] at RD
  have HD8 := Lib.hid hD8
  have HB8 := Lib.hid (HB7.out.trans (hF8.below (fun i _ h => OWN.out i h) HB7.out.size))
  clear hD8 hF8 UP
  go_wp2_with fail
  refine RD.out.mono ?_
  rintro e w9 ⟨v, rfl, ha, hb9⟩
  have hD9 := HD8.out.below hb9 (Nat.le_refl _)
  have HB9 := Lib.hid (HB8.out.trans (hb9.mono HB8.out.size))
  unfold Ans at ha
  rw [if_pos rfl] at ha
  obtain ⟨k9, rfl, hk9, hr9, _⟩ := ha
  dsimp only at hr9
  have c2 : w9.cell? ⟨k9, 2, none⟩ = some (.int .u8 9) := by
    rw [cell_of_row w9 k9 2 _ _ _ hr9, C9.out, B7.out]
    rfl
  have c3 : w9.cell? ⟨k9, 3, none⟩ = some (.int .u8 7) := by
    rw [cell_of_row w9 k9 3 _ _ _ hr9, C9.out, B7.out]
    rfl
  have WR := Lib.hid (writes_any hD9)
  have FS := Lib.hid (flushes_any hD9)
  clear hD9 hb9 hr9 RD
  go_wp2_with fail
  refine WR.out.mono ?_
  rintro e w' ⟨rfl, rfl⟩
  rw [show (dE b c).wr = 2 from rfl]
  clear WR
  go_wp2_with fail
  refine FS.out.mono ?_
  rintro e w' ⟨rfl, rfl⟩
  rw [show (dE b c).fl = 1 from rfl]
  clear FS
  go_wp2_with fail
  go_ret
  exact ⟨rfl, HB9.out⟩
end Go.Proofs.Ythcliaaoadfegaa.Dk
