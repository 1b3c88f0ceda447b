/- What a disk's calls Up, settle and Crash leave. -/
import Derived.Test.YtdjpeebekpjiiaaJ0B
import Derived.Test.YtdjpeebekpjiiaaJ0C
import Derived.Laws.CopyOwn
import Derived.OwnWalk
import Derived.Deep.QuietTactic
import Derived.BigQuiet
namespace Go.Proofs.Ytdjpeebekpjiiaa.Dk
open Go Go.RowKit
set_option linter.unusedVariables false
set_option linter.unusedSimpArgs false

variable {w : World} {d g m n : Nat} {x : DS}
theorem up_any (h : DiskAt Try.prog w d g m n x) : Calls Try.prog 22 #[.pointer (some ⟨d, 0, none⟩)] w fun e w' => e = .returned (.tuple #[]) ∧ DiskAt Try.prog w' d g m n x.up ∧ Frm (own3 d g m) w w' := by
  have c5 := h.c5
  unfold DS.up
  by_cases hd : x.down = true
  · rw [if_pos hd]
    rw [hd] at c5
    have c3 := h.c3
    have MP := h.map
    have H := Lib.hid h
    clear h
    go_enter Try.func22, Try.ntmps22
    go_wp2_with (refine wpList_clear _ rfl _ 59 rfl Try.underlying59 rfl MP ?_)
    intro w1 HM ht
    have hD1 := (H.out.setMap ht HM).mono (Nat.zero_le n)
    have c5' := hD1.c5
    have f5' := hD1.free 5
    dsimp only at c5'
    have HD := Lib.hid (hD1.setDown false)
    have HF := Lib.hid (((Frm.refl (own3 d g m) w).turned ht (.inl (.inr (.inr rfl)))).setCell (p := ⟨d, 5, none⟩) (.inl (.inl rfl)) (.bool false))
    clear MP H hD1 HM ht c3 c5
    go_wp2_with fail
    go_end0
    exact ⟨rfl, HD.out, HF.out⟩
  · rw [if_neg hd]
    have hd' : x.down = false := by simpa using hd
    rw [hd'] at c5
    have H := Lib.hid h
    clear h
    go_enter Try.func22, Try.ntmps22
    go_wp2_with fail
    go_end0
    exact ⟨rfl, H.out, Frm.refl _ _⟩
set_option maxRecDepth 100000 in
set_option maxHeartbeats 2000000 in
theorem settle_any (h : DiskAt Try.prog w d g m n x) (hin : ∀ i l, wfi i → x.S i = some l → x.has i = true) (i at_ : Int) (hw : wfi i) (hwa : wfi at_) :
    Calls Try.prog 45 #[.pointer (some ⟨d, 0, none⟩), .int .i64 i, .int .i64 at_] w fun e w' => e = .returned (.tuple #[]) ∧ DiskAt Try.prog w' d g m n (x.settle i at_) ∧ Frm (own3 d g m) w w' := by
  have c3 := h.c3
  have MP := h.map
  unfold DS.settle
  cases hS : x.S i with
  | none =>
    have H := Lib.hid h
    clear h hin
    go_enter Try.func45, Try.ntmps45
    go_wp2_with (first | (at_lookup; refine wpList_look_none w rfl _ _ 59 rfl Try.underlying3 Try.underlying59 (Try.zeroSec w) rfl MP rfl hw hS ?_) | (refine wpList_store_new rfl 112 (.tmp 6) (.tmp 15) rfl 112 Try.zeroCells112 (bvs zeros).toArray rfl rfl (Try.secSize zeros_length) (Try.zeroSize zeros_length) (all_bvs zeros) ?_))
    go_end0
    exact ⟨rfl, H.out.alloc _, (Frm.refl _ _).alloc _⟩
  | some l =>
    dsimp only
    have hl := MP.len Try.underlying3 Try.underlying59 (Try.zeroSec w) hw hS
    have hz := hin i l hw hS
    simp [DS.has] at hz
    obtain ⟨k, rfl⟩ : ∃ k : Nat, i = (k : Int) := ⟨i.toNat, by omega⟩
    have hk : k < x.s.length := by omega
    have hki : (k : Int) < (x.s.length : Int) := by omega
    obtain ⟨q, hq, hq128, hqq⟩ : ∃ q : Nat, (q : Int) = (if 128 < (if at_ < 0 then 0 else at_) then 128 else if at_ < 0 then 0 else at_) ∧ q ≤ 128 ∧ (min (max at_ 0) 128).toNat = q := by
      refine ⟨(min (max at_ 0) 128).toNat, ?_, by omega, rfl⟩
      split <;> split <;> omega
    have hqi : (q : Int) ≤ 128 := by omega
    have HQ := Lib.hid hq
    rw [hqq]
    have ek : ((k : Int)).toNat = k := by omega
    rw [ek]
    clear hq hqq hwa ek
    generalize hY : x.s.set k (l.take q ++ (x.s.getD k []).drop q) = Y
    have HY := Lib.hid hY
    clear hY
    obtain ⟨w1, hw1⟩ : ∃ w1, w1 = w.alloc (.cells (bvs l).toArray 112) := ⟨_, rfl⟩
    have hD1 := h.alloc (.cells (bvs l).toArray 112)
    have hb1 := heap_alloc_new w (.cells (bvs l).toArray 112)
    have hF1 := (Frm.refl (own3 d g m) w).alloc (.cells (bvs l).toArray 112)
    rw [← hw1] at hD1 hb1 hF1
    have c2 := hD1.c2
    have HW := Lib.hid hw1
    have H1 := Lib.hid hD1
    have F1 := Lib.hid hF1
    have B1 := Lib.hid hb1
    clear h hin hw1 hD1 hb1 hF1
    go_enter Try.func45, Try.ntmps45
    go_wp2_with (first | (at_lookup; refine wpList_look_some w rfl _ _ 59 rfl Try.underlying3 Try.underlying59 (Try.zeroSec w) rfl MP rfl hw hS ?_) | (refine wpList_store_new rfl 112 (.tmp 6) (.tmp 15) rfl 112 Try.zeroCells112 (bvs l).toArray rfl rfl (Try.secSize hl) (Try.zeroSize hl) (all_bvs l) ?_; rw [← HW.out]))
    refine wp_region_quiet_tail 11 (by kernel_rfl) (by kernel_rfl) ?_
    simp only [List.take_succ_cons, List.take_zero, List.drop_succ_cons, List.drop_zero]
    (repeat (go_big_quiet_step (fail)))
    rw [← HQ.out]
    (repeat (go_big_quiet_step (fail)))
    refine wpQuiet_nil ?_
    intro _ hw'
    obtain ⟨nq, hw''⟩ := hw'
    subst hw''
    have hat : (l.take q).length = q := by simp; omega
    have hcs : (bvs (l.take q)).length = q := by rw [bvs_length, hat]
    have hD2 := (H1.out.drewN nq).setOver (i := k) (a := l.take q) hk (by omega)
    rw [hat, HY.out] at hD2
    have hF2 := (F1.out.drewN nq).setRow (.inl (.inr (.inl rfl))) (over (flat x.s ++ x.tail) (k * 128) (bvs (l.take q))).toArray
    refine wpList_copy_own rfl (.tmp 24) (.tmp 28) 37 37 rfl 5 Try.underlying37 (by kernel_rfl) g (k * 128) 128 128 ⟨w.heap.size, 0, none⟩ q 128 rfl rfl (flat x.s ++ x.tail).toArray 112 H1.out.row (bvs (l.take q)) (by rw [hcs]; simp [Nat.min_eq_left hq128]) ?_ (by rw [hcs, List.size_toArray, List.length_append, flat_length H1.out.len]; omega) (bvs_one _) ?_
    · intro j v hv
      rw [Addr.add_mid]
      show w1.cell? _ = _
      rw [cell_of_row w1 w.heap.size (0 + j) _ _ _ B1.out, Nat.zero_add]
      simp only [bvs, List.map_take, List.getElem?_take] at hv
      split at hv
      · simpa [bvs] using hv
      · cases hv
    · show wpList _ _ _ _ _ ((w1.drewN nq).setRow g (over (flat x.s ++ x.tail) (k * 128) (bvs (l.take q))).toArray)
      generalize ((w1.drewN nq).setRow g _) = w9 at *
      have HD2 := Lib.hid hD2
      have HF2 := Lib.hid hF2
      clear hD2 hF2 H1 F1 B1 HW MP c2 c3
      simp only [Act.put, List.setIfInBounds_toArray, List.set_cons_zero, List.set_cons_succ, List.getElem_toArray, List.getElem_cons_zero, List.getElem_cons_succ]
      go_wp2_with fail
      all_goals (go_end0; exact ⟨rfl, HD2.out, HF2.out⟩)
/-- Numbers in a slice. -/
def Ks (w : World) (v : Value) (L : List Int) : Prop := ∃ ao c, v = .slice ao L.length c ∧ (∀ j, j < L.length → ∃ a, ao = some a ∧ w.cell? (a.add j) = some (.int .i64 (L.getD j 0))) ∧ (∀ z ∈ L, wfi z)
theorem settle_same (x : DS) (i a : Int) : (x.settle i a).S = x.S ∧ (x.settle i a).s.length = x.s.length := by
  unfold DS.settle
  split <;> simp
theorem settles_same (K : List Int) : ∀ x : DS, (K.foldl (fun y i => y.settle i 128) x).S = x.S ∧ (K.foldl (fun y i => y.settle i 128) x).s.length = x.s.length := by
  induction K with
  | nil => exact fun x => ⟨rfl, rfl⟩
  | cons k K ih =>
    intro x
    have h1 := ih (x.settle k 128)
    have h2 := settle_same x k 128
    exact ⟨h1.1.trans h2.1, h1.2.trans h2.2⟩
theorem has_same {x y : DS} (h : y.s.length = x.s.length) (i : Int) : y.has i = x.has i := by unfold DS.has; rw [h]
/-- What the loop of Crash keeps. -/
def CrRel (w : World) (d g m n : Nat) (x : DS) (L : List Int) (u : Value) (wr : World) : Prop :=
  ∃ j : Nat, u = .int .i64 (j : Int) ∧ j ≤ L.length ∧ DiskAt Try.prog wr d g m n ((L.take j).foldl (fun y i => y.settle i 128) x) ∧ Frm (own3 d g m) w wr
set_option maxRecDepth 100000 in
set_option maxHeartbeats 2000000 in
theorem crash_any (h : DiskAt Try.prog w d g m n x) (hin : ∀ i l, wfi i → x.S i = some l → x.has i = true) (ao : Option Addr) (c : Nat) (L : List Int) (hL : L.length < 1000000)
    (hc : ∀ j, j < L.length → ∃ a, ao = some a ∧ w.cell? (a.add j) = some (.int .i64 (L.getD j 0)) ∧ ¬ own3 d g m (a.add j).block) (hwf : ∀ z ∈ L, wfi z) (tear at_ : Int) (hwt : wfi tear) (hwa : wfi at_) :
    Calls Try.prog 21 #[.pointer (some ⟨d, 0, none⟩), .slice ao L.length c, .int .i64 tear, .int .i64 at_] w fun e w' => e = .returned (.tuple #[]) ∧ DiskAt Try.prog w' d g m n (x.crash L tear at_) ∧ Frm (own3 d g m) w w' := by
  have H := Lib.hid h
  have HI := Lib.hid hin
  have HC := Lib.hid hc
  have HWF := Lib.hid hwf
  have HWT := Lib.hid hwt
  have HWA := Lib.hid hwa
  clear h hin hc hwf hwt hwa
  go_enter Try.func21, Try.ntmps21
  go_wp2_with fail
  go_loopw [12] (fun u wr => CrRel w d g m n x L u wr) (fun u _ => L.length - (intOf u).toNat)
  case atStart => exact ⟨0, rfl, Nat.zero_le _, H.out, Frm.refl _ _⟩
  case round =>
    obtain ⟨wo, rfl⟩ : ∃ wo : World, wo = wr := ⟨_, rfl⟩
    obtain ⟨j, rfl, hj, hD, hF⟩ := hrel
    have HS := Lib.hid (settles_same (L.take j) x)
    generalize hz : (L.take j).foldl (fun y i => y.settle i 128) x = z at hD HS
    have HZ := Lib.hid hz
    have HF := Lib.hid hF
    have hinz : ∀ i l, wfi i → z.S i = some l → z.has i = true := fun i l hi hl => by rw [has_same HS.out.2]; exact HI.out i l hi (by rw [← HS.out.1]; exact hl)
    clear hz hF
    by_cases hjl : j < L.length
    · have hji : (j : Int) < (L.length : Int) := by omega
      obtain ⟨a, rfl, hcell, hno⟩ := HC.out j hjl
      have hco : wo.cell? (a.add j) = some (.int .i64 (L.getD j 0)) := by
        have hlt := World.block_lt_of_cell? w _ hcell
        exact (World.cell?_of_block (a := a.add j) (HF.out.block _ hlt hno)).trans hcell
      have hwz : wfi (L.getD j 0) := by
        have : L.getD j 0 = L[j] := by simp [List.getD, hjl]
        rw [this]
        exact HWF.out _ (List.getElem_mem hjl)
      have HT := Lib.hid (settle_any hD hinz (L.getD j 0) 128 hwz (by unfold wfi; decide))
      have ez : z.settle (L.getD j 0) 128 = (L.take (j + 1)).foldl (fun y i => y.settle i 128) x := by
        rw [List.take_add_one, List.foldl_append, HZ.out]
        simp [hjl, List.getD]
      rw [ez] at HT
      generalize L.getD j 0 = q at *
      clear hinz hD hcell hno ez
      go_wp2_with (go_at_call 45; refine HT.out.mono ?_; rintro e w2 ⟨rfl, hD2, hF2⟩)
      have HD2 := Lib.hid hD2
      have HF2 := Lib.hid (HF.out.trans hF2)
      clear hD2 hF2
      go_roundw
      case rel => exact ⟨j + 1, by go_num, by omega, HD2.out, HF2.out⟩
      case measure => simp [intOf]; omega
    · obtain rfl : j = L.length := by omega
      have e : L.take L.length = L := List.take_length
      rw [e] at HZ
      have HT := Lib.hid (settle_any hD hinz tear at_ HWT.out HWA.out)
      have HS2 := Lib.hid (settle_same z tear at_)
      clear hinz hD
      go_wp2_with (first | (go_at_call 45; refine HT.out.mono ?_; rintro e w2 ⟨rfl, hD2, hF2⟩; have c3 := hD2.c3; have MP := hD2.map; have HD2 := Lib.hid hD2; have HF2 := Lib.hid hF2; clear hD2 hF2) | (refine wpList_clear _ rfl _ 59 rfl Try.underlying59 rfl MP ?_))
      intro w3 HM ht
      have hD3 := (HD2.out.setMap ht HM).mono (Nat.zero_le n)
      have HCC := Lib.hid (cut_any hD3)
      have HF3 := Lib.hid ((HF.out.trans HF2.out).turned ht (.inl (.inr (.inr rfl))))
      clear HD2 HF2 hD3 MP HM ht c3
      go_wp2_with (go_at_call 46; refine HCC.out.mono ?_; rintro e w4 ⟨rfl, hD4, hF4⟩)
      go_end0
      refine ⟨rfl, ?_, HF3.out.trans hF4⟩
      unfold DS.crash
      rw [HZ.out]
      exact hD4
end Go.Proofs.Ytdjpeebekpjiiaa.Dk
/- What the laws' own sector and full leave. -/
namespace Go.Proofs.Ytdjpeebekpjiiaa.Dk
open Go Go.RowKit
set_option linter.unusedVariables false
set_option linter.unusedSimpArgs false

theorem Try.infoU8 : (Try.prog.info? 5).map (fun i => (i.zero, i.size, i.bytes)) = some (some (.int .u8 0), 1, 1) := by kernel_rfl
/-- Bytes, noughts behind them. -/
def pad (xs : List UInt8) : List UInt8 := xs.take 128 ++ List.replicate (128 - xs.length) 0
theorem pad_length (xs : List UInt8) : (pad xs).length = 128 := by simp [pad]; omega
/-- Bytes in a block of their own. -/
def Own (w0 w : World) (v : Value) (l : List UInt8) : Prop := ∃ g, v = .slice (some ⟨g, 0, none⟩) 128 128 ∧ w0.heap.size ≤ g ∧ w.heap[g]? = some (.cells (bvs l).toArray 5 (0, 0)) ∧ l.length = 128
theorem made_u8 (n : Nat) : (madeCells #[.int .u8 0] n).toList = List.replicate n (.int .u8 0) := by
  apply List.ext_getElem
  · simp [madeCells]
  · intro i h1 h2
    simp [madeCells, Nat.mod_one]
theorem bvs_set (L : List UInt8) (k : Nat) (x : UInt8) : (bvs L).toArray.setIfInBounds k (bv x) = (bvs (L.set k x)).toArray := by simp [bvs, List.map_set]
/-- What the loop of full keeps. -/
def FullRel (w : World) (g : Nat) (x : UInt8) (u : Value) (wr : World) : Prop :=
  ∃ (k : Nat) (L : List UInt8), u = .int .i64 (k : Int) ∧ k ≤ 128 ∧ L.length = 128 ∧ (∀ j, j < k → L[j]? = some x) ∧ wr.heap[g]? = some (.cells (bvs L).toArray 5 (0, 0)) ∧ Below w.heap.size w wr
theorem all_same {L : List UInt8} {x : UInt8} {n : Nat} (h : L.length = n) (hx : ∀ j, j < n → L[j]? = some x) : L = List.replicate n x := by
  apply List.ext_getElem?
  intro i
  by_cases hi : i < n
  · rw [hx i hi]; simp [hi]
  · rw [List.getElem?_eq_none (by omega), List.getElem?_eq_none (by simp; omega)]
end Go.Proofs.Ytdjpeebekpjiiaa.Dk
/- The laws' head: works answers true. -/
namespace Go.Proofs.Ytdjpeebekpjiiaa.Dk
open Go Go.RowKit
set_option linter.unusedVariables false
set_option linter.unusedSimpArgs false

/-- Bytes of one's own are written. -/
theorem write_own {w : World} {d g m n : Nat} {x : DS} (h : DiskAt Try.prog w d g m n x) (hn : n < maxLen) (i : Int) (hw : wfi i) {v : Value} {l : List UInt8} {t : TypeId} (hv : ∃ k, v = .slice (some ⟨k, 0, none⟩) 128 128 ∧ w.heap[k]? = some (.cells (bvs l).toArray t (0, 0)) ∧ l.length = 128 ∧ ¬ own3 d g m k) :
    Calls Try.prog 103 #[.pointer (some ⟨d, 0, none⟩), .int .i64 i, v] w fun e w' => e = .returned (.int .i64 (x.wcode i 128)) ∧ DiskAt Try.prog w' d g m (n + 1) (x.write i l) ∧ Frm (own3 d g m) w w' := by
  obtain ⟨k, rfl, hb, hl, hk⟩ := hv
  have := write_any h hn i hw (some ⟨k, 0, none⟩) l 128 (by
    intro k' o e
    cases e
    intro j u hu
    rw [cell_of_row w k (0 + j) _ _ _ hb, Nat.zero_add]
    simpa using hu) (fun _ => ⟨k, 0, rfl, hk⟩)
  rw [hl] at this
  exact this
theorem ks_nil {w : World} {d g m : Nat} : ∀ j, j < ([] : List Int).length → ∃ a, (none : Option Addr) = some a ∧ w.cell? (a.add j) = some (.int .i64 (([] : List Int).getD j 0)) ∧ ¬ own3 d g m (a.add j).block := fun j hj => by simp at hj
/-- A disk's life in works. -/
def dA (b : List UInt8) : DS := ⟨[zeros, zeros], upd (fun _ => none) 1 b, -1, false, 1, 0, 2, []⟩
def dB (b : List UInt8) : DS := ⟨[zeros, b], fun _ => none, -1, false, 1, 1, 2, []⟩
def dC (b c : List UInt8) : DS := ⟨[zeros, b], upd (fun _ => none) 1 c, -1, false, 2, 1, 2, []⟩
def dD (b c : List UInt8) : DS := ⟨[zeros, c.take 3 ++ b.drop 3], fun _ => none, -1, true, 2, 1, 2, []⟩
def dE (b c : List UInt8) : DS := ⟨[zeros, c.take 3 ++ b.drop 3], fun _ => none, -1, false, 2, 1, 2, []⟩
theorem life_a {b : List UInt8} (hb : b.length = 128) : (DS.new 2).write 1 b = dA b ∧ (DS.new 2).wcode 1 128 = 0 := by
  constructor
  · simp [DS.write, DS.new, DS.has, DS.spend, dA, hb, wrap64]
  · simp [DS.wcode, DS.new, DS.has]
theorem life_b {b : List UInt8} : (dA b).flush = dB b ∧ (dA b).fcode = 0 := by
  constructor
  · simp [DS.flush, DS.spend, dA, dB, wrap64, laid, upd]
  · simp [DS.fcode, dA]
theorem life_c {b c : List UInt8} (hc : c.length = 128) : (dB b).write 1 c = dC b c ∧ (dB b).wcode 1 128 = 0 := by
  constructor
  · simp [DS.write, dB, DS.has, DS.spend, dC, hc, wrap64]
  · simp [DS.wcode, dB, DS.has]
theorem life_d {b c : List UInt8} : (dC b c).crash [] 1 3 = dD b c := by
  have e : (min (max (3 : Int) 0) 128).toNat = 3 := by decide
  simp [DS.crash, DS.settle, dC, dD, upd, e]
theorem life_e {b c : List UInt8} : (dD b c).up = dE b c := by
  simp [DS.up, dD, dE]
theorem life_f {b c : List UInt8} : (dE b c).read 1 = (c.take 3 ++ b.drop 3, 0) := by
  simp [DS.read, DS.sure, DS.has, dE]
theorem life_in {x : DS} {b : List UInt8} (hS : x.S = upd (fun _ => none) 1 b) (hs : x.s.length = 2) : ∀ i l, wfi i → x.S i = some l → x.has i = true := by
  intro i l _ h
  rw [hS] at h
  simp [upd] at h
  simp [DS.has, hs, h.1]
theorem sec_at {w0 w : World} {v : Value} {l : List UInt8} (h : Sec w0 w v l) : ∃ g, v = .slice (some ⟨g, 0, none⟩) 128 128 ∧ w0.heap.size ≤ g ∧ w.heap[g]? = some (.cells (bvs l).toArray 112 (0, 0)) := by
  obtain ⟨g, e, h1, h2, _⟩ := h
  exact ⟨g, e, h1, h2⟩
end Go.Proofs.Ytdjpeebekpjiiaa.Dk
/- A ring in memory, and what its small calls leave. -/
namespace Go.Proofs.Ytdjpeebekpjiiaa.Dk
open Go Go.RowKit
set_option linter.unusedVariables false
set_option linter.unusedSimpArgs false

/-- Block r is a ring over the disk at d; the last sector's bytes are at block k. -/
structure RingAt (w : World) (r d k first count tail : Nat) (S : List UInt8) (t : TypeId) : Prop where
  blk : w.heap[r]? = some (.cells #[.pointer (some ⟨d, 0, none⟩), .int .i64 (first : Int), .int .i64 (count : Int), .int .u64 (tail : Int), .slice (some ⟨k, 0, none⟩) (tail % 128) (tail % 128)] 134 (0, 0))
  row : w.heap[k]? = some (.cells (bvs S).toArray t (0, 0))
  len : S.length = 128
  ne : r ≠ k
  cnt : 1 ≤ count
  few : first + count ≤ 4096
  tl : tail < 18446744073709551616

variable {w w' : World} {r d k first count tail : Nat} {S : List UInt8} {t : TypeId}
theorem RingAt.keep (h : RingAt w r d k first count tail S t) (h1 : w'.heap[r]? = w.heap[r]?) (h2 : w'.heap[k]? = w.heap[k]?) : RingAt w' r d k first count tail S t := ⟨h1.trans h.blk, h2.trans h.row, h.len, h.ne, h.cnt, h.few, h.tl⟩
theorem RingAt.rlt (h : RingAt w r d k first count tail S t) : r < w.heap.size := lt_of_row h.blk
theorem RingAt.klt (h : RingAt w r d k first count tail S t) : k < w.heap.size := lt_of_row h.row
theorem RingAt.below {B : Nat} (h : RingAt w r d k first count tail S t) (f : Below B w w') (hB : w.heap.size ≤ B) : RingAt w' r d k first count tail S t := h.keep (f.block r (by have := h.rlt; omega)) (f.block k (by have := h.klt; omega))
theorem RingAt.frame {T : Nat → Prop} (h : RingAt w r d k first count tail S t) (f : Frm T w w') (h1 : ¬ T r) (h2 : ¬ T k) : RingAt w' r d k first count tail S t := h.keep (f.block r h.rlt h1) (f.block k h.klt h2)
theorem RingAt.q0 (h : RingAt w r d k first count tail S t) : w.cell? ⟨r, 0, none⟩ = some (.pointer (some ⟨d, 0, none⟩)) := by rw [cell_of_row w r 0 _ _ _ h.blk]; rfl
theorem RingAt.q1 (h : RingAt w r d k first count tail S t) : w.cell? ⟨r, 1, none⟩ = some (.int .i64 (first : Int)) := by rw [cell_of_row w r 1 _ _ _ h.blk]; rfl
theorem RingAt.q2 (h : RingAt w r d k first count tail S t) : w.cell? ⟨r, 2, none⟩ = some (.int .i64 (count : Int)) := by rw [cell_of_row w r 2 _ _ _ h.blk]; rfl
theorem RingAt.q3 (h : RingAt w r d k first count tail S t) : w.cell? ⟨r, 3, none⟩ = some (.int .u64 (tail : Int)) := by rw [cell_of_row w r 3 _ _ _ h.blk]; rfl
theorem RingAt.q4 (h : RingAt w r d k first count tail S t) : w.cell? ⟨r, 4, none⟩ = some (.slice (some ⟨k, 0, none⟩) (tail % 128) (tail % 128)) := by rw [cell_of_row w r 4 _ _ _ h.blk]; rfl
theorem RingAt.free (h : RingAt w r d k first count tail S t) (i : Nat) : w.frozen? ⟨r, i, none⟩ = false := frozen_of_row w r i _ _ h.blk
theorem ret_i64 {a b : Int} (h : a = b) : Ending.returned (.int .i64 a) = Ending.returned (.int .i64 b) := by rw [h]

theorem inSector_any (n : Nat) (hn : n < 18446744073709551616) (w : World) : Calls Try.prog 62 #[.int .u64 (n : Int)] w fun e w' => e = .returned (.int .i64 ((n % 128 : Nat) : Int)) ∧ w = w' := by
  go_enter Try.func62, Try.ntmps62
  go_wp2_with fail
  go_ret
  exact ⟨ret_i64 (by omega), rfl⟩
theorem tail_any (h : RingAt w r d k first count tail S t) : Calls Try.prog 41 #[.pointer (some ⟨r, 0, none⟩)] w fun e w' => e = .returned (.int .u64 (tail : Int)) ∧ w = w' := by
  have q3 := h.q3
  clear h
  go_enter Try.func41, Try.ntmps41
  go_wp2_with fail
  go_ret
  exact ⟨rfl, rfl⟩
theorem size_any (h : RingAt w r d k first count tail S t) : Calls Try.prog 67 #[.pointer (some ⟨r, 0, none⟩)] w fun e w' => e = .returned (.int .i64 ((count * 128 : Nat) : Int)) ∧ w = w' := by
  have q2 := h.q2
  have hf := h.few
  clear h
  go_enter Try.func67, Try.ntmps67
  go_wp2_with fail
  go_ret
  exact ⟨ret_i64 (by omega), rfl⟩
/-- The sector of a byte. -/
def sec (first count n : Nat) : Nat := first + n / 128 % count
theorem secI {first count n : Nat} (hn : n < 18446744073709551616) (hf : first + count ≤ 4096) (hc : 1 ≤ count) : wrap64 ((first : Int) + wrap64 ((IntKind.u64.wrap ((n : Int) / 128)).tmod (count : Int))) = ((sec first count n : Nat) : Int) := by
  have hm : n / 128 % count < count := Nat.mod_lt _ hc
  have e1 : IntKind.u64.wrap ((n : Int) / 128) = ((n / 128 : Nat) : Int) := by rw [IntKind.wrap_u64]; omega
  have e2 : ((n / 128 : Nat) : Int).tmod (count : Int) = ((n / 128 % count : Nat) : Int) := by
    rw [Int.tmod_eq_emod_of_nonneg (by omega)]
    simp
  rw [e1, e2]
  unfold sec
  generalize n / 128 % count = q at *
  have e3 : wrap64 (q : Int) = (q : Int) := by unfold wrap64; omega
  rw [e3]
  unfold wrap64
  omega
theorem rsector_any (h : RingAt w r d k first count tail S t) (n : Nat) (hn : n < 18446744073709551616) : Calls Try.prog 61 #[.pointer (some ⟨r, 0, none⟩), .int .u64 (n : Int)] w fun e w' => e = .returned (.int .i64 ((sec first count n : Nat) : Int)) ∧ ∃ m, w' = w.drewN m := by
  have q1 := h.q1
  have q2 := h.q2
  have hf := h.few
  have hc := h.cnt
  have hm : n / 128 % count < count := Nat.mod_lt _ hc
  have hci : ¬ (count : Int) = 0 := by omega
  have HN := Lib.hid hn
  clear h hn hm
  go_enter Try.func61, Try.ntmps61
  go_wp2_with fail
  go_quiet (fail)
  go_wp2_with fail
  go_ret
  exact ⟨ret_i64 (secI HN.out hf hc), _, rfl⟩
theorem keep_any (h : RingAt w r d k first count tail S t) {k' : Nat} {S' : List UInt8} {t' : TypeId} (hr : w.heap[k']? = some (.cells (bvs S').toArray t' (0, 0))) (hl : S'.length = 128) (hne : r ≠ k') :
    Calls Try.prog 79 #[.pointer (some ⟨r, 0, none⟩), .slice (some ⟨k', 0, none⟩) 128 128] w fun e w' => e = .returned (.tuple #[]) ∧ RingAt w' r d k' first count tail S' t' ∧ Frm (fun i => i = r) w w' := by
  have q3 := h.q3
  have q4 := h.q4
  have f4 := h.free 4
  have IS := Lib.hid (inSector_any tail h.tl w)
  have hm : tail % 128 < 128 := Nat.mod_lt _ (by decide)
  generalize hq : tail % 128 = q at *
  have hqi : (q : Int) ≤ 128 := by omega
  have R := Lib.hid (show RingAt (w.setCell ⟨r, 4, none⟩ (.slice (some ⟨k', 0, none⟩) q q)) r d k' first count tail S' t' from
    ⟨by have := Go.Joins.block_setCell (i := 4) h.blk (.slice (some ⟨k', 0, none⟩) q q)
        rw [hq]
        simpa using this, (Below.heap_setCell w ⟨r, 4, none⟩ _ k' (fun e => hne e.symm)).trans hr, hl, hne, h.cnt, h.few, h.tl⟩)
  clear h hr hq hm
  go_enter Try.func79, Try.ntmps79
  go_wp2_with (go_at_call 62; refine IS.out.mono ?_; rintro e w' ⟨rfl, rfl⟩)
  go_end0
  exact ⟨rfl, R.out, (Frm.refl (fun i => i = r) w).setCell (p := ⟨r, 4, none⟩) (.inl rfl) _⟩
/-- How many bytes more there may be. -/
def leftN (head tail count : Nat) : Nat := count * 128 - (tail - min head tail / 128 * 128)
theorem leftJ {head tail count hd st sz : Nat} (hm : hd = min head tail) (ht : tail ≤ 4611686018427387904) (hst : st = tail - hd + hd % 128) (hsz : sz = count * 128) (hs : st < sz) : (sz : Int) - (st : Int) = ((leftN head tail count : Nat) : Int) := by
  unfold leftN
  rw [← hm]
  omega
theorem leftK {head tail count hd st sz : Nat} (hm : hd = min head tail) (hst : st = tail - hd + hd % 128) (hsz : sz = count * 128) (hs : ¬ st < sz) : (0 : Int) = ((leftN head tail count : Nat) : Int) := by
  unfold leftN
  rw [← hm]
  omega
theorem left_at (h : RingAt w r d k first count tail S t) (ht : tail ≤ 4611686018427387904) (head : Nat) (hh : head < 18446744073709551616) (c : Bool) (hc : decide (tail < head) = c) :
    Calls Try.prog 42 #[.pointer (some ⟨r, 0, none⟩), .int .u64 (head : Int)] w fun e w' => e = .returned (.int .i64 ((leftN head tail count : Nat) : Int)) ∧ ∃ m, w' = w.drewN m := by
  have q3 := h.q3
  have hf := h.few
  have SZ := Lib.hid (fun n => size_any (w := w.drewN n) (h.keep rfl rfl))
  obtain ⟨hd, hhd⟩ : ∃ hd, hd = min head tail := ⟨_, rfl⟩
  have IS := Lib.hid (fun n => inSector_any hd (by omega) (w.drewN n))
  have HM := Lib.hid hhd
  have HT := Lib.hid ht
  have HH := Lib.hid hh
  cases c with
  | true =>
    have hlt : tail < head := by simpa using hc
    have hi : (tail : Int) < (head : Int) := by omega
    obtain rfl : hd = tail := by omega
    clear h hhd ht hh hc
    go_enter Try.func42, Try.ntmps42
    go_wp2_with fail
    go_quiet (first | (go_at_call 62; refine Calls.quiet_of_same ((IS.out _).mono fun _ _ h => ⟨h.1, h.2.symm⟩)))
    obtain ⟨st, hst⟩ : ∃ st : Nat, st = hd - hd + hd % 128 := ⟨_, rfl⟩
    have est : ((hd : Int) % 128) = (st : Int) := by omega
    rw [est]
    have ST := Lib.hid hst
    clear hst est
    obtain ⟨sz, hsz⟩ : ∃ sz, sz = count * 128 := ⟨_, rfl⟩
    rw [← hsz] at SZ
    have szb : sz ≤ 524288 := by omega
    have SB := Lib.hid hsz
    clear hsz
    by_cases hs : st < sz
    · have hsi : (st : Int) < (sz : Int) := by omega
      have HS := Lib.hid hs
      clear hs
      go_wp2_with (go_at_call 67; refine (SZ.out nq).mono ?_; rintro e w' ⟨rfl, rfl⟩)
      go_ret
      exact ⟨ret_i64 (leftJ HM.out HT.out ST.out SB.out HS.out), _, rfl⟩
    · have hsi : ¬ (st : Int) < (sz : Int) := by omega
      have HS := Lib.hid hs
      clear hs
      go_wp2_with (go_at_call 67; refine (SZ.out nq).mono ?_; rintro e w' ⟨rfl, rfl⟩)
      go_ret
      exact ⟨ret_i64 (leftK HM.out ST.out SB.out HS.out), _, rfl⟩
  | false =>
    have hlt : ¬ tail < head := by simpa using hc
    have hi : ¬ (tail : Int) < (head : Int) := by omega
    obtain rfl : hd = head := by omega
    obtain ⟨st, hst⟩ : ∃ st : Nat, st = tail - hd + hd % 128 := ⟨_, rfl⟩
    have est : IntKind.u64.wrap (IntKind.u64.wrap ((tail : Int) - (hd : Int)) + (hd : Int) % 128) = (st : Int) := by rw [IntKind.wrap_u64, IntKind.wrap_u64]; omega
    have EST := Lib.hid est
    have ST := Lib.hid hst
    clear h hhd ht hh hc hst est
    go_enter Try.func42, Try.ntmps42
    go_wp2_with fail
    go_quiet (first | (go_at_call 62; refine Calls.quiet_of_same ((IS.out _).mono fun _ _ h => ⟨h.1, h.2.symm⟩)))
    rw [EST.out]
    obtain ⟨sz, hsz⟩ : ∃ sz, sz = count * 128 := ⟨_, rfl⟩
    rw [← hsz] at SZ
    have szb : sz ≤ 524288 := by omega
    have SB := Lib.hid hsz
    clear hsz
    by_cases hs : st < sz
    · have hsi : (st : Int) < (sz : Int) := by omega
      have HS := Lib.hid hs
      clear hs
      go_wp2_with (go_at_call 67; refine (SZ.out nq).mono ?_; rintro e w' ⟨rfl, rfl⟩)
      go_ret
      exact ⟨ret_i64 (leftJ HM.out HT.out ST.out SB.out HS.out), _, rfl⟩
    · have hsi : ¬ (st : Int) < (sz : Int) := by omega
      have HS := Lib.hid hs
      clear hs
      go_wp2_with (go_at_call 67; refine (SZ.out nq).mono ?_; rintro e w' ⟨rfl, rfl⟩)
      go_ret
      exact ⟨ret_i64 (leftK HM.out ST.out SB.out HS.out), _, rfl⟩
theorem left_any (h : RingAt w r d k first count tail S t) (ht : tail ≤ 4611686018427387904) (head : Nat) (hh : head < 18446744073709551616) :
    Calls Try.prog 42 #[.pointer (some ⟨r, 0, none⟩), .int .u64 (head : Int)] w fun e w' => e = .returned (.int .i64 ((leftN head tail count : Nat) : Int)) ∧ ∃ m, w' = w.drewN m := left_at h ht head hh _ rfl
end Go.Proofs.Ytdjpeebekpjiiaa.Dk
