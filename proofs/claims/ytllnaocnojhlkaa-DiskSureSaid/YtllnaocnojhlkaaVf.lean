/- The law RingKeeps: its walk. -/
import Derived.Test.YtllnaocnojhlkaaVe
import Derived.Test.YtllnaocnojhlkaaPn
import Derived.Test.YtllnaocnojhlkaaVc
namespace Go.Proofs.Ytllnaocnojhlkaa.Dk
open Go Go.RowKit
set_option linter.unusedVariables false
set_option linter.unusedSimpArgs false

theorem str_append (a b : List UInt8) : str (a ++ b) = str a ++ str b := by
  apply ByteArray.ext
  simp [str, ByteArray.data_append]
theorem one_parts {w : World} {aj : Option Addr} {n cj : Nat} {p : List UInt8} (h : Sl w (.slice aj n cj) p) : Parts (w.alloc (.cells #[.slice aj n cj] 32 (0, 0))) (.slice (some ⟨w.heap.size, 0, none⟩) 1 1) [p] := by
  refine ⟨_, 1, rfl, fun j hj => ⟨_, rfl, aj, cj, ?_⟩⟩
  obtain rfl : j = 0 := by simpa using hj
  have e : ([p] : List (List UInt8)).getD 0 [] = p := rfl
  obtain ⟨ao', c', e', hno, hs⟩ := id h
  injection e' with e1 e2 e3
  rw [e]
  subst e2
  refine ⟨?_, h.below ((Below.refl _ w).alloc (Nat.le_refl _) _)⟩
  rw [zadd, cell_of_row _ w.heap.size 0 _ _ _ (heap_alloc_new w _)]
  rfl
theorem pend_eq {S : Int → Option (List UInt8)} {a b : List Int} (h1 : PendS S a) (h2 : PendS S b) : a = b := by
  have n1 : a.Nodup := h1.1.imp (fun {a b} h => by omega)
  have n2 : b.Nodup := h2.1.imp (fun {a b} h => by omega)
  refine List.Perm.eq_of_pairwise (le := fun a b => a < b) (fun a b _ _ h1 h2 => by omega) h1.1 h2.1 ((List.perm_ext_iff_of_nodup n1 n2).2 fun i => ?_)
  rw [h1.2, h2.2]
/-- A slice of these numbers, in a row from block B on if there are any. -/
def Ints (w : World) (B : Nat) (ao : Option Addr) (L : List Int) : Prop :=
  ∀ j, j < L.length → ∃ gp, ao = some ⟨gp, 0, none⟩ ∧ B ≤ gp ∧ gp < w.heap.size ∧ w.cell? ⟨gp, j, none⟩ = some (.int .i64 (L.getD j 0))
theorem ints_of {w : World} {B : Nat} {v : Value} {L : List Int} (h : w.ownsRow B 3 1 v L.length (L.map (Value.int .i64))) : ∃ ao c, v = .slice ao L.length c ∧ L.length ≤ c ∧ Ints w B ao L := by
  rcases h.2 with ⟨rfl, h0⟩ | ⟨g, cap, cur, rfl, hb, hh, h1, h2, h3, h4⟩
  · exact ⟨none, 0, by rw [h0], by omega, fun j hj => by omega⟩
  · refine ⟨_, cap, rfl, h1, fun j hj => ⟨g, rfl, hb, lt_of_row hh, ?_⟩⟩
    rw [cell_of_row w g j _ _ _ hh, ← Array.getElem?_toList]
    have h5 : (cur.toList.take (L.length * 1))[j]? = (L.map (Value.int .i64))[j]? := by rw [h4]
    rw [List.getElem?_take, if_pos (by omega)] at h5
    rw [h5]
    simp [List.getD, hj]
theorem Ints.below {w w' : World} {B C : Nat} {ao : Option Addr} {L : List Int} (h : Ints w B ao L) (hb : Below C w w') (hC : w.heap.size ≤ C) : Ints w' B ao L := fun j hj => by
  obtain ⟨gp, h1, h2, h3, h4⟩ := h j hj
  exact ⟨gp, h1, h2, Nat.lt_of_lt_of_le h3 hb.size, by rw [hb.cell (p := ⟨gp, j, none⟩) (by simp; omega)]; exact h4⟩
theorem Ints.take {w : World} {B : Nat} {ao : Option Addr} {L : List Int} (h : Ints w B ao L) (k : Nat) : Ints w B ao (L.take k) := fun j hj => by
  have hl : j < k ∧ j < L.length := by rw [List.length_take] at hj; omega
  obtain ⟨gp, h1, h2, h3, h4⟩ := h j hl.2
  refine ⟨gp, h1, h2, h3, ?_⟩
  rw [h4]
  simp only [List.getD, List.getElem?_take, if_pos hl.1]
/-- A ring's own last bytes, where F's stand. -/
def SAg (S : List UInt8) (tail : Nat) (F : List UInt8) : Prop := ∀ p, p < F.length → tail - tail % 128 ≤ p → S.getD (p % 128) 0 = F.getD p 0
theorem sag_of {S F : List UInt8} (hS : S.length = 128) (h : S.take (F.length % 128) = F.drop (F.length - F.length % 128)) : SAg S F.length F := by
  intro p hp hg
  have hq := Nat.mod_lt F.length (show 0 < 128 by decide)
  have e : p - (F.length - F.length % 128) = p % 128 := by omega
  have h1 : (S.take (F.length % 128))[p % 128]? = (F.drop (F.length - F.length % 128))[p % 128]? := by rw [h]
  rw [List.getElem?_take, if_pos (by omega), List.getElem?_drop, ← e, show F.length - F.length % 128 + (p - (F.length - F.length % 128)) = p by omega, e] at h1
  simp only [List.getD, h1]
/-- An append onto it, from the beginning on to stay. -/
theorem append_ag {x : DS} {S F b : List UInt8} {tail : Nat} (h : Ag x F) (hS : S.length = 128) (hs : SAg S tail F) (hF : F.length ≤ tail) (hb : 0 < b.length) (hfit : tail + b.length ≤ 640) :
    ∀ B, B = S.take (tail % 128) ++ b → Ag (lays 1 5 B.length x (tail - tail % 128) B).1 F ∧ SAg (pad (B.drop ((B.length - 1) / 128 * 128))) (tail + b.length) F := by
  intro B hB
  have hq := Nat.mod_lt tail (show 0 < 128 by decide)
  have hql := Nat.mod_le tail 128
  have htl : (S.take (tail % 128)).length = tail % 128 := by rw [List.length_take, hS]; omega
  have hBl : B.length = tail % 128 + b.length := by rw [hB, List.length_append, htl]
  have hag : ∀ p, p < F.length → tail - tail % 128 ≤ p → B.getD (p - (tail - tail % 128)) 0 = F.getD p 0 := by
    intro p hp hg
    rw [← hs p hp hg, hB, getD_append_l (by rw [htl]; omega)]
    have e : p - (tail - tail % 128) = p % 128 := by omega
    simp only [List.getD, List.getElem?_take, e]
    rw [if_pos (by omega)]
  refine ⟨lays_ag _ x _ B h (by omega) (by omega) (by omega) hag, fun p hp hg => ?_⟩
  rw [← hag p hp (by omega)]
  have hpm := Nat.mod_lt p (show 0 < 128 by decide)
  have e2 : (B.length - 1) / 128 * 128 + p % 128 = p - (tail - tail % 128) := by omega
  rw [pad_getD hpm (by rw [List.length_drop]; omega)]
  simp only [List.getD, List.getElem?_drop, e2]
/-- Where the loop stands that appends more. -/
structure MoSt (w wr : World) (g0 : Nat) (c0 c1 c2 : Int) (r d g m k : Nat) (F S : List UInt8) (t : TypeId) (x : DS) (tail n0 : Nat) : Prop where
  R : RingAt wr r d k 1 5 tail S t
  E : DiskAt Try.prog wr d g m n0 x
  ag : Ag x F
  sag : SAg S tail F
  lo : F.length ≤ tail
  hi : tail ≤ 640
  kn : ¬ own3 d g m k
  kb : w.heap.size ≤ k
  row : wr.heap[g0]? = some (.cells #[.int .i64 c0, .int .i64 c1, .int .i64 c2] 44 (0, 0))
  be : Below w.heap.size w wr
def MoRel (w : World) (g0 : Nat) (c0 c1 c2 : Int) (r d g m : Nat) (F : List UInt8) (N : Nat) (u : Value) (wr : World) : Prop :=
  ∃ (j k : Nat) (S : List UInt8) (t : TypeId) (x : DS) (tail n0 : Nat), u = .int .i64 (j : Int) ∧ j ≤ N ∧ n0 ≤ 1000 * (j + 1) ∧ MoSt w wr g0 c0 c1 c2 r d g m k F S t x tail n0
theorem MoSt.below {w wr w' : World} {g0 : Nat} {c0 c1 c2 : Int} {r d g m k : Nat} {F S : List UInt8} {t : TypeId} {x : DS} {tail n0 : Nat} (h : MoSt w wr g0 c0 c1 c2 r d g m k F S t x tail n0) (f : Below wr.heap.size wr w') : MoSt w w' g0 c0 c1 c2 r d g m k F S t x tail n0 :=
  ⟨h.R.below f (Nat.le_refl _), h.E.below f (Nat.le_refl _), h.ag, h.sag, h.lo, h.hi, h.kn, h.kb, (f.block g0 (lt_of_row h.row)).trans h.row, h.be.trans (f.mono h.be.size)⟩
theorem rising_few : ∀ {ss : List Int} {lo hi : Int}, Rising ss → (∀ i ∈ ss, lo ≤ i ∧ i < hi) → (ss.length : Int) ≤ max 0 (hi - lo)
  | [], lo, hi, _, _ => by simp; omega
  | a :: ss, lo, hi, hr, hm => by
    have h1 := hm a (by simp)
    have ih := rising_few (ss := ss) (lo := a + 1) (hi := hi) (List.Pairwise.of_cons hr) (fun i hi' => by
      have h2 := (List.pairwise_cons.1 hr).1 i hi'
      have h3 := hm i (by simp [hi'])
      omega)
    simp only [List.length_cons]
    omega
theorem pend_few {x : DS} {F : List UInt8} {ss : List Int} (h : Ag x F) (hp : PendS x.S ss) : ss.length ≤ 6 := by
  have := rising_few (lo := 0) (hi := 6) hp.1 (fun i hi => by
    obtain ⟨_, h2⟩ := (hp.2 i).1 hi
    obtain ⟨l, hl⟩ := Option.isSome_iff_exists.1 h2
    exact (h.wl i l hl).2)
  omega
theorem getD_mem {l : List Int} {k : Nat} (h : k < l.length) : l.getD k 0 ∈ l := by
  simp only [List.getD, List.getElem?_eq_getElem h, Option.getD_some]
  exact List.getElem_mem h
theorem str_small {F : List UInt8} (h : F.length ≤ 1000000) : ¬ 9223372036854775807 < (str F).size + 6 := by
  have : (str F).size = F.length := by simp [str, ByteArray.size]
  omega
theorem left5b {n : Nat} (h : n ≤ 300) : 6 ≤ leftN 0 n 5 := by
  unfold leftN
  simp
  omega
theorem sl_row' {w : World} {k n c : Nat} {t : TypeId} {fr : Nat × Nat} {l : List UInt8} (h : w.heap[k]? = some (.cells (bvs l).toArray t fr)) (hl : l.length = n) : Sl w (.slice (some ⟨k, 0, none⟩) n c) l := by
  refine ⟨some ⟨k, 0, none⟩, c, (by rw [hl]), (fun e => by cases e), fun a ha j u hu => ?_⟩
  cases ha
  rw [Addr.add_mid, cell_of_row w k (0 + j) _ _ _ h, Nat.zero_add]
  simpa using hu
theorem left5 {tail s : Nat} (h : s ≤ leftN 0 tail 5) (h0 : 0 < s) : tail + s ≤ 640 := by
  unfold leftN at h
  simp at h
  omega
def behind6 : List UInt8 := [98, 101, 104, 105, 110, 100]
set_option maxRecDepth 100000 in
set_option maxHeartbeats 8000000 in
theorem rkeeps_any (a1 : Option Addr) (l1 : Nat) (F : List UInt8) (a2 : Option Addr) (l2 : Nat) (L : List (List UInt8)) (c0 c1 c2 : Int) (hc0 : wfi c0) (hc1 : wfi c1) (hc2 : wfi c2) (w : World)
    (hF : Sl w (.slice a1 F.length l1) F) (hP : Parts w (.slice a2 L.length l2) L) :
    Calls Try.prog 4 #[.slice a1 F.length l1, .slice a2 L.length l2, .agg #[.int .i64 c0, .int .i64 c1, .int .i64 c2]] w fun e w' => e = .returned (.bool true) ∧ Below w.heap.size w w' := by
  have r0 := heap_alloc_new w (.cells #[.int .i64 c0, .int .i64 c1, .int .i64 c2] 44 (0, 0))
  have fa : Below w.heap.size w (w.alloc (.cells #[.int .i64 c0, .int .i64 c1, .int .i64 c2] 44 (0, 0))) := (Below.refl _ _).alloc (Nat.le_refl _) _
  have GO := Lib.hid (goes_any (w.alloc (.cells #[.int .i64 c0, .int .i64 c1, .int .i64 c2] 44 (0, 0))))
  have hsz : (w.alloc (.cells #[.int .i64 c0, .int .i64 c1, .int .i64 c2] 44 (0, 0))).heap.size = w.heap.size + 1 := Array.size_push _
  obtain ⟨g0, hg0⟩ : ∃ g0, g0 = w.heap.size := ⟨_, rfl⟩
  have HSF := Lib.hid hF
  have HP := Lib.hid hP
  clear hF hP
  go_enter Try.func4, Try.ntmps4
  rw [← hg0]
  obtain ⟨wa, hwa⟩ : ∃ wa, wa = w.alloc (.cells #[.int .i64 c0, .int .i64 c1, .int .i64 c2] 44 (0, 0)) := ⟨_, rfl⟩
  rw [← hg0, ← hwa] at r0
  rw [← hwa] at fa GO hsz
  go_wp2_with fail
  rw [← hwa, ← hg0]
  refine GO.out.mono ?_
  rintro e w1 ⟨rfl, hb1⟩
  have HR1 := Lib.hid ((hb1.block g0 (by omega)).trans r0)
  have HB1 := Lib.hid (show Below w.heap.size w w1 from fa.trans (hb1.mono (by omega)))
  have HG := Lib.hid hg0
  have hg1 : g0 < w1.heap.size := by have := hb1.size; omega
  clear GO hb1 hwa hsz r0 fa hg0
  by_cases q1 : 300 < F.length
  · have qi : (300 : Int) < (F.length : Int) := by omega
    go_wp2_with fail
    go_ret
    exact ⟨rfl, by rw [HG.out]; exact HB1.out⟩
  have qi : ¬ (300 : Int) < (F.length : Int) := by omega
  by_cases q2 : 10 < L.length
  · have qj : (10 : Int) < (L.length : Int) := by omega
    go_wp2_with fail
    go_ret
    exact ⟨rfl, by rw [HG.out]; exact HB1.out⟩
  have qj : ¬ (10 : Int) < (L.length : Int) := by omega
  have NW := Lib.hid (new_any 6 (by decide) (by decide) w1)
  go_wp2_with fail
  refine NW.out.mono ?_
  rintro e w2 ⟨d, g, m, rfl, hD2, hb2, hd, hg, hm⟩
  have HR2 := Lib.hid ((hb2.block g0 hg1).trans HR1.out)
  have HD2 := Lib.hid hD2
  have HB2 := Lib.hid (HB1.out.trans (hb2.mono HB1.out.size))
  have LO := Lib.hid (show ∀ i, own3 d g m i → w1.heap.size ≤ i from fun i h => by rcases h with h | h | h <;> omega)
  have LT := Lib.hid (show ∀ i, own3 d g m i → i < w2.heap.size from fun i h => h.elim (fun h => h ▸ HD2.out.dlt) (fun h => h.elim (fun h => h ▸ HD2.out.glt) (fun h => h ▸ HD2.out.mlt)))
  have HG1 := Lib.hid (show g0 < w1.heap.size ∧ w.heap.size ≤ w1.heap.size ∧ w1.heap.size ≤ w2.heap.size from ⟨hg1, HB1.out.size, hb2.size⟩)
  clear NW hD2 hb2 hd hg hm HR1 hg1
  have OP := Lib.hid (open_keeps (first := 1) (count := 5) (N := 6) (S := []) HD2.out (keeps_nil (good_new 6)) (by decide) (by decide) (by decide))
  go_wp2_with fail
  refine OP.out.mono ?_
  rintro e w3 ⟨r, k, S, rfl, hR3, hK3, hb3, hr, hk⟩
  have hrn : ¬ own3 d g m r := fun e => by have := LT.out r e; omega
  have hkn : ¬ own3 d g m k := fun e => by have := LT.out k e; omega
  have hb3' : Below w.heap.size w w3 := HB2.out.trans (hb3.mono HB2.out.size)
  have hS3 := HSF.out.below hb3'
  obtain ⟨w4, hw4⟩ : ∃ w4, w4 = w3.alloc (.cells #[.slice a1 F.length l1] 32 (0, 0)) := ⟨_, rfl⟩
  have f4 : Below w3.heap.size w3 w4 := by rw [hw4]; exact (Below.refl _ _).alloc (Nat.le_refl _) _
  have hP4 := one_parts hS3
  rw [← hw4] at hP4
  have eS : sumLen [F] = F.length := by simp [sumLen]
  have AP := Lib.hid (append_keeps (text := []) (hR3.below f4 (Nat.le_refl _)) (by decide) ((HD2.out.below hb3 (Nat.le_refl _)).below f4 (Nat.le_refl _)) hK3 (by decide) hrn hkn (by decide) 0 (by decide) _ 1 [F] hP4 (by simp) (by rw [eS]; omega) (by rw [eS, show leftN 0 ([] : List UInt8).length 5 = 640 by decide]; omega))
  rw [List.nil_append, show [F].flatten = F by simp] at AP
  have HW4 := Lib.hid hw4
  have HR4 := Lib.hid ((f4.block g0 (by have := HG1.out; have := hb3.size; omega)).trans ((hb3.block g0 (by have := HG1.out; omega)).trans HR2.out))
  have HB4 := Lib.hid (hb3'.trans (f4.mono hb3'.size))
  have NW := Lib.hid (show w2.heap.size ≤ r ∧ w2.heap.size ≤ k ∧ r < w3.heap.size ∧ k < w3.heap.size ∧ w3.heap.size ≤ w4.heap.size from ⟨hr, hk, hR3.rlt, hR3.klt, f4.size⟩)
  have HRN := Lib.hid hrn
  clear hR3 hK3 hb3 hr hk hrn hkn hb3' hS3 hw4 f4 hP4 eS OP HR2 HD2
  go_wp2_with fail
  rw [← HW4.out]
  refine AP.out.mono ?_
  rintro e w5 ⟨rfl, k5, S5, t5, x5, n5, hR5, hk5, hkr, hkc, hE5, hn5, hK5, hF5⟩
  have FL := Lib.hid (flush_any hE5 (fun i l _ hl => by have h1 := hK5.good.wl i l hl; simp [DS.has, hK5.good.n]; omega))
  rw [hK5.good.flush.2.1] at FL
  have HA := Lib.hid (ag_flush hK5 (by omega))
  have HS5 := Lib.hid (sag_of hR5.len hK5.last)
  have HR5 := Lib.hid hR5
  have HN5 := Lib.hid (show n5 ≤ 1000 from by simp [sumLen] at hn5; omega)
  have T5 : ∀ i, i = r ∨ own3 d g m i → w.heap.size ≤ i ∧ i ≠ g0 := by
    rintro i (e | e)
    · have := NW.out; have := HG1.out; omega
    · have := LO.out i e; have := HG1.out; omega
  have HT5 := Lib.hid T5
  have HR5' := Lib.hid ((hF5.block g0 (lt_of_row HR4.out) (fun e => (T5 g0 e).2 rfl)).trans HR4.out)
  have HB5 := Lib.hid (HB4.out.trans (hF5.below (fun i _ e => (T5 i e).1) HB4.out.size))
  have HK5 := Lib.hid (show ¬ own3 d g m k5 ∧ w.heap.size ≤ k5 from ⟨hk5, by have := NW.out; have := HG1.out; have := HB4.out.size; rcases hkc with h | h <;> omega⟩)
  clear hR5 hk5 hkr hkc hE5 hn5 hK5 hF5 T5 AP HR4 HW4
  go_wp2_with fail
  refine FL.out.mono ?_
  rintro e w6 ⟨rfl, hE6, hF6⟩
  have M6 := Lib.hid (show MoSt w w6 g0 c0 c1 c2 r d g m k5 F S5 t5 x5.flush F.length n5 from
    ⟨HR5.out.frame hF6 HRN.out HK5.out.1, hE6, HA.out, HS5.out, Nat.le_refl _, by omega, HK5.out.1, HK5.out.2, (hF6.block g0 (lt_of_row HR5'.out) (fun e => (HT5.out g0 (.inr e)).2 rfl)).trans HR5'.out, HB5.out.trans (hF6.below (fun i _ e => (HT5.out i (.inr e)).1) HB5.out.size)⟩)
  clear hE6 hF6 FL HR5 HR5' HB5 HA HS5
  have hc0' : w6.cell? ⟨g0, 0, none⟩ = some (.int .i64 c0) := by rw [cell_of_row w6 g0 0 _ _ _ M6.out.row]; rfl
  have FU := Lib.hid (fuse_any M6.out.E c0 hc0)
  go_wp2_with fail
  refine FU.out.mono ?_
  rintro e w7 ⟨rfl, hE7, hF7⟩
  have J7 := Lib.hid (show MoRel w g0 c0 c1 c2 r d g m F L.length (.int .i64 0) w7 from ⟨0, k5, S5, t5, _, F.length, n5, rfl, Nat.zero_le _, by have := HN5.out; omega,
    M6.out.R.frame hF7 HRN.out HK5.out.1, hE7, M6.out.ag.same rfl rfl, M6.out.sag, M6.out.lo, M6.out.hi, HK5.out.1, HK5.out.2, (hF7.block g0 (lt_of_row M6.out.row) (fun e => (HT5.out g0 (.inr e)).2 rfl)).trans M6.out.row, M6.out.be.trans (hF7.below (fun i _ e => (HT5.out i (.inr e)).1) M6.out.be.size)⟩)
  clear hE7 hF7 FU hc0' M6
  go_wp2_with fail
  go_loopw [62] (fun u wr => MoRel w g0 c0 c1 c2 r d g m F L.length u wr) (fun u _ => L.length - (intOf u).toNat)
  case atStart => exact J7.out
  case round =>
    obtain ⟨wo, rfl⟩ : ∃ wo : World, wo = wr := ⟨_, rfl⟩
    obtain ⟨j, k6, S6, t6, x6, tail, n6, rfl, hj, hn6, M⟩ := hrel
    have MM := Lib.hid M
    clear M
    by_cases hjl : j < L.length
    · have hji : (j : Int) < (L.length : Int) := by omega
      obtain ⟨ao', c', e', hc⟩ := HP.out.below MM.out.be (Nat.le_refl _)
      injection e' with e1 e2 e3
      subst e1 e3
      obtain ⟨a, rfl, aj, cj, hcell, hsl⟩ := hc j hjl
      obtain ⟨pt, hpt⟩ : ∃ pt, pt = L.getD j [] := ⟨_, rfl⟩
      rw [← hpt] at hcell hsl
      have HSL := Lib.hid hsl
      clear hc hsl hpt J7
      by_cases hp : 300 < pt.length
      · have hpi : (300 : Int) < (pt.length : Int) := by omega
        go_wp2_with fail
        go_ret
        exact ⟨rfl, by rw [HG.out]; exact MM.out.be⟩
      · have hpi : ¬ (300 : Int) < (pt.length : Int) := by omega
        obtain ⟨w8, hw8⟩ : ∃ w8, w8 = wo.alloc (.cells #[.slice aj pt.length cj] 32 (0, 0)) := ⟨_, rfl⟩
        have f8 : Below wo.heap.size wo w8 := by rw [hw8]; exact (Below.refl _ _).alloc (Nat.le_refl _) _
        have hP8 := one_parts HSL.out
        rw [← hw8] at hP8
        have eS : sumLen [pt] = pt.length := by simp [sumLen]
        have eF : [pt].flatten = pt := by simp
        have f08 : Below w.heap.size w w8 := MM.out.be.trans (f8.mono MM.out.be.size)
        have r8 := (f8.block g0 (lt_of_row MM.out.row)).trans MM.out.row
        have AP := Lib.hid (show Calls Try.prog 19 #[.pointer (some ⟨r, 0, none⟩), .int .u64 ((0 : Nat) : Int), .slice (some ⟨wo.heap.size, 0, none⟩) [pt].length 1] w8 (fun e w9 => ∃ z, e = .returned (.int .i64 z) ∧ MoRel w g0 c0 c1 c2 r d g m F L.length (.int .i64 ((j + 1 : Nat) : Int)) w9) from by
          refine (append_any (MM.out.R.below f8 (Nat.le_refl _)) (by have := MM.out.hi; omega) (MM.out.E.below f8 (Nat.le_refl _)) HRN.out MM.out.kn (by omega) 0 (by decide) _ 1 [pt] hP8 (by simp) (by rw [eS]; omega)).mono ?_
          rintro e w9 (⟨h1, rfl, q, rfl⟩ | ⟨h0, rfl, q, rfl⟩ | ⟨h1, h2, X, hX, rfl, hE9, hF9, hok, hbad⟩)
          · exact ⟨_, rfl, j + 1, k6, S6, t6, x6, tail, n6, rfl, by omega, by omega, (MM.out.R.below f8 (Nat.le_refl _)).keep rfl rfl, (MM.out.E.below f8 (Nat.le_refl _)).drewN q, MM.out.ag, MM.out.sag, MM.out.lo, MM.out.hi, MM.out.kn, MM.out.kb, r8, below_drewN f08 q⟩
          · exact ⟨_, rfl, j + 1, k6, S6, t6, x6, tail, n6, rfl, by omega, by omega, (MM.out.R.below f8 (Nat.le_refl _)).keep rfl rfl, (MM.out.E.below f8 (Nat.le_refl _)).drewN q, MM.out.ag, MM.out.sag, MM.out.lo, MM.out.hi, MM.out.kn, MM.out.kb, r8, below_drewN f08 q⟩
          · rw [eS] at h1 h2 hok
            rw [eF] at hX hE9 hok
            have hfit : tail + pt.length ≤ 640 := by
              exact left5 h2 h1
            obtain ⟨g1, g2⟩ := append_ag MM.out.ag MM.out.R.len MM.out.sag MM.out.lo h1 hfit _ rfl
            rw [← hX] at g1
            have hBl : (S6.take (tail % 128) ++ pt).length ≤ 428 := by rw [List.length_append, List.length_take]; omega
            have r9 := (hF9.block g0 (lt_of_row r8) (fun e => (HT5.out g0 e).2 rfl)).trans r8
            have f09 := f08.trans (hF9.below (fun i _ e => (HT5.out i e).1) f08.size)
            by_cases hx : X.2 = 0
            · obtain ⟨ks, hks, hR⟩ := hok hx
              have hkn : ¬ own3 d g m ks := fun h => by
                have h1 := (MM.out.E.below f8 (Nat.le_refl _)).dlt; have h2 := (MM.out.E.below f8 (Nat.le_refl _)).glt; have h3 := (MM.out.E.below f8 (Nat.le_refl _)).mlt
                rcases h with h | h | h <;> omega
              exact ⟨_, rfl, j + 1, ks, _, _, X.1, tail + pt.length, _, rfl, by omega, (show n6 + (S6.take (tail % 128) ++ pt).length ≤ 1000 * (j + 1 + 1) by omega), hR, hE9, g1, g2, by have := MM.out.lo; omega, hfit, hkn, by have := f08.size; omega, r9, f09⟩
            · exact ⟨_, rfl, j + 1, k6, S6, t6, X.1, tail, _, rfl, by omega, (show n6 + (S6.take (tail % 128) ++ pt).length ≤ 1000 * (j + 1 + 1) by omega), hbad hx, hE9, g1, MM.out.sag, MM.out.lo, MM.out.hi, MM.out.kn, MM.out.kb, r9, f09⟩)
        have HW8 := Lib.hid hw8
        clear f8 hP8 eS eF f08 r8 hw8
        go_wp2_with fail
        rw [← HW8.out]
        refine AP.out.mono ?_
        rintro e w9 ⟨z, rfl, hm⟩
        have RL := Lib.hid hm
        clear hm AP
        go_wp2_with fail
        exact ⟨RL.out, by simp [intOf]; omega⟩
    · obtain rfl : j = L.length := by omega
      have PN := Lib.hid (pending_any MM.out.E (by omega))
      clear J7
      go_wp2_with fail
      refine PN.out.mono ?_
      rintro e w8 ⟨v, ss, rfl, hps, hrow, hnil, hb8⟩
      have M8 := Lib.hid (MM.out.below hb8)
      have HPS := Lib.hid hps
      have HSS := Lib.hid (pend_few MM.out.ag hps)
      obtain ⟨av, cv, rfl, hlc, hI⟩ := ints_of hrow
      have HI := Lib.hid hI
      have HOLT := Lib.hid (show ∀ i, own3 d g m i → i < wo.heap.size from fun i h => h.elim (fun h => h ▸ MM.out.E.dlt) (fun h => h.elim (fun h => h ▸ MM.out.E.glt) (fun h => h ▸ MM.out.E.mlt)))
      have PN2 := Lib.hid (pending_any M8.out.E (by omega))
      have hc1' : w8.cell? ⟨g0, 1, none⟩ = some (.int .i64 c1) := by rw [cell_of_row w8 g0 1 _ _ _ M8.out.row]; rfl
      clear hps hrow hnil hb8 hI PN
      by_cases k1 : 0 ≤ c1
      · by_cases k2 : c1 < (ss.length : Int)
        · obtain ⟨kk, rfl⟩ : ∃ kk : Nat, c1 = (kk : Int) := ⟨c1.toNat, by omega⟩
          obtain ⟨gp, rfl, _⟩ := HI.out kk (by omega)
          go_wp2_with fail
          refine PN2.out.mono ?_
          rintro e w9 ⟨v2, ss2, rfl, hps2, hrow2, hnil2, hb9⟩
          obtain rfl := pend_eq hps2 HPS.out
          have M9 := Lib.hid (M8.out.below hb9)
          have HK := Lib.hid ((HI.out.below hb9 (Nat.le_refl _)).take kk)
          have hlk : (ss2.take kk).length = kk := by rw [List.length_take]; omega
          have WTR := ((HPS.out.2 _).1 (getD_mem (show kk < ss2.length by omega))).1
          obtain ⟨av2, cv2, rfl, hlc2, hI2⟩ := ints_of hrow2
          obtain ⟨gp2, rfl, _, _, hcell2⟩ := hI2 kk (by omega)
          have CR := Lib.hid (crash_any M9.out.E (fun i l _ hl => by have h1 := M9.out.ag.wl i l hl; simp [DS.has, M9.out.ag.n]; omega) (some ⟨gp, 0, none⟩) cv (ss2.take kk) (by have := HSS.out; omega) (fun jj hjj => by
            obtain ⟨gp', e1, e2, e3, e4⟩ := HK.out jj hjj
            refine ⟨_, e1, by rw [zadd]; exact e4, fun h => ?_⟩
            rw [zadd] at h
            have := HOLT.out gp' h
            omega) (fun z hz => ((HPS.out.2 z).1 (List.mem_of_mem_take hz)).1) (ss2.getD kk 0) c2 WTR hc2)
          rw [hlk] at CR
          have hc2' : w9.cell? ⟨g0, 2, none⟩ = some (.int .i64 c2) := by rw [cell_of_row w9 g0 2 _ _ _ M9.out.row]; rfl
          obtain ⟨hgood, hby⟩ := M9.out.ag.crash (ss2.take kk) (ss2.getD kk 0) c2
          have HGOOD := Lib.hid hgood
          have HBY := Lib.hid hby
          clear hgood hby hps2 hrow2 hnil2 hb9 PN2
          go_wp2_with fail
          refine CR.out.mono ?_
          rintro e w10 ⟨rfl, hE10, hF10⟩
          have hB10 := M9.out.be.trans (hF10.below (fun i _ e => (HT5.out i (.inr e)).1) M9.out.be.size)
          have UP := Lib.hid (up_any hE10)
          clear hE10 hF10 CR hc2'
          go_wp2_with fail
          refine UP.out.mono ?_
          rintro e w11 ⟨rfl, hE11, hF11⟩
          have hB11 := hB10.trans (hF11.below (fun i _ e => (HT5.out i (.inr e)).1) hB10.size)
          have hS11 := HSF.out.below hB11
          generalize hx : (DS.crash _ (ss2.take kk) (ss2.getD kk 0) c2).up = y at hE11 HGOOD HBY
          have hK11 := keeps_open0 (first := 1) (count := 5) (text := F) HGOOD.out (fun i hi _ => by
            unfold byteAt
            rw [sec5 (by omega)]
            exact HBY.out i hi) (by decide) (by decide)
          have OP := Lib.hid (open_good hE11 1 5 F.length (by decide) (by rw [HGOOD.out.n]; decide) (by omega) (HGOOD.out.read (sec_lt (by decide) (by decide) _)).1)
          generalize hS : (y.read (sec 1 5 F.length : Nat)).1 = S12 at hK11 OP
          have HE11 := Lib.hid hE11
          have HK11 := Lib.hid hK11
          have HB11 := Lib.hid hB11
          clear hE11 hF11 hB10 hB11 UP hx hS hS11 hK11 HBY
          have hwu : IntKind.u64.wrap (F.length : Int) = (F.length : Int) := by rw [IntKind.wrap_u64]; omega
          go_wp2_with fail
          refine OP.out.mono ?_
          rintro e w12 ⟨r3, k3, rfl, hR12, hb12, hr3, hk3⟩
          clear hwu
          have HE12 := Lib.hid (HE11.out.below hb12 (Nat.le_refl _))
          have HB12 := Lib.hid (HB11.out.trans (hb12.mono HB11.out.size))
          have HR12 := Lib.hid hR12
          have N3 := Lib.hid (show ¬ own3 d g m r3 ∧ ¬ own3 d g m k3 ∧ w.heap.size ≤ r3 ∧ w.heap.size ≤ k3 from by
            have h1 := HE11.out.dlt; have h2 := HE11.out.glt; have h3 := HE11.out.mlt; have h4 := HB11.out.size
            refine ⟨fun h => ?_, fun h => ?_, by omega, by omega⟩ <;> rcases h with h | h | h <;> omega)
          have RD := Lib.hid (read_keeps HR12.out (by omega) HE12.out HK11.out (by decide) 0 F.length (by omega) (by unfold thereN; split <;> omega))
          rw [List.drop_zero, List.take_length] at RD
          clear hR12 hb12 hr3 hk3 OP
          go_wp2_with fail
          refine RD.out.mono ?_
          rintro e w13 ⟨kb, cb, rfl, hrow, hkb, hb13⟩
          have HE13 := Lib.hid (HE12.out.below hb13 (Nat.le_refl _))
          have HR13 := Lib.hid (HR12.out.below hb13 (Nat.le_refl _))
          have HB13 := Lib.hid (HB12.out.trans (hb13.mono HB12.out.size))
          have cB := (sl_row (n := F.length) (c := cb) hrow rfl).convert.1
          have cA := (HSF.out.below HB13.out).convert.1
          clear hrow hkb hb13 RD
          go_wp2_with fail
          have hmk : (convert 32 32 (.slice (some ⟨w13.heap.size, 0, none⟩) 6 6)).run Try.prog (w13.alloc (.cells #[.int .u8 98, .int .u8 101, .int .u8 104, .int .u8 105, .int .u8 110, .int .u8 100] 5)) = .ok (.slice (some ⟨w13.heap.size, 0, none⟩) 6 6) ((w13.alloc (.cells #[.int .u8 98, .int .u8 101, .int .u8 104, .int .u8 105, .int .u8 110, .int .u8 100] 5)).freeze ⟨w13.heap.size, 6, none⟩ 1) := run_mark (heap_alloc_new _ _)
          obtain ⟨mk, hmr⟩ := freeze_row (w := w13.alloc (.cells #[.int .u8 98, .int .u8 101, .int .u8 104, .int .u8 105, .int .u8 110, .int .u8 100] 5)) (heap_alloc_new w13 _) 6
          have fB : Below w13.heap.size w13 ((w13.alloc (.cells #[.int .u8 98, .int .u8 101, .int .u8 104, .int .u8 105, .int .u8 110, .int .u8 100] 5)).freeze ⟨w13.heap.size, 6, none⟩ 1) := ((Below.refl _ w13).alloc (Nat.le_refl _) _).trans (((frm_freeze _ w13.heap.size 6).below (B := w13.heap.size) (fun i _ e => by omega) ((Below.refl _ w13).alloc (Nat.le_refl _) _).size))
          obtain ⟨wB, hwB⟩ : ∃ wB, wB = ((w13.alloc (.cells #[.int .u8 98, .int .u8 101, .int .u8 104, .int .u8 105, .int .u8 110, .int .u8 100] 5)).freeze ⟨w13.heap.size, 6, none⟩ 1) := ⟨_, rfl⟩
          rw [← hwB] at hmk hmr fB
          have hslB : Sl wB (.slice (some ⟨w13.heap.size, 0, none⟩) 6 6) behind6 := sl_row' (l := behind6) hmr rfl
          have hP14 := one_parts hslB
          obtain ⟨w14, hw14⟩ : ∃ w14, w14 = wB.alloc (.cells #[.slice (some ⟨w13.heap.size, 0, none⟩) 6 6] 32 (0, 0)) := ⟨_, rfl⟩
          rw [← hw14] at hP14
          have f14 : Below w13.heap.size w13 w14 := by rw [hw14]; exact fB.alloc fB.size _
          have AP := Lib.hid (append_keeps (HR13.out.below f14 (Nat.le_refl _)) (by omega) (HE13.out.below f14 (Nat.le_refl _)) HK11.out (by decide) N3.out.1 N3.out.2.1 (by omega) 0 (by decide) _ 1 [behind6] hP14 (by simp) (by decide) (left5b (by omega)))
          rw [show [behind6].flatten = behind6 by simp] at AP
          have HB14 := Lib.hid (HB13.out.trans (f14.mono HB13.out.size))
          have HW14 := Lib.hid hw14
          clear fB hslB hP14 f14 hmr hwB hw14 cA cB
          go_wp2_with fail
          rw [hmk]
          go_wp2_with fail
          rw [← HW14.out]
          refine AP.out.mono ?_
          rintro e w15 ⟨rfl, k15, S15, t15, x15, n15, hR15, _, _, _, hE15, _, hK15, hF15⟩
          have HB15 := Lib.hid (HB14.out.trans (hF15.below (fun i _ e => by rcases e with e | e; (exact e ▸ N3.out.2.2.1); exact (HT5.out i (.inr e)).1) HB14.out.size))
          have hl15 : (F ++ behind6).length = F.length + 6 := by simp [behind6]
          have RD := Lib.hid (read_keeps hR15 (by omega) hE15 hK15 (by decide) 0 (F.length + 6) (by omega) (by rw [hl15]; unfold thereN; split <;> omega))
          rw [List.drop_zero, show (F ++ behind6).take (F.length + 6) = F ++ behind6 from List.take_of_length_le (by rw [hl15]; exact Nat.le_refl _), show ((F.length + 6 : Nat) : Int) = (F.length : Int) + 6 from rfl] at RD
          clear hR15 hE15 hK15 hF15 AP hmk
          go_wp2_with fail
          refine RD.out.mono ?_
          rintro e w16 ⟨kc, cc, rfl, hrow, hkc, hb16⟩
          have HB16 := Lib.hid (HB15.out.trans (hb16.mono HB15.out.size))
          have cB := (sl_row (n := F.length + 6) (c := cc) hrow hl15).convert.1
          rw [str_append, show str behind6 = ⟨#[98, 101, 104, 105, 110, 100]⟩ by kernel_rfl] at cB
          have cA := (HSF.out.below HB16.out).convert.1
          have hss : ¬ 9223372036854775807 < (str F).size + 6 := str_small (by omega)
          clear hrow hkc hb16 RD hl15
          go_wp2_with fail
          go_ret
          exact ⟨by simp, by rw [HG.out]; exact HB16.out⟩
        · go_wp2_with fail
          refine PN2.out.mono ?_
          rintro e w9 ⟨v2, ss2, rfl, hps2, hrow2, hnil2, hb9⟩
          obtain rfl := pend_eq hps2 HPS.out
          have M9 := Lib.hid (M8.out.below hb9)
          have HK := Lib.hid (HI.out.below hb9 (Nat.le_refl _))
          obtain ⟨av2, cv2, rfl, hlc2, hI2⟩ := ints_of hrow2
          have hll : ¬ (ss2.length : Int) < (ss2.length : Int) := by omega
          clear hI2
          have CR := Lib.hid (crash_any M9.out.E (fun i l _ hl => by have h1 := M9.out.ag.wl i l hl; simp [DS.has, M9.out.ag.n]; omega) av cv ss2 (by have := HSS.out; omega) (fun jj hjj => by
            obtain ⟨gp', e1, e2, e3, e4⟩ := HK.out jj hjj
            refine ⟨_, e1, by rw [zadd]; exact e4, fun h => ?_⟩
            rw [zadd] at h
            have := HOLT.out gp' h
            omega) (fun z hz => ((HPS.out.2 z).1 hz).1) (-1) c2 (by unfold wfi; decide) hc2)
          have hc2' : w9.cell? ⟨g0, 2, none⟩ = some (.int .i64 c2) := by rw [cell_of_row w9 g0 2 _ _ _ M9.out.row]; rfl
          obtain ⟨hgood, hby⟩ := M9.out.ag.crash ss2 (-1) c2
          have HGOOD := Lib.hid hgood
          have HBY := Lib.hid hby
          clear hgood hby hps2 hrow2 hnil2 hb9 PN2
          go_wp2_with fail
          refine CR.out.mono ?_
          rintro e w10 ⟨rfl, hE10, hF10⟩
          have hB10 := M9.out.be.trans (hF10.below (fun i _ e => (HT5.out i (.inr e)).1) M9.out.be.size)
          have UP := Lib.hid (up_any hE10)
          clear hE10 hF10 CR hc2'
          go_wp2_with fail
          refine UP.out.mono ?_
          rintro e w11 ⟨rfl, hE11, hF11⟩
          have hB11 := hB10.trans (hF11.below (fun i _ e => (HT5.out i (.inr e)).1) hB10.size)
          have hS11 := HSF.out.below hB11
          generalize hx : (DS.crash _ ss2 (-1) c2).up = y at hE11 HGOOD HBY
          have hK11 := keeps_open0 (first := 1) (count := 5) (text := F) HGOOD.out (fun i hi _ => by
            unfold byteAt
            rw [sec5 (by omega)]
            exact HBY.out i hi) (by decide) (by decide)
          have OP := Lib.hid (open_good hE11 1 5 F.length (by decide) (by rw [HGOOD.out.n]; decide) (by omega) (HGOOD.out.read (sec_lt (by decide) (by decide) _)).1)
          generalize hS : (y.read (sec 1 5 F.length : Nat)).1 = S12 at hK11 OP
          have HE11 := Lib.hid hE11
          have HK11 := Lib.hid hK11
          have HB11 := Lib.hid hB11
          clear hE11 hF11 hB10 hB11 UP hx hS hS11 hK11 HBY
          have hwu : IntKind.u64.wrap (F.length : Int) = (F.length : Int) := by rw [IntKind.wrap_u64]; omega
          go_wp2_with fail
          refine OP.out.mono ?_
          rintro e w12 ⟨r3, k3, rfl, hR12, hb12, hr3, hk3⟩
          clear hwu
          have HE12 := Lib.hid (HE11.out.below hb12 (Nat.le_refl _))
          have HB12 := Lib.hid (HB11.out.trans (hb12.mono HB11.out.size))
          have HR12 := Lib.hid hR12
          have N3 := Lib.hid (show ¬ own3 d g m r3 ∧ ¬ own3 d g m k3 ∧ w.heap.size ≤ r3 ∧ w.heap.size ≤ k3 from by
            have h1 := HE11.out.dlt; have h2 := HE11.out.glt; have h3 := HE11.out.mlt; have h4 := HB11.out.size
            refine ⟨fun h => ?_, fun h => ?_, by omega, by omega⟩ <;> rcases h with h | h | h <;> omega)
          have RD := Lib.hid (read_keeps HR12.out (by omega) HE12.out HK11.out (by decide) 0 F.length (by omega) (by unfold thereN; split <;> omega))
          rw [List.drop_zero, List.take_length] at RD
          clear hR12 hb12 hr3 hk3 OP
          go_wp2_with fail
          refine RD.out.mono ?_
          rintro e w13 ⟨kb, cb, rfl, hrow, hkb, hb13⟩
          have HE13 := Lib.hid (HE12.out.below hb13 (Nat.le_refl _))
          have HR13 := Lib.hid (HR12.out.below hb13 (Nat.le_refl _))
          have HB13 := Lib.hid (HB12.out.trans (hb13.mono HB12.out.size))
          have cB := (sl_row (n := F.length) (c := cb) hrow rfl).convert.1
          have cA := (HSF.out.below HB13.out).convert.1
          clear hrow hkb hb13 RD
          go_wp2_with fail
          have hmk : (convert 32 32 (.slice (some ⟨w13.heap.size, 0, none⟩) 6 6)).run Try.prog (w13.alloc (.cells #[.int .u8 98, .int .u8 101, .int .u8 104, .int .u8 105, .int .u8 110, .int .u8 100] 5)) = .ok (.slice (some ⟨w13.heap.size, 0, none⟩) 6 6) ((w13.alloc (.cells #[.int .u8 98, .int .u8 101, .int .u8 104, .int .u8 105, .int .u8 110, .int .u8 100] 5)).freeze ⟨w13.heap.size, 6, none⟩ 1) := run_mark (heap_alloc_new _ _)
          obtain ⟨mk, hmr⟩ := freeze_row (w := w13.alloc (.cells #[.int .u8 98, .int .u8 101, .int .u8 104, .int .u8 105, .int .u8 110, .int .u8 100] 5)) (heap_alloc_new w13 _) 6
          have fB : Below w13.heap.size w13 ((w13.alloc (.cells #[.int .u8 98, .int .u8 101, .int .u8 104, .int .u8 105, .int .u8 110, .int .u8 100] 5)).freeze ⟨w13.heap.size, 6, none⟩ 1) := ((Below.refl _ w13).alloc (Nat.le_refl _) _).trans (((frm_freeze _ w13.heap.size 6).below (B := w13.heap.size) (fun i _ e => by omega) ((Below.refl _ w13).alloc (Nat.le_refl _) _).size))
          obtain ⟨wB, hwB⟩ : ∃ wB, wB = ((w13.alloc (.cells #[.int .u8 98, .int .u8 101, .int .u8 104, .int .u8 105, .int .u8 110, .int .u8 100] 5)).freeze ⟨w13.heap.size, 6, none⟩ 1) := ⟨_, rfl⟩
          rw [← hwB] at hmk hmr fB
          have hslB : Sl wB (.slice (some ⟨w13.heap.size, 0, none⟩) 6 6) behind6 := sl_row' (l := behind6) hmr rfl
          have hP14 := one_parts hslB
          obtain ⟨w14, hw14⟩ : ∃ w14, w14 = wB.alloc (.cells #[.slice (some ⟨w13.heap.size, 0, none⟩) 6 6] 32 (0, 0)) := ⟨_, rfl⟩
          rw [← hw14] at hP14
          have f14 : Below w13.heap.size w13 w14 := by rw [hw14]; exact fB.alloc fB.size _
          have AP := Lib.hid (append_keeps (HR13.out.below f14 (Nat.le_refl _)) (by omega) (HE13.out.below f14 (Nat.le_refl _)) HK11.out (by decide) N3.out.1 N3.out.2.1 (by omega) 0 (by decide) _ 1 [behind6] hP14 (by simp) (by decide) (left5b (by omega)))
          rw [show [behind6].flatten = behind6 by simp] at AP
          have HB14 := Lib.hid (HB13.out.trans (f14.mono HB13.out.size))
          have HW14 := Lib.hid hw14
          clear fB hslB hP14 f14 hmr hwB hw14 cA cB
          go_wp2_with fail
          rw [hmk]
          go_wp2_with fail
          rw [← HW14.out]
          refine AP.out.mono ?_
          rintro e w15 ⟨rfl, k15, S15, t15, x15, n15, hR15, _, _, _, hE15, _, hK15, hF15⟩
          have HB15 := Lib.hid (HB14.out.trans (hF15.below (fun i _ e => by rcases e with e | e; (exact e ▸ N3.out.2.2.1); exact (HT5.out i (.inr e)).1) HB14.out.size))
          have hl15 : (F ++ behind6).length = F.length + 6 := by simp [behind6]
          have RD := Lib.hid (read_keeps hR15 (by omega) hE15 hK15 (by decide) 0 (F.length + 6) (by omega) (by rw [hl15]; unfold thereN; split <;> omega))
          rw [List.drop_zero, show (F ++ behind6).take (F.length + 6) = F ++ behind6 from List.take_of_length_le (by rw [hl15]; exact Nat.le_refl _), show ((F.length + 6 : Nat) : Int) = (F.length : Int) + 6 from rfl] at RD
          clear hR15 hE15 hK15 hF15 AP hmk
          go_wp2_with fail
          refine RD.out.mono ?_
          rintro e w16 ⟨kc, cc, rfl, hrow, hkc, hb16⟩
          have HB16 := Lib.hid (HB15.out.trans (hb16.mono HB15.out.size))
          have cB := (sl_row (n := F.length + 6) (c := cc) hrow hl15).convert.1
          rw [str_append, show str behind6 = ⟨#[98, 101, 104, 105, 110, 100]⟩ by kernel_rfl] at cB
          have cA := (HSF.out.below HB16.out).convert.1
          have hss : ¬ 9223372036854775807 < (str F).size + 6 := str_small (by omega)
          clear hrow hkc hb16 RD hl15
          go_wp2_with fail
          go_ret
          exact ⟨by simp, by rw [HG.out]; exact HB16.out⟩
      · go_wp2_with fail
        refine PN2.out.mono ?_
        rintro e w9 ⟨v2, ss2, rfl, hps2, hrow2, hnil2, hb9⟩
        obtain rfl := pend_eq hps2 HPS.out
        have M9 := Lib.hid (M8.out.below hb9)
        have HK := Lib.hid (HI.out.below hb9 (Nat.le_refl _))
        obtain ⟨av2, cv2, rfl, hlc2, hI2⟩ := ints_of hrow2
        have hll : ¬ (ss2.length : Int) < (ss2.length : Int) := by omega
        clear hI2
        have CR := Lib.hid (crash_any M9.out.E (fun i l _ hl => by have h1 := M9.out.ag.wl i l hl; simp [DS.has, M9.out.ag.n]; omega) av cv ss2 (by have := HSS.out; omega) (fun jj hjj => by
          obtain ⟨gp', e1, e2, e3, e4⟩ := HK.out jj hjj
          refine ⟨_, e1, by rw [zadd]; exact e4, fun h => ?_⟩
          rw [zadd] at h
          have := HOLT.out gp' h
          omega) (fun z hz => ((HPS.out.2 z).1 hz).1) (-1) c2 (by unfold wfi; decide) hc2)
        have hc2' : w9.cell? ⟨g0, 2, none⟩ = some (.int .i64 c2) := by rw [cell_of_row w9 g0 2 _ _ _ M9.out.row]; rfl
        obtain ⟨hgood, hby⟩ := M9.out.ag.crash ss2 (-1) c2
        have HGOOD := Lib.hid hgood
        have HBY := Lib.hid hby
        clear hgood hby hps2 hrow2 hnil2 hb9 PN2
        go_wp2_with fail
        refine CR.out.mono ?_
        rintro e w10 ⟨rfl, hE10, hF10⟩
        have hB10 := M9.out.be.trans (hF10.below (fun i _ e => (HT5.out i (.inr e)).1) M9.out.be.size)
        have UP := Lib.hid (up_any hE10)
        clear hE10 hF10 CR hc2'
        go_wp2_with fail
        refine UP.out.mono ?_
        rintro e w11 ⟨rfl, hE11, hF11⟩
        have hB11 := hB10.trans (hF11.below (fun i _ e => (HT5.out i (.inr e)).1) hB10.size)
        have hS11 := HSF.out.below hB11
        generalize hx : (DS.crash _ ss2 (-1) c2).up = y at hE11 HGOOD HBY
        have hK11 := keeps_open0 (first := 1) (count := 5) (text := F) HGOOD.out (fun i hi _ => by
          unfold byteAt
          rw [sec5 (by omega)]
          exact HBY.out i hi) (by decide) (by decide)
        have OP := Lib.hid (open_good hE11 1 5 F.length (by decide) (by rw [HGOOD.out.n]; decide) (by omega) (HGOOD.out.read (sec_lt (by decide) (by decide) _)).1)
        generalize hS : (y.read (sec 1 5 F.length : Nat)).1 = S12 at hK11 OP
        have HE11 := Lib.hid hE11
        have HK11 := Lib.hid hK11
        have HB11 := Lib.hid hB11
        clear hE11 hF11 hB10 hB11 UP hx hS hS11 hK11 HBY
        have hwu : IntKind.u64.wrap (F.length : Int) = (F.length : Int) := by rw [IntKind.wrap_u64]; omega
        go_wp2_with fail
        refine OP.out.mono ?_
        rintro e w12 ⟨r3, k3, rfl, hR12, hb12, hr3, hk3⟩
        clear hwu
        have HE12 := Lib.hid (HE11.out.below hb12 (Nat.le_refl _))
        have HB12 := Lib.hid (HB11.out.trans (hb12.mono HB11.out.size))
        have HR12 := Lib.hid hR12
        have N3 := Lib.hid (show ¬ own3 d g m r3 ∧ ¬ own3 d g m k3 ∧ w.heap.size ≤ r3 ∧ w.heap.size ≤ k3 from by
          have h1 := HE11.out.dlt; have h2 := HE11.out.glt; have h3 := HE11.out.mlt; have h4 := HB11.out.size
          refine ⟨fun h => ?_, fun h => ?_, by omega, by omega⟩ <;> rcases h with h | h | h <;> omega)
        have RD := Lib.hid (read_keeps HR12.out (by omega) HE12.out HK11.out (by decide) 0 F.length (by omega) (by unfold thereN; split <;> omega))
        rw [List.drop_zero, List.take_length] at RD
        clear hR12 hb12 hr3 hk3 OP
        go_wp2_with fail
        refine RD.out.mono ?_
        rintro e w13 ⟨kb, cb, rfl, hrow, hkb, hb13⟩
        have HE13 := Lib.hid (HE12.out.below hb13 (Nat.le_refl _))
        have HR13 := Lib.hid (HR12.out.below hb13 (Nat.le_refl _))
        have HB13 := Lib.hid (HB12.out.trans (hb13.mono HB12.out.size))
        have cB := (sl_row (n := F.length) (c := cb) hrow rfl).convert.1
        have cA := (HSF.out.below HB13.out).convert.1
        clear hrow hkb hb13 RD
        go_wp2_with fail
        have hmk : (convert 32 32 (.slice (some ⟨w13.heap.size, 0, none⟩) 6 6)).run Try.prog (w13.alloc (.cells #[.int .u8 98, .int .u8 101, .int .u8 104, .int .u8 105, .int .u8 110, .int .u8 100] 5)) = .ok (.slice (some ⟨w13.heap.size, 0, none⟩) 6 6) ((w13.alloc (.cells #[.int .u8 98, .int .u8 101, .int .u8 104, .int .u8 105, .int .u8 110, .int .u8 100] 5)).freeze ⟨w13.heap.size, 6, none⟩ 1) := run_mark (heap_alloc_new _ _)
        obtain ⟨mk, hmr⟩ := freeze_row (w := w13.alloc (.cells #[.int .u8 98, .int .u8 101, .int .u8 104, .int .u8 105, .int .u8 110, .int .u8 100] 5)) (heap_alloc_new w13 _) 6
        have fB : Below w13.heap.size w13 ((w13.alloc (.cells #[.int .u8 98, .int .u8 101, .int .u8 104, .int .u8 105, .int .u8 110, .int .u8 100] 5)).freeze ⟨w13.heap.size, 6, none⟩ 1) := ((Below.refl _ w13).alloc (Nat.le_refl _) _).trans (((frm_freeze _ w13.heap.size 6).below (B := w13.heap.size) (fun i _ e => by omega) ((Below.refl _ w13).alloc (Nat.le_refl _) _).size))
        obtain ⟨wB, hwB⟩ : ∃ wB, wB = ((w13.alloc (.cells #[.int .u8 98, .int .u8 101, .int .u8 104, .int .u8 105, .int .u8 110, .int .u8 100] 5)).freeze ⟨w13.heap.size, 6, none⟩ 1) := ⟨_, rfl⟩
        rw [← hwB] at hmk hmr fB
        have hslB : Sl wB (.slice (some ⟨w13.heap.size, 0, none⟩) 6 6) behind6 := sl_row' (l := behind6) hmr rfl
        have hP14 := one_parts hslB
        obtain ⟨w14, hw14⟩ : ∃ w14, w14 = wB.alloc (.cells #[.slice (some ⟨w13.heap.size, 0, none⟩) 6 6] 32 (0, 0)) := ⟨_, rfl⟩
        rw [← hw14] at hP14
        have f14 : Below w13.heap.size w13 w14 := by rw [hw14]; exact fB.alloc fB.size _
        have AP := Lib.hid (append_keeps (HR13.out.below f14 (Nat.le_refl _)) (by omega) (HE13.out.below f14 (Nat.le_refl _)) HK11.out (by decide) N3.out.1 N3.out.2.1 (by omega) 0 (by decide) _ 1 [behind6] hP14 (by simp) (by decide) (left5b (by omega)))
        rw [show [behind6].flatten = behind6 by simp] at AP
        have HB14 := Lib.hid (HB13.out.trans (f14.mono HB13.out.size))
        have HW14 := Lib.hid hw14
        clear fB hslB hP14 f14 hmr hwB hw14 cA cB
        go_wp2_with fail
        rw [hmk]
        go_wp2_with fail
        rw [← HW14.out]
        refine AP.out.mono ?_
        rintro e w15 ⟨rfl, k15, S15, t15, x15, n15, hR15, _, _, _, hE15, _, hK15, hF15⟩
        have HB15 := Lib.hid (HB14.out.trans (hF15.below (fun i _ e => by rcases e with e | e; (exact e ▸ N3.out.2.2.1); exact (HT5.out i (.inr e)).1) HB14.out.size))
        have hl15 : (F ++ behind6).length = F.length + 6 := by simp [behind6]
        have RD := Lib.hid (read_keeps hR15 (by omega) hE15 hK15 (by decide) 0 (F.length + 6) (by omega) (by rw [hl15]; unfold thereN; split <;> omega))
        rw [List.drop_zero, show (F ++ behind6).take (F.length + 6) = F ++ behind6 from List.take_of_length_le (by rw [hl15]; exact Nat.le_refl _), show ((F.length + 6 : Nat) : Int) = (F.length : Int) + 6 from rfl] at RD
        clear hR15 hE15 hK15 hF15 AP hmk
        go_wp2_with fail
        refine RD.out.mono ?_
        rintro e w16 ⟨kc, cc, rfl, hrow, hkc, hb16⟩
        have HB16 := Lib.hid (HB15.out.trans (hb16.mono HB15.out.size))
        have cB := (sl_row (n := F.length + 6) (c := cc) hrow hl15).convert.1
        rw [str_append, show str behind6 = ⟨#[98, 101, 104, 105, 110, 100]⟩ by kernel_rfl] at cB
        have cA := (HSF.out.below HB16.out).convert.1
        have hss : ¬ 9223372036854775807 < (str F).size + 6 := str_small (by omega)
        clear hrow hkc hb16 RD hl15
        go_wp2_with fail
        go_ret
        exact ⟨by simp, by rw [HG.out]; exact HB16.out⟩
end Go.Proofs.Ytllnaocnojhlkaa.Dk
