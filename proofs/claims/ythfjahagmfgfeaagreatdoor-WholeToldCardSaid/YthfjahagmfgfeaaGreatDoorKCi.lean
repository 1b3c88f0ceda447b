/- Parse. -/
import Derived.Test.YthfjahagmfgfeaaGreatDoorKCh
import Derived.RegionTactic
import Derived.ChangeAlike
import Derived.BigRegion
namespace Go.Proofs.YthfjahagmfgfeaaGreatDoor.Cr
open Go Go.RowKit
set_option linter.unusedVariables false
set_option linter.unusedSimpArgs false
def reachL : List (Nat × Nat) := [(0, 59), (0, 23), (1, 31), (1, 12), (0, 6)]
/-- A text's fields: the error, the fields. -/
def pfs : List (List UInt8) → List (Nat × Nat) → Int × List (List Nat × Bool)
  | p :: ps, r :: rs => if (fieldR p r.1 r.2).1 ≠ 0 then ((fieldR p r.1 r.2).1, []) else if (pfs ps rs).1 ≠ 0 then ((pfs ps rs).1, []) else (0, ((fieldR p r.1 r.2).2, decide (p = [42])) :: (pfs ps rs).2)
  | _, _ => (0, [])
/-- What Parse answers: the error, the fields. -/
def parseM (l : List UInt8) : Int × List (List Nat × Bool) :=
  if 128 < l.length then (2, []) else if (splitL 32 l).length ≠ 5 then (40, []) else pfs (splitL 32 l) reachL
theorem pfR_bd : ∀ (P : List (List UInt8)) (lo hi : Nat), 0 ≤ (pfR P lo hi).1 ∧ (pfR P lo hi).1 ≤ 8
  | [], lo, hi => by simp [pfR]
  | p :: ps, lo, hi => by
    rw [pfR]
    split
    · exact ppR_bd p lo hi
    · split
      · exact pfR_bd ps lo hi
      · simp
theorem pfR_lt {lo hi : Nat} (hhi : hi ≤ 63) : ∀ (P : List (List UInt8)), ∀ n ∈ (pfR P lo hi).2, n < 64
  | [], n, h => by simp [pfR] at h
  | p :: ps, n, h => by
    rw [pfR] at h
    split at h
    · cases h
    · split at h
      · cases h
      · rcases List.mem_append.1 h with h | h
        · exact ppR_lt p lo hi hhi n h
        · exact pfR_lt hhi ps n h
/-- A row of a Spec. -/
def specL : List (Nat × Bool) → List Value
  | [] => []
  | f :: F => .int .u64 (f.1 : Int) :: .bool f.2 :: specL F
def specRow (S : ByteArray) (F : List (Nat × Bool)) : List Value := .string S :: specL F
theorem specL_length : ∀ F, (specL F).length = 2 * F.length
  | [] => rfl
  | f :: F => by simp only [specL, List.length_cons, specL_length F]; omega
theorem specL_get : ∀ (F : List (Nat × Bool)) (k : Nat), k < F.length → (specL F)[2 * k]? = some (.int .u64 ((F.getD k (0, false)).1 : Int)) ∧ (specL F)[2 * k + 1]? = some (.bool (F.getD k (0, false)).2)
  | f :: F, 0, _ => by simp [specL]
  | f :: F, k + 1, h => by
    have := specL_get F k (by simpa using h)
    simp only [specL, show 2 * (k + 1) = 2 * k + 1 + 1 by omega, List.getElem?_cons_succ]
    simpa using this
theorem specL_set : ∀ (F : List (Nat × Bool)) (k : Nat) (m : Nat) (b : Bool), specL (F.set k (m, b)) = ((specL F).set (2 * k) (.int .u64 (m : Int))).set (2 * k + 1) (.bool b)
  | [], k, m, b => by simp [specL]
  | f :: F, 0, m, b => by simp [specL]
  | f :: F, k + 1, m, b => by
    simp only [List.set_cons_succ, specL, show 2 * (k + 1) = 2 * k + 1 + 1 by omega, specL_set F k m b]
theorem specRow_set (S : ByteArray) (F : List (Nat × Bool)) (k m : Nat) (b : Bool) : specRow S (F.set k (m, b)) = ((specRow S F).set (2 * k + 1) (.int .u64 (m : Int))).set (2 * k + 2) (.bool b) := by
  unfold specRow
  rw [specL_set]
  rfl
def fm (D : List (List Nat × Bool)) : List (Nat × Bool) := D.map fun d => (mask d.1, d.2)
/-- The fields that were read, and what is left. -/
def PsSt (P : List (List UInt8)) (k : Nat) (D : List (List Nat × Bool)) (F : List (Nat × Bool)) : Prop :=
  k ≤ 5 ∧ P.length = 5 ∧ D.length = k ∧ F.length = 5 ∧ F.take k = fm D ∧ (∀ d ∈ D, ∀ n ∈ d.1, n < 64) ∧
  pfs P reachL = if (pfs (P.drop k) (reachL.drop k)).1 ≠ 0 then ((pfs (P.drop k) (reachL.drop k)).1, []) else (0, D ++ (pfs (P.drop k) (reachL.drop k)).2)
theorem reachL_drop {k : Nat} (hk : k < 5) : reachL.drop k = reachL.getD k (0, 0) :: reachL.drop (k + 1) := by
  rw [List.drop_eq_getElem_cons (show k < reachL.length from hk)]
  simp [List.getD, show k < reachL.length from hk]
theorem reachL_bd {k : Nat} (hk : k < 5) : (reachL.getD k (0, 0)).1 ≤ 63 ∧ (reachL.getD k (0, 0)).2 ≤ 63 := by
  obtain rfl | rfl | rfl | rfl | rfl : k = 0 ∨ k = 1 ∨ k = 2 ∨ k = 3 ∨ k = 4 := by omega
  all_goals simp [reachL, List.getD]
theorem CT.span {w : World} (h : CT w) {k : Nat} (hk : k < 5) : w.cell? ⟨0, k * 2, none⟩ = some (.int .i64 ((reachL.getD k (0, 0)).1 : Int)) ∧ w.cell? ⟨0, k * 2 + 1, none⟩ = some (.int .i64 ((reachL.getD k (0, 0)).2 : Int)) := by
  obtain rfl | rfl | rfl | rfl | rfl : k = 0 ∨ k = 1 ∨ k = 2 ∨ k = 3 ∨ k = 4 := by omega
  all_goals exact ⟨h.reach _ _ rfl, h.reach _ _ rfl⟩
def zF : List (Nat × Bool) := [(0, false), (0, false), (0, false), (0, false), (0, false)]
theorem PsSt.zero {P : List (List UInt8)} (hP : P.length = 5) : PsSt P 0 [] zF := by
  refine ⟨by decide, hP, rfl, rfl, rfl, fun d hd => (by cases hd), ?_⟩
  rw [List.drop_zero, List.drop_zero]
  have key : ∀ X : Int × List (List Nat × Bool), (X.1 ≠ 0 → X.2 = []) → X = if X.1 ≠ 0 then (X.1, []) else (0, [] ++ X.2) := by
    intro X h
    obtain ⟨a, b⟩ := X
    by_cases h0 : a = 0
    · subst h0; simp
    · rw [if_pos h0]; have := h h0; dsimp only at this; rw [this]
  refine key _ ?_
  have : ∀ (P : List (List UInt8)) (R : List (Nat × Nat)), (pfs P R).1 ≠ 0 → (pfs P R).2 = [] := by
    intro P R h
    cases P with
    | nil => simp [pfs] at h
    | cons p ps => cases R with
      | nil => simp [pfs] at h
      | cons r rs =>
        rw [pfs] at h ⊢
        split
        · rfl
        · split
          · rfl
          · rename_i h1 h2; rw [if_neg h1, if_neg h2] at h; exact absurd rfl h
  exact this P reachL
theorem PsSt.drop {P : List (List UInt8)} {k : Nat} {D : List (List Nat × Bool)} {F : List (Nat × Bool)} (h : PsSt P k D F) (hk : k < 5) : P.drop k = P.getD k [] :: P.drop (k + 1) := by
  have hl : k < P.length := by rw [h.2.1]; exact hk
  rw [List.drop_eq_getElem_cons hl]; simp [List.getD, hl]
theorem PsSt.bad {P : List (List UInt8)} {k : Nat} {D : List (List Nat × Bool)} {F : List (Nat × Bool)} (h : PsSt P k D F) (hk : k < 5) (he : (fieldR (P.getD k []) (reachL.getD k (0, 0)).1 (reachL.getD k (0, 0)).2).1 ≠ 0) :
    pfs P reachL = ((fieldR (P.getD k []) (reachL.getD k (0, 0)).1 (reachL.getD k (0, 0)).2).1, []) := by
  rw [h.2.2.2.2.2.2, h.drop hk, reachL_drop hk, pfs, if_pos he, if_pos he]
theorem PsSt.next {P : List (List UInt8)} {k : Nat} {D : List (List Nat × Bool)} {F : List (Nat × Bool)} (h : PsSt P k D F) (hk : k < 5) (he : (fieldR (P.getD k []) (reachL.getD k (0, 0)).1 (reachL.getD k (0, 0)).2).1 = 0) :
    PsSt P (k + 1) (D ++ [((fieldR (P.getD k []) (reachL.getD k (0, 0)).1 (reachL.getD k (0, 0)).2).2, decide (P.getD k [] = [42]))]) (F.set k (mask (fieldR (P.getD k []) (reachL.getD k (0, 0)).1 (reachL.getD k (0, 0)).2).2, decide (P.getD k [] = [42]))) := by
  obtain ⟨h1, h2, h3, h4, h5, h6, h7⟩ := h
  have hd := PsSt.drop ⟨h1, h2, h3, h4, h5, h6, h7⟩ hk
  refine ⟨hk, h2, by simp [h3], by simp [h4], ?_, ?_, ?_⟩
  · rw [List.take_add_one, List.take_set_of_le (Nat.le_refl k), h5]
    simp [h4, hk, fm]
  · intro d hd n hn
    rcases List.mem_append.1 hd with hd | hd
    · exact h6 d hd n hn
    · have hd' := List.mem_singleton.1 hd
      subst hd'
      exact pfR_lt (reachL_bd hk).2 _ n hn
  · rw [h7, hd, reachL_drop hk, pfs, if_neg (not_not_intro he)]
    by_cases e2 : (pfs (P.drop (k + 1)) (reachL.drop (k + 1))).1 = 0
    · rw [if_neg (not_not_intro e2), if_neg (not_not_intro e2), if_neg (not_not_intro rfl), List.append_assoc, List.singleton_append]
    · rw [if_pos e2, if_pos e2, if_pos e2]
theorem PsSt.done {P : List (List UInt8)} {D : List (List Nat × Bool)} {F : List (Nat × Bool)} (h : PsSt P 5 D F) : pfs P reachL = (0, D) ∧ F = fm D := by
  obtain ⟨h1, h2, h3, h4, h5, h6, h7⟩ := h
  refine ⟨?_, ?_⟩
  · rw [h7, show reachL.drop 5 = [] from rfl, ← h2, List.drop_length]
    simp [pfs]
  · rw [← h5, ← h4, List.take_length]
/-- A Spec in memory. -/
structure SpecAt (w : World) (g : Nat) (l : List UInt8) (D : List (List Nat × Bool)) : Prop where
  row : w.heap[g]? = some (.cells (specRow (str l) (fm D)).toArray 95 (0, 0))
  len : D.length = 5
  lt : ∀ d ∈ D, ∀ n ∈ d.1, n < 64
theorem SpecAt.below {w w' : World} {g : Nat} {l : List UInt8} {D : List (List Nat × Bool)} (h : SpecAt w g l D) (hb : Below w.heap.size w w') : SpecAt w' g l D :=
  ⟨(hb.block _ (lt_of_rowW h.row)).trans h.row, h.len, h.lt⟩
/-- What Parse leaves. -/
def parsePost (w : World) (l : List UInt8) (r : Int × List (List Nat × Bool)) (e : Ending) (w' : World) : Prop :=
  Below w.heap.size w w' ∧ if r.1 = 0 then ∃ g, e = .returned (.tuple #[.pointer (some ⟨g, 0, none⟩), .int .i64 0]) ∧ w.heap.size ≤ g ∧ SpecAt w' g l r.2 else e = .returned (.tuple #[.pointer none, .int .i64 r.1])
structure PsW (w : World) (k5 g : Nat) (S : ByteArray) (P : List (List UInt8)) (F : List (Nat × Bool)) (wr : World) : Prop where
  spec : wr.heap[k5]? = some (.cells (specRow S F).toArray 95 (0, 0))
  strs : wr.heap[g]? = some (.cells (strVs P).toArray 9 (0, 0))
  blw : Below w.heap.size w wr
theorem PsW.below {w wr w' : World} {k5 g : Nat} {S : ByteArray} {P : List (List UInt8)} {F : List (Nat × Bool)} (h : PsW w k5 g S P F wr) (hb : Below wr.heap.size wr w') : PsW w k5 g S P F w' :=
  ⟨(hb.block _ (lt_of_rowW h.spec)).trans h.spec, (hb.block _ (lt_of_rowW h.strs)).trans h.strs, h.blw.trans (hb.mono h.blw.size)⟩
theorem PsW.set {w wr : World} {k5 g : Nat} {S : ByteArray} {P : List (List UInt8)} {F : List (Nat × Bool)} (h : PsW w k5 g S P F wr) {k7 : Nat} (h5 : k5 ≠ k7) (hg : g ≠ k7) (hw : w.heap.size ≤ k7) (j : Nat) (v : Value) : PsW w k5 g S P F (wr.setCell ⟨k7, j, none⟩ v) :=
  ⟨(Below.heap_setCell wr ⟨k7, j, none⟩ v k5 h5).trans h.spec, (Below.heap_setCell wr ⟨k7, j, none⟩ v g hg).trans h.strs, h.blw.setCell hw v⟩
def psRel (w : World) (k5 g : Nat) (S : ByteArray) (P : List (List UInt8)) (i : Value) (wr : World) : Prop :=
  ∃ (k : Nat) (D : List (List Nat × Bool)) (F : List (Nat × Bool)), i = .int .i64 (k : Int) ∧ PsSt P k D F ∧ PsW w k5 g S P F wr
theorem after_alloc {w w' : World} {cs : Array Value} {t : TypeId} (hb : Below (w.alloc (.cells cs t)).drew.heap.size (w.alloc (.cells cs t)).drew w') : w'.heap[w.heap.size]? = some (.cells cs t (0, 0)) := by
  have h : (w.alloc (.cells cs t)).drew.heap[w.heap.size]? = some (.cells cs t (0, 0)) := heap_alloc_new w _
  exact (hb.block w.heap.size (lt_of_rowW h)).trans h
set_option maxHeartbeats 4000000 in
theorem parse_any (l : List UInt8) (hl : l.length < 4294967281) (w : World) (hT : CT w) : Calls Tryz.prog 42 #[.string (str l)] w (parsePost w l (parseM l)) := by
  have hss := str_size l
  obtain ⟨S, hS⟩ : ∃ S, S = str l := ⟨_, rfl⟩
  rw [← hS] at hss ⊢
  by_cases h128 : 128 < l.length
  · have hM : parseM l = (2, []) := by unfold parseM; rw [if_pos h128]
    rw [hM]
    have hi : (128 : Int) < (S.size : Int) := by omega
    clear hS
    go_enter Tryz.func42, Tryz.ntmps42
    go_wp2
    go_ret2
    exact ⟨Below.refl _ _, by rw [if_neg (by decide)]; rfl⟩
  have hi : ¬ (128 : Int) < (S.size : Int) := by omega
  have sc := split_any 32 l hl w hT
  obtain ⟨P, hP⟩ : ∃ P, P = splitL 32 l := ⟨_, rfl⟩
  have hM : parseM l = if P.length ≠ 5 then (40, []) else pfs P reachL := by unfold parseM; rw [if_neg h128, hP]
  have hPl : P.length ≤ 4294967281 := by rw [hP, splitL_len]; have := List.count_le_length (a := 32) (l := l); omega
  have hPm : ∀ x ∈ P, x.length < 4294967281 := fun x hx => by rw [hP] at hx; have := splitL_mem 32 l x hx; omega
  rw [← hP] at sc
  rw [← hS] at sc
  by_cases h5 : P.length ≠ 5
  · rw [hM, if_pos h5]
    obtain ⟨n, hn⟩ : ∃ n, n = P.length := ⟨_, rfl⟩
    rw [← hn] at sc h5 hPl
    have h5' : ¬ (n : Int) = 5 := by omega
    have SC := Lib.hid sc
    clear sc hS hM hP hPm hn h5
    go_enter Tryz.func42, Tryz.ntmps42
    go_wp2_with fail
    refine SC.out.mono ?_
    rintro e w' ⟨rfl, rfl⟩
    go_wp2_with fail
    go_ret2
    exact ⟨(Below.refl _ _).alloc (Nat.le_refl _) _, by rw [if_neg (by decide)]; rfl⟩
  · rw [hM, if_neg h5]
    have h5' : P.length = 5 := by omega
    rw [h5'] at sc
    obtain ⟨w2, hw2⟩ : ∃ w2, w2 = w.alloc (.cells (strVs P).toArray 9) := ⟨_, rfl⟩
    obtain ⟨g, hg⟩ : ∃ g, g = w.heap.size := ⟨_, rfl⟩
    have hb2 : Below w.heap.size w w2 := by rw [hw2]; exact (Below.refl _ _).alloc (Nat.le_refl _) _
    have ng : w2.heap[g]? = some (.cells (strVs P).toArray 9 (0, 0)) := by rw [hw2, hg]; exact heap_alloc_new _ _
    rw [← hw2, ← hg] at sc
    obtain ⟨w3, hw3⟩ : ∃ w3, w3 = w2.alloc (.cells (specRow S zF).toArray 95) := ⟨_, rfl⟩
    obtain ⟨k5, hk5⟩ : ∃ k, k = w2.heap.size := ⟨_, rfl⟩
    have hb3 : Below w2.heap.size w2 w3 := by rw [hw3]; exact (Below.refl _ _).alloc (Nat.le_refl _) _
    have n5 : w3.heap[k5]? = some (.cells (specRow S zF).toArray 95 (0, 0)) := by rw [hw3, hk5]; exact heap_alloc_new _ _
    have W3 : PsW w k5 g S P zF w3 := ⟨n5, (hb3.block g (lt_of_rowW ng)).trans ng, hb2.trans (hb3.mono hb2.size)⟩
    have R0 := Lib.hid (show psRel w k5 g S P (.int .i64 0) w3 from ⟨0, [], zF, rfl, PsSt.zero h5', W3⟩)
    have HNE := Lib.hid (show w.heap.size ≤ k5 ∧ g ≠ k5 from ⟨by have := hb2.size; omega, by have := lt_of_rowW ng; omega⟩)
    obtain ⟨F0, hF0⟩ : ∃ F, F = pfs P reachL := ⟨_, rfl⟩
    rw [← hF0]
    have HF := Lib.hid hF0
    have HP5 := Lib.hid h5'
    have HW3 := Lib.hid hw3
    have HK5 := Lib.hid hk5
    have SC := Lib.hid sc
    have HT := Lib.hid hT
    have HPM := Lib.hid hPm
    have HS := Lib.hid hS
    clear sc hS hM hP hPm h5 h5' hw2 hg hb2 ng hw3 hk5 hb3 n5 W3 hF0 hT hPl
    go_enter Tryz.func42, Tryz.ntmps42
    go_wp2_with fail
    refine SC.out.mono ?_
    rintro e w' ⟨rfl, h⟩
    have h2 := h.symm
    subst h2
    clear SC h
    go_upto_region 7 with fail
    rw [show (#[.string S, .int .u64 0, .bool false, .int .u64 0, .bool false, .int .u64 0, .bool false, .int .u64 0, .bool false, .int .u64 0, .bool false] : Array Value) = (specRow S zF).toArray from rfl, ← HW3.out, ← HK5.out]
    generalize (specRow S zF).toArray = ZR
    go_wp2_with fail
    go_loopw [20] (fun i wr => psRel w k5 g S P i wr) (fun i _ => 5 - (intOf i).toNat)
    case atStart => exact R0.out
    case round =>
      obtain ⟨wq, rfl⟩ : ∃ wq : World, wq = wr := ⟨_, rfl⟩
      obtain ⟨k, D, F, rfl, hst, hw⟩ := hrel
      have HST := Lib.hid hst
      have HW := Lib.hid hw
      have hkn : k ≤ 5 := hst.1
      clear hst hw R0
      by_cases hlt : k < 5
      · have hkk : (k : Int) < 5 := by omega
        obtain ⟨p, hp⟩ : ∃ p, p = P.getD k [] := ⟨_, rfl⟩
        have hcell := strVs_at HW.out.strs (k := k) (by rw [HP5.out]; exact hlt)
        have hpm : p.length < 4294967281 := HPM.out p (by rw [hp]; simp only [List.getD]; rw [List.getElem?_eq_getElem (by rw [HP5.out]; exact hlt)]; exact List.getElem_mem _)
        rw [← hp] at hcell
        have hsp := (HT.out.below HW.out.blw (Nat.le_refl _)).span hlt
        have hrb := reachL_bd hlt
        obtain ⟨lo, hlo⟩ : ∃ lo, lo = (reachL.getD k (0, 0)).1 := ⟨_, rfl⟩
        obtain ⟨hi', hhi⟩ : ∃ hi, hi = (reachL.getD k (0, 0)).2 := ⟨_, rfl⟩
        rw [← hlo, ← hhi] at hsp hrb
        obtain ⟨d0, d1⟩ := hsp
        have pc := fun W (hb : Below wq.heap.size wq W) => pfield_any p hpm lo hi' hrb.1 hrb.2 W (HT.out.below (HW.out.blw.trans (hb.mono HW.out.blw.size)) (Nat.le_refl _))
        obtain ⟨R, hR⟩ : ∃ R, R = fieldR p lo hi' := ⟨_, rfl⟩
        obtain ⟨E, hE⟩ : ∃ E, E = R.1 := ⟨_, rfl⟩
        have hbd := pfR_bd (splitL 44 p) lo hi'
        have hml := mask_lt (pfR_lt (lo := lo) hrb.2 (splitL 44 p))
        rw [show pfR (splitL 44 p) lo hi' = fieldR p lo hi' from rfl, ← hR] at hbd hml
        rw [← hE] at hbd
        simp only [← hR, ← hE] at pc
        obtain ⟨SP, hSP⟩ : ∃ SP, SP = str p := ⟨_, rfl⟩
        rw [← hSP] at hcell
        simp only [← hSP] at pc
        obtain ⟨N, hN⟩ : ∃ N, N = mask R.2 := ⟨_, rfl⟩
        obtain ⟨b, hb⟩ : ∃ b, b = (if R.1 = 0 then decide (p = [42]) else false) := ⟨_, rfl⟩
        have hFV : fieldV R (decide (p = [42])) = .agg #[.int .u64 (N : Int), .bool b] := by rw [hN, hb]; rfl
        simp only [hFV] at pc
        have PC := Lib.hid pc
        have HE := Lib.hid hE
        have HR := Lib.hid hR
        have HN := Lib.hid hN
        have HBB := Lib.hid hb
        have HP := Lib.hid hp
        have HLO := Lib.hid hlo
        have HHI := Lib.hid hhi
        clear pc hE hR hN hb hp hlo hhi hSP hpm hFV
        have d0a : (wq.alloc (.cells #[.int .u64 0, .bool false] 92)).cell? ⟨0, k * 2, none⟩ = some (.int .i64 (lo : Int)) := by rw [World.cell?_alloc_old _ _ _ (Nat.ne_of_lt (World.block_lt_of_cell? _ _ d0))]; exact d0
        have d1a : (wq.alloc (.cells #[.int .u64 0, .bool false] 92)).cell? ⟨0, k * 2 + 1, none⟩ = some (.int .i64 (hi' : Int)) := by rw [World.cell?_alloc_old _ _ _ (Nat.ne_of_lt (World.block_lt_of_cell? _ _ d1))]; exact d1
        have hca : (wq.alloc (.cells #[.int .u64 0, .bool false] 92)).cell? ⟨g, k, none⟩ = some (.string SP) := by rw [World.cell?_alloc_old _ _ _ (Nat.ne_of_lt (World.block_lt_of_cell? _ _ hcell))]; exact hcell
        go_upto_region 10 with fail
        go_cut [7, 8] (fun s7 s8 wx => s8 = .int .i64 E ∧ ∃ k7, s7 = .pointer (some ⟨k7, 0, none⟩) ∧ wx.heap[k7]? = some (.cells #[.int .u64 (N : Int), .bool b] 92 (0, 0)) ∧ k7 ≠ k5 ∧ PsW w k5 g S P F wx)
        case first =>
          go_region_with (go_at_call 67; first
            | (refine (PC.out wq.drew (below_drewN (Below.refl _ _) 1)).mono ?_; rintro e w' ⟨rfl, hb⟩)
            | (refine (PC.out (wq.alloc (.cells #[.int .u64 0, .bool false] 92)).drew (below_drewN ((Below.refl _ _).alloc (Nat.le_refl _) _) 1)).mono ?_; rintro e w' ⟨rfl, hb⟩; have hz := after_alloc hb; have z0 : w'.cell? ⟨wq.heap.size, 0, none⟩ = some (.int .u64 0) := (by rw [cell_of_rowW w' _ 0 _ _ _ hz]; rfl); have z1 : w'.cell? ⟨wq.heap.size, 1, none⟩ = some (.bool false) := (by rw [cell_of_rowW w' _ 1 _ _ _ hz]; rfl); have y0 := frozen_of_row w' wq.heap.size 0 _ _ hz; have y1 := frozen_of_row w' wq.heap.size 1 _ _ hz; have HZ := Lib.hid hz; clear hz))
          all_goals
            go_wp2_with fail
            go_meet
          all_goals
            have q5 := lt_of_rowW HW.out.spec
            have qg := lt_of_rowW HW.out.strs
            have qw := HW.out.blw.size
            refine ⟨rfl, _, rfl, ?_⟩
            first
              | (have hw9 := HW.out.below ((below_drewN (Below.refl wq.heap.size wq) 1).trans hb)
                 have hs9 : wq.heap.size ≤ w'.heap.size := hb.size
                 exact ⟨heap_alloc_new _ _, by omega, hw9.below ((Below.refl _ _).alloc (Nat.le_refl _) _)⟩)
              | (have hw9 := HW.out.below ((below_drewN ((Below.refl wq.heap.size wq).alloc (Nat.le_refl _) _) 1).trans (hb.mono (Nat.le_of_lt (lt_of_rowW (heap_alloc_new wq _)))))
                 have r1 := Go.Joins.block_setCell (i := 1) (Go.Joins.block_setCell (i := 0) HZ.out (.int .u64 (N : Int))) (.bool b)
                 exact ⟨r1, by omega, (hw9.set (by omega) (by omega) qw 0 _).set (by omega) (by omega) qw 1 _⟩)
        case rest =>
          obtain ⟨rfl, k7, rfl, h7, hne7, hw7⟩ := hcut
          have HW7 := Lib.hid hw7
          by_cases hE0 : E = 0
          · subst hE0
            have HNX := Lib.hid (HST.out.next hlt (by rw [← HP.out, ← HLO.out, ← HHI.out, ← HR.out, ← HE.out]))
            have c70 : wc.cell? ⟨k7, 0, none⟩ = some (.int .u64 (N : Int)) := by rw [cell_of_rowW wc k7 0 _ _ _ h7]; rfl
            have c71 : wc.cell? ⟨k7, 1, none⟩ = some (.bool b) := by rw [cell_of_rowW wc k7 1 _ _ _ h7]; rfl
            have hFl : k < F.length := by rw [HST.out.2.2.2.1]; exact hlt
            have hg5 := specL_get F k hFl
            have e0 : wc.cell? ⟨k5, 1 + k * 2, none⟩ = some (.int .u64 ((F.getD k (0, false)).1 : Int)) := by
              rw [cell_of_rowW wc k5 _ _ _ _ HW7.out.spec, List.getElem?_toArray, show 1 + k * 2 = 2 * k + 1 by omega]
              exact hg5.1
            have e1 : wc.cell? ⟨k5, 1 + k * 2 + 1, none⟩ = some (.bool (F.getD k (0, false)).2) := by
              rw [cell_of_rowW wc k5 _ _ _ _ HW7.out.spec, List.getElem?_toArray, show 1 + k * 2 + 1 = 2 * k + 1 + 1 by omega]
              exact hg5.2
            generalize ((F.getD k (0, false)).1 : Int) = v0 at e0
            generalize (F.getD k (0, false)).2 = v1 at e1
            have y0 := frozen_of_row wc k5 (1 + k * 2) _ _ HW7.out.spec
            have y1 := frozen_of_row wc k5 (1 + k * 2 + 1) _ _ HW7.out.spec
            have hbE : b = decide (p = [42]) := by rw [HBB.out, if_pos (by rw [← HE.out])]
            have hrow := Go.Joins.block_setCell (i := 1 + k * 2 + 1) (Go.Joins.block_setCell (i := 1 + k * 2) HW7.out.spec (.int .u64 (N : Int))) (.bool b)
            rw [List.setIfInBounds_toArray, List.setIfInBounds_toArray, show 1 + k * 2 + 1 = 2 * k + 2 by omega, show 1 + k * 2 = 2 * k + 1 by omega, ← specRow_set, show 2 * k + 2 = 1 + k * 2 + 1 by omega, show 2 * k + 1 = 1 + k * 2 by omega] at hrow
            have RR := Lib.hid (show psRel w k5 g S P (.int .i64 ((k + 1 : Nat) : Int)) (((wc.setCell ⟨k5, 1 + k * 2, none⟩ (.int .u64 (N : Int))).setCell ⟨k5, 1 + k * 2 + 1, none⟩ (.bool b)).drew) from
              ⟨k + 1, _, F.set k (N, b), rfl, (by have h := HNX.out; rw [← HP.out, ← HLO.out, ← HHI.out, ← HR.out, ← HN.out, ← hbE] at h; exact h),
                ⟨hrow, (Below.heap_setCell (wc.setCell ⟨k5, 1 + k * 2, none⟩ (.int .u64 (N : Int))) ⟨k5, 1 + k * 2 + 1, none⟩ (.bool b) g HNE.out.2).trans ((Below.heap_setCell wc ⟨k5, 1 + k * 2, none⟩ _ g HNE.out.2).trans HW7.out.strs),
                below_drewN ((HW7.out.blw.setCell HNE.out.1 _).setCell HNE.out.1 _) 1⟩⟩)
            clear h7 hw7 hg5 hFl hbE hrow
            go_wp2
            go_region
            all_goals
              go_wp2
              exact ⟨RR.out, by simp [intOf]; omega⟩
          · have hF : F0 = (E, []) := by
              have := HST.out.bad hlt (by rw [← HP.out, ← HLO.out, ← HHI.out, ← HR.out, ← HE.out]; exact hE0)
              rw [← HF.out, ← HP.out, ← HLO.out, ← HHI.out, ← HR.out, ← HE.out] at this
              exact this
            have hF' := Lib.hid hF
            have hE1 : (E == 0) = false := by simpa using hE0
            clear hF h7 hw7
            go_wp2
            go_ret2
            refine ⟨HW7.out.blw, ?_⟩
            rw [hF'.out, if_neg hE0]
            rfl
      · obtain rfl : k = 5 := by omega
        have hdn := HST.out.done
        rw [← HF.out] at hdn
        have HDN := Lib.hid hdn
        clear hdn
        go_wp2_with fail
        go_ret2
        refine ⟨HW.out.blw, ?_⟩
        rw [if_pos (by rw [HDN.out.1])]
        refine ⟨k5, rfl, HNE.out.1, ?_⟩
        rw [HDN.out.1]
        refine ⟨?_, HST.out.2.2.1, HST.out.2.2.2.2.2.1⟩
        rw [← HDN.out.2, ← HS.out]
        exact HW.out.spec
end Go.Proofs.YthfjahagmfgfeaaGreatDoor.Cr
