/- Events in memory; kinds. -/
import Derived.Test.YtnfobnnbeefeeaaGreatDoorGH
import Derived.Test.YtnfobnnbeefeeaaGreatDoorSj
import Derived.Test.YtnfobnnbeefeeaaGreatDoorG4
import Derived.Test.YtnfobnnbeefeeaaGreatDoorG3
import Derived.BigQuiet
namespace Go.Proofs.YtnfobnnbeefeeaaGreatDoor.Wi
open Go Go.RowKit
set_option linter.unusedVariables false
set_option linter.unusedSimpArgs false
def Ev.cells (x : Ev) : List Value := .int .i64 x.id :: .int .i64 x.time :: .int .i64 x.kind :: .int .i64 x.a :: .int .i64 x.b :: .string (str x.name) :: .string (str x.text) :: x.val.cells
theorem Ev.cells_len (x : Ev) : x.cells.length = 11 := by unfold Ev.cells; simp [x.val.cells_len]
theorem Ev.cells_one' (x : Ev) : ∀ u ∈ x.cells, u.oneCell' = true := by
  intro u hu
  unfold Ev.cells at hu
  simp only [List.mem_cons] at hu
  rcases hu with rfl | rfl | rfl | rfl | rfl | rfl | rfl | hu
  iterate 7 rfl
  exact x.val.cells_one' u hu
theorem Ev.cells_one (x : Ev) : x.cells.toArray.all (·.oneCell') = true := by
  rw [Array.all_eq_true_iff_forall_mem]
  intro u hu
  exact x.cells_one' u (by simpa using hu)
theorem Tryz.evSize (x : Ev) : (Tryz.prog.info? 28).map (·.size) = some x.cells.length := by rw [x.cells_len]; kernel_rfl
theorem Tryz.evSize' (x : Ev) : (Tryz.prog.info? 28).map (·.size) = some x.cells.toArray.size := by rw [List.size_toArray]; exact Tryz.evSize x
theorem Ev.eleven (x : Ev) : 11 = x.cells.toArray.size := by rw [List.size_toArray, x.cells_len]
/-- An event's value's lists lie below N, its numbers and sizes are those of Go. -/
structure Ev.At (N : Nat) (w : World) (x : Ev) : Prop where
  id : -9223372036854775808 ≤ x.id ∧ x.id ≤ 9223372036854775807
  time : -9223372036854775808 ≤ x.time ∧ x.time ≤ 9223372036854775807
  kind : -9223372036854775808 ≤ x.kind ∧ x.kind ≤ 9223372036854775807
  a : -9223372036854775808 ≤ x.a ∧ x.a ≤ 9223372036854775807
  b : -9223372036854775808 ≤ x.b ∧ x.b ≤ 9223372036854775807
  name : x.name.length ≤ 140737488355328
  text : x.text.length ≤ 140737488355328
  val : x.val.At N w
theorem Ev.At.keep {N : Nat} {w w' : World} {x : Ev} (h : x.At N w) (hk : ∀ k, k < N → w'.heap[k]? = w.heap[k]?) : x.At N w' := ⟨h.id, h.time, h.kind, h.a, h.b, h.name, h.text, h.val.keep hk⟩
theorem Ev.At.mono {N N' : Nat} {w : World} {x : Ev} (h : x.At N w) (hN : N ≤ N') : x.At N' w := ⟨h.id, h.time, h.kind, h.a, h.b, h.name, h.text, h.val.mono hN⟩
theorem Ev.At.below {N : Nat} {w w' : World} {x : Ev} (h : x.At N w) (hb : Below N w w') : x.At N w' := h.keep fun k hk => hb.block k hk
/-- Where an event lies: the facts that a walk asks for. -/
theorem rowE {W : World} {g : Nat} {x : Ev} (h : W.heap[g]? = some (.cells x.cells.toArray 28 (0, 0))) : ∀ (j : Nat) u, x.cells[j]? = some u → W.cell? ((⟨g, 0, none⟩ : Addr).add j) = some u := fun j u hj => by
  rw [Addr.add_mid, Nat.zero_add, cell_of_rowW W g j _ _ _ h]
  simpa using hj
structure EvC (W : World) (g : Nat) (x : Ev) : Prop where
  c0 : W.cell? ⟨g, 0, none⟩ = some (.int .i64 x.id)
  c1 : W.cell? ⟨g, 1, none⟩ = some (.int .i64 x.time)
  c2 : W.cell? ⟨g, 2, none⟩ = some (.int .i64 x.kind)
  c3 : W.cell? ⟨g, 3, none⟩ = some (.int .i64 x.a)
  c4 : W.cell? ⟨g, 4, none⟩ = some (.int .i64 x.b)
  c5 : W.cell? ⟨g, 5, none⟩ = some (.string (str x.name))
  c6 : W.cell? ⟨g, 6, none⟩ = some (.string (str x.text))
  c7 : W.cell? ⟨g, 7, none⟩ = some (.int .i64 x.val.kd)
  cv : ∀ (j : Nat) u, x.val.cells[j]? = some u → W.cell? ((⟨g, 7, none⟩ : Addr).add j) = some u
theorem evC {W : World} {g : Nat} {x : Ev} (h : W.heap[g]? = some (.cells x.cells.toArray 28 (0, 0))) : EvC W g x := by
  have hv : ∀ (j : Nat) u, x.val.cells[j]? = some u → W.cell? ((⟨g, 7, none⟩ : Addr).add j) = some u := fun j u hj => by
    rw [Addr.add_mid, cell_of_rowW W g (7 + j) _ _ _ h]
    rw [Nat.add_comm]
    simpa [Ev.cells] using hj
  refine ⟨?_, ?_, ?_, ?_, ?_, ?_, ?_, ?_, hv⟩
  · rw [cell_of_rowW W g 0 _ _ _ h]; rfl
  · rw [cell_of_rowW W g 1 _ _ _ h]; rfl
  · rw [cell_of_rowW W g 2 _ _ _ h]; rfl
  · rw [cell_of_rowW W g 3 _ _ _ h]; rfl
  · rw [cell_of_rowW W g 4 _ _ _ h]; rfl
  · rw [cell_of_rowW W g 5 _ _ _ h]; rfl
  · rw [cell_of_rowW W g 6 _ _ _ h]; rfl
  · have := hv 0 (.int .i64 x.val.kd) (by cases x.val; rfl)
    rwa [Addr.add_mid] at this
/-- The package-level variables that are read. -/
structure EB (B : Nat) (w : World) : Prop where
  tab : Lib.TabBelow Tryz.prog B w "internal/strconv.uint64pow10" .u64 Lib.pow10Tab
  len : ∀ w', Below B w w' → ∃ m, w'.cell? ⟨2, 0, none⟩ = some (.int .i64 m)
theorem EB.on {B : Nat} {w w' : World} (h : EB B w) (hb : Below B w w') : EB B w' := ⟨fun w2 h2 => h.tab w2 (hb.trans h2), fun w2 h2 => h.len w2 (hb.trans h2)⟩
theorem EB.base {B C : Nat} {w : World} (h : EB B w) (hC : B ≤ C) : EB C w := ⟨fun w' hb => h.tab w' (hb.mono hC), fun w' hb => h.len w' (hb.mono hC)⟩
theorem known_any (k : Int) (w : World) : Calls Tryz.prog 98 #[.int .i64 k] w fun e w' => e = .returned (.bool (eKn k)) ∧ w' = w := by
  by_cases h1 : 1 ≤ k
  · by_cases h2 : k ≤ 21
    · rw [show eKn k = true by simp [eKn, h1, h2]]
      go_enter Tryz.func98, Tryz.ntmps98
      go_wp2
      go_ret
      exact ⟨rfl, rfl⟩
    · rw [show eKn k = false by simp [eKn, h1, h2]]
      go_enter Tryz.func98, Tryz.ntmps98
      go_wp2
      go_ret
      exact ⟨rfl, rfl⟩
  · rw [show eKn k = false by simp [eKn, h1]]
    go_enter Tryz.func98, Tryz.ntmps98
    go_wp2
    go_ret
    exact ⟨rfl, rfl⟩
end Go.Proofs.YtnfobnnbeefeeaaGreatDoor.Wi
/- What a kind has: about, has, allowed. -/
namespace Go.Proofs.YtnfobnnbeefeeaaGreatDoor.Wi
open Go Go.RowKit
set_option linter.unusedVariables false
set_option linter.unusedSimpArgs false
/-- The table's lines. -/
def eLines : List (List UInt8) := [
  [114, 117, 110, 45, 115, 116, 97, 114, 116, 101, 100, 32, 32, 32, 32, 32, 32, 32, 32, 65, 66, 78, 84, 86, 10],
  [116, 97, 115, 107, 45, 115, 99, 104, 101, 100, 117, 108, 101, 100, 32, 32, 32, 32, 32, 46, 66, 46, 46, 46, 10],
  [116, 97, 115, 107, 45, 115, 116, 97, 114, 116, 101, 100, 32, 32, 32, 32, 32, 32, 32, 65, 66, 46, 46, 46, 10],
  [116, 97, 115, 107, 45, 99, 111, 109, 112, 108, 101, 116, 101, 100, 32, 32, 32, 32, 32, 65, 66, 46, 46, 46, 10],
  [116, 97, 115, 107, 45, 116, 105, 109, 101, 100, 45, 111, 117, 116, 32, 32, 32, 32, 32, 46, 66, 46, 46, 46, 10],
  [116, 97, 115, 107, 45, 102, 97, 105, 108, 101, 100, 32, 32, 32, 32, 32, 32, 32, 32, 46, 66, 78, 46, 46, 10],
  [97, 99, 116, 105, 118, 105, 116, 121, 45, 115, 99, 104, 101, 100, 117, 108, 101, 100, 32, 65, 66, 78, 46, 86, 10],
  [97, 99, 116, 105, 118, 105, 116, 121, 45, 99, 111, 109, 112, 108, 101, 116, 101, 100, 32, 65, 46, 46, 46, 86, 10],
  [97, 99, 116, 105, 118, 105, 116, 121, 45, 102, 97, 105, 108, 101, 100, 32, 32, 32, 32, 65, 46, 78, 46, 46, 10],
  [97, 99, 116, 105, 118, 105, 116, 121, 45, 116, 105, 109, 101, 100, 45, 111, 117, 116, 32, 65, 46, 46, 46, 46, 10],
  [116, 105, 109, 101, 114, 45, 115, 116, 97, 114, 116, 101, 100, 32, 32, 32, 32, 32, 32, 65, 66, 46, 46, 46, 10],
  [116, 105, 109, 101, 114, 45, 102, 105, 114, 101, 100, 32, 32, 32, 32, 32, 32, 32, 32, 65, 46, 46, 46, 46, 10],
  [116, 105, 109, 101, 114, 45, 99, 97, 110, 99, 101, 108, 101, 100, 32, 32, 32, 32, 32, 65, 46, 46, 46, 46, 10],
  [115, 105, 103, 110, 97, 108, 45, 114, 101, 99, 101, 105, 118, 101, 100, 32, 32, 32, 32, 46, 46, 78, 46, 86, 10],
  [99, 97, 110, 99, 101, 108, 45, 114, 101, 113, 117, 101, 115, 116, 101, 100, 32, 32, 32, 46, 46, 46, 46, 46, 10],
  [114, 117, 110, 45, 99, 111, 109, 112, 108, 101, 116, 101, 100, 32, 32, 32, 32, 32, 32, 46, 46, 46, 46, 86, 10],
  [114, 117, 110, 45, 102, 97, 105, 108, 101, 100, 32, 32, 32, 32, 32, 32, 32, 32, 32, 46, 46, 78, 46, 46, 10],
  [114, 117, 110, 45, 99, 97, 110, 99, 101, 108, 101, 100, 32, 32, 32, 32, 32, 32, 32, 46, 46, 46, 46, 46, 10],
  [114, 117, 110, 45, 116, 101, 114, 109, 105, 110, 97, 116, 101, 100, 32, 32, 32, 32, 32, 46, 46, 78, 46, 46, 10],
  [114, 117, 110, 45, 116, 105, 109, 101, 100, 45, 111, 117, 116, 32, 32, 32, 32, 32, 32, 46, 46, 46, 46, 46, 10],
  [99, 111, 110, 116, 105, 110, 117, 101, 100, 45, 97, 115, 45, 110, 101, 119, 32, 32, 32, 46, 66, 46, 46, 86, 10]]
/-- What stands behind the names. -/
def eLets : List (List UInt8) := [
  [32, 32, 32, 32, 32, 32, 32, 65, 66, 78, 84, 86, 10],
  [32, 32, 32, 32, 46, 66, 46, 46, 46, 10],
  [32, 32, 32, 32, 32, 32, 65, 66, 46, 46, 46, 10],
  [32, 32, 32, 32, 65, 66, 46, 46, 46, 10],
  [32, 32, 32, 32, 46, 66, 46, 46, 46, 10],
  [32, 32, 32, 32, 32, 32, 32, 46, 66, 78, 46, 46, 10],
  [65, 66, 78, 46, 86, 10],
  [65, 46, 46, 46, 86, 10],
  [32, 32, 32, 65, 46, 78, 46, 46, 10],
  [65, 46, 46, 46, 46, 10],
  [32, 32, 32, 32, 32, 65, 66, 46, 46, 46, 10],
  [32, 32, 32, 32, 32, 32, 32, 65, 46, 46, 46, 46, 10],
  [32, 32, 32, 32, 65, 46, 46, 46, 46, 10],
  [32, 32, 32, 46, 46, 78, 46, 86, 10],
  [32, 32, 46, 46, 46, 46, 46, 10],
  [32, 32, 32, 32, 32, 46, 46, 46, 46, 86, 10],
  [32, 32, 32, 32, 32, 32, 32, 32, 46, 46, 78, 46, 46, 10],
  [32, 32, 32, 32, 32, 32, 46, 46, 46, 46, 46, 10],
  [32, 32, 32, 32, 46, 46, 78, 46, 46, 10],
  [32, 32, 32, 32, 32, 46, 46, 46, 46, 46, 10],
  [32, 32, 46, 66, 46, 46, 86, 10]]
def eLt (k : Int) : List UInt8 := if 1 ≤ k ∧ k ≤ 21 then eLets.getD (k.toNat - 1) [] else []
def kindsB : ByteArray := ⟨(eLines.flatten).toArray⟩
theorem kindsB_size : kindsB.size = 525 := by decide +kernel
theorem kinds_line : ∀ i : Fin 21, (kindsB.extract (i.val * 25) (i.val * 25 + 25)).data.toList = eLines.getD i.val [] := by decide +kernel
theorem kinds_cut : ∀ i : Fin 21, Lib.cut (eLines.getD i.val []) [32] = (eNms.getD i.val [], eLets.getD i.val [], true) := by decide +kernel
theorem str_datE (l : List UInt8) : (str l).data.toList = l := by simp [str]
theorem str_ofE (s : ByteArray) : str s.data.toList = s := by simp [str]
theorem kinds_ext (i : Nat) (hi : i < 21) : kindsB.extract (i * 25) ((i + 1) * 25) = str (eLines.getD i []) := by
  rw [← kinds_line ⟨i, hi⟩, show (i + 1) * 25 = i * 25 + 25 by omega, str_ofE]
set_option maxHeartbeats 4000000 in
set_option maxRecDepth 100000 in
theorem about_any (k : Int) (hk : -9223372036854775808 ≤ k ∧ k ≤ 9223372036854775807) (w : World) (hm : ∃ m, w.cell? ⟨2, 0, none⟩ = some (.int .i64 m)) : Calls Tryz.prog 94 #[.int .i64 k] w fun e w' => e = .returned (.tuple #[.string (str (eNm k)), .string (str (eLt k))]) ∧ ∃ n, w' = w.drewN n := by
  have KN := known_any k
  by_cases h : eKn k = true
  · rw [h] at KN
    have hk2 : 1 ≤ k ∧ k ≤ 21 := by simpa [eKn] using h
    obtain ⟨i, rfl⟩ : ∃ i : Nat, k = (i : Int) + 1 := ⟨k.toNat - 1, by omega⟩
    have hi : i < 21 := by omega
    have en : eNm ((i : Int) + 1) = eNms.getD i [] := by
      unfold eNm; rw [if_pos hk2, show ((i : Int) + 1).toNat - 1 = i by omega]
    have el : eLt ((i : Int) + 1) = eLets.getD i [] := by
      unfold eLt; rw [if_pos hk2, show ((i : Int) + 1).toNat - 1 = i by omega]
    rw [en, el]
    obtain ⟨m, hm⟩ := hm
    have CT := Tryz.strings_Cut (str (eLines.getD i [])) ⟨#[32]⟩ m w (by
      have h1 : ∀ i : Fin 21, (eLines.getD i.val []).length < 4294967281 := by decide +kernel
      rw [str_sizeX]; exact h1 ⟨i, hi⟩) hm
    rw [str_datE, show (⟨#[32]⟩ : ByteArray).data.toList = [32] from rfl, kinds_cut ⟨i, hi⟩] at CT
    dsimp only at CT
    obtain ⟨A, hA⟩ : ∃ A, A = str (eNms.getD i []) := ⟨_, rfl⟩
    obtain ⟨B, hB⟩ : ∃ B, B = str (eLets.getD i []) := ⟨_, rfl⟩
    rw [show (⟨(eNms.getD i []).toArray⟩ : ByteArray) = str (eNms.getD i []) from rfl, show (⟨(eLets.getD i []).toArray⟩ : ByteArray) = str (eLets.getD i []) from rfl, ← hA, ← hB] at CT
    rw [← hA, ← hB]
    obtain ⟨T, hT⟩ : ∃ T, T = str (eLines.getD i []) := ⟨_, rfl⟩
    rw [← hT] at CT
    have HCT := Lib.hid CT
    have HT := Lib.hid hT
    clear CT hA hB hT en el hm
    go_enter Tryz.func94, Tryz.ntmps94
    go_wp2_with fail
    refine (KN w).mono ?_
    rintro e w1 ⟨rfl, rfl⟩
    go_wp2_with fail
    generalize hX : ByteArray.extract _ (i * 25) ((i + 1) * 25) = X
    have hX2 : X = T := by
      rw [← hX, HT.out]
      refine Eq.trans (congrArg (fun B => ByteArray.extract B (i * 25) ((i + 1) * 25)) (show _ = kindsB from by kernel_rfl)) ?_
      exact kinds_ext i hi
    clear hX
    subst hX2
    refine HCT.out.mono ?_
    rintro e w2 ⟨rfl, n, rfl⟩
    go_wp2_with fail
    go_ret2
    exact ⟨rfl, n, rfl⟩
  · have hf : eKn k = false := by cases hq : eKn k; rfl; exact absurd hq h
    rw [hf] at KN
    have hk2 : ¬ (1 ≤ k ∧ k ≤ 21) := by
      intro h2; rw [show eKn k = true by simp [eKn, h2]] at hf; cases hf
    have en : eNm k = [] := by unfold eNm; rw [if_neg hk2]
    have el : eLt k = [] := by unfold eLt; rw [if_neg hk2]
    rw [en, el]
    go_enter Tryz.func94, Tryz.ntmps94
    go_wp2_with fail
    refine (KN w).mono ?_
    rintro e w1 ⟨rfl, rfl⟩
    go_wp2_with fail
    go_ret2
    exact ⟨rfl, 0, rfl⟩
/-- Has it this letter? -/
def hasL (l : List UInt8) (c : UInt8) : Bool := decide (0 ≤ Lib.indexByte l c)
theorem has_any (l : List UInt8) (c : UInt8) (w : World) : Calls Tryz.prog 97 #[.string (str l), .int .u8 (c.toNat : Int)] w fun e w' => e = .returned (.bool (hasL l c)) ∧ w' = w := by
  have IB := fun W => Tryz.strings_IndexByte (str l) (c.toNat : Int) W
  rw [str_datE, show ((c.toNat : Int).toNat.toUInt8) = c by simp] at IB
  unfold hasL
  obtain ⟨S, hS⟩ : ∃ S, S = str l := ⟨_, rfl⟩
  rw [← hS] at IB ⊢
  obtain ⟨d, hd⟩ : ∃ d, d = Lib.indexByte l c := ⟨_, rfl⟩
  rw [← hd] at IB ⊢
  obtain ⟨m, hm⟩ : ∃ m : Int, m = (c.toNat : Int) := ⟨_, rfl⟩
  rw [← hm] at IB ⊢
  clear hS hd hm
  by_cases h : 0 ≤ d
  · rw [decide_eq_true h]
    go_enter Tryz.func97, Tryz.ntmps97
    go_wp2_with fail
    refine (IB w).mono ?_
    rintro e w1 ⟨rfl, rfl⟩
    go_wp2_with fail
    go_ret
    exact ⟨rfl, rfl⟩
  · rw [decide_eq_false h]
    go_enter Tryz.func97, Tryz.ntmps97
    go_wp2_with fail
    refine (IB w).mono ?_
    rintro e w1 ⟨rfl, rfl⟩
    go_wp2_with fail
    go_ret
    exact ⟨by show Ending.returned (.bool (decide (0 ≤ d))) = _; rw [decide_eq_false (by omega : ¬ (0 : Int) ≤ d)], rfl⟩
theorem lets_all : ∀ i : Fin 21, hasL (eLets.getD i.val []) 65 = eA ((i.val : Int) + 1) ∧ hasL (eLets.getD i.val []) 66 = eB ((i.val : Int) + 1) ∧ hasL (eLets.getD i.val []) 78 = eN ((i.val : Int) + 1) ∧ hasL (eLets.getD i.val []) 84 = eT ((i.val : Int) + 1) ∧ hasL (eLets.getD i.val []) 86 = eV ((i.val : Int) + 1) := by decide +kernel
theorem flags_off {k : Int} (h : ¬ (1 ≤ k ∧ k ≤ 21)) : eA k = false ∧ eB k = false ∧ eN k = false ∧ eT k = false ∧ eV k = false := by
  unfold eA eB eN eT eV
  simp
  omega
theorem lets_has (k : Int) : hasL (eLt k) 65 = eA k ∧ hasL (eLt k) 66 = eB k ∧ hasL (eLt k) 78 = eN k ∧ hasL (eLt k) 84 = eT k ∧ hasL (eLt k) 86 = eV k := by
  by_cases hk : 1 ≤ k ∧ k ≤ 21
  · have := lets_all ⟨k.toNat - 1, by omega⟩
    dsimp only at this
    rw [show ((k.toNat - 1 : Nat) : Int) + 1 = k by omega] at this
    unfold eLt
    rw [if_pos hk]
    exact this
  · obtain ⟨a, b, c, d, e⟩ := flags_off hk
    unfold eLt
    rw [if_neg hk, a, b, c, d, e]
    decide +kernel
/-- has, asked of what a kind has. -/
structure HasK (k : Int) (F : ByteArray) : Prop where
  a : ∀ w, Calls Tryz.prog 97 #[.string F, .int .u8 65] w fun e w' => e = .returned (.bool (eA k)) ∧ w' = w
  b : ∀ w, Calls Tryz.prog 97 #[.string F, .int .u8 66] w fun e w' => e = .returned (.bool (eB k)) ∧ w' = w
  n : ∀ w, Calls Tryz.prog 97 #[.string F, .int .u8 78] w fun e w' => e = .returned (.bool (eN k)) ∧ w' = w
  t : ∀ w, Calls Tryz.prog 97 #[.string F, .int .u8 84] w fun e w' => e = .returned (.bool (eT k)) ∧ w' = w
  v : ∀ w, Calls Tryz.prog 97 #[.string F, .int .u8 86] w fun e w' => e = .returned (.bool (eV k)) ∧ w' = w
theorem hasK (k : Int) : HasK k (str (eLt k)) := by
  obtain ⟨a, b, c, d, e⟩ := lets_has k
  refine ⟨fun w => ?_, fun w => ?_, fun w => ?_, fun w => ?_, fun w => ?_⟩
  · rw [← a]; exact has_any _ 65 w
  · rw [← b]; exact has_any _ 66 w
  · rw [← c]; exact has_any _ 78 w
  · rw [← d]; exact has_any _ 84 w
  · rw [← e]; exact has_any _ 86 w
theorem allowed_any (n : Int) (c : Bool) (w : World) : Calls Tryz.prog 149 #[.int .i64 n, .bool c] w fun e w' => e = .returned (.bool (eOk n c)) ∧ w' = w := by
  by_cases h0 : n = 0
  · subst h0
    rw [show eOk 0 c = true from rfl]
    go_enter Tryz.func149, Tryz.ntmps149
    go_wp2_with fail
    go_ret
    exact ⟨rfl, rfl⟩
  · have h0' : (n == 0) = false := by simpa using h0
    by_cases h1 : 0 < n
    · rw [show eOk n c = c by simp [eOk, h0, h1]]
      cases c
      · go_enter Tryz.func149, Tryz.ntmps149
        go_wp2_with fail
        go_ret
        exact ⟨rfl, rfl⟩
      · go_enter Tryz.func149, Tryz.ntmps149
        go_wp2_with fail
        go_ret
        exact ⟨rfl, rfl⟩
    · rw [show eOk n c = false by simp [eOk, h0, h1]]
      go_enter Tryz.func149, Tryz.ntmps149
      go_wp2_with fail
      go_ret
      exact ⟨rfl, rfl⟩
end Go.Proofs.YtnfobnnbeefeeaaGreatDoor.Wi
/- inRange, Check. -/
namespace Go.Proofs.YtnfobnnbeefeeaaGreatDoor.Wi
open Go Go.RowKit
set_option linter.unusedVariables false
set_option linter.unusedSimpArgs false
theorem quietOf {P : Program} {f : FuncId} {args : Array Value} {v : Value} (h : ∀ W, Calls P f args W fun e w' => e = .returned v ∧ w' = W) (w : World) (m : Nat) : Calls P f args (w.drewN m) fun e w' => e = .returned v ∧ ∃ n, w' = w.drewN n := (h _).mono fun _ _ h => ⟨h.1, m, h.2⟩
theorem rng_eq (x : Ev) : x.rng = (decide (1 ≤ x.id) && decide (x.id ≤ 1048576) && decide (0 ≤ x.time) && decide (x.time ≤ 4611686018427387903) && eOk x.a (eA x.kind) && eOk x.b (eB x.kind)) := rfl
set_option maxHeartbeats 8000000 in
set_option maxRecDepth 100000 in
theorem inRange_any (x : Ev) (F : ByteArray) (hF : HasK x.kind F) (N : Nat) (w : World) (hx : x.At N w) : Calls Tryz.prog 127 #[.agg x.cells.toArray, .string F] w fun e w' => e = .returned (.bool x.rng) ∧ Below w.heap.size w w' := by
  obtain ⟨R, hR⟩ : ∃ R, R = x.rng := ⟨_, rfl⟩
  rw [← hR]
  rw [rng_eq] at hR
  obtain ⟨hid, htime, _, ha, hb, _, _, _⟩ := hx
  obtain ⟨w1, hw1⟩ : ∃ bx, bx = w.alloc (.cells x.cells.toArray 28) := ⟨_, rfl⟩
  obtain ⟨g, hg⟩ : ∃ bx, bx = w.heap.size := ⟨_, rfl⟩
  have bw1 : Below w.heap.size w w1 := by rw [hw1]; exact (Below.refl _ _).alloc (Nat.le_refl _) _
  have nw1 : w1.heap[g]? = some (.cells x.cells.toArray 28 (0, 0)) := by rw [hw1, hg]; exact heap_alloc_new _ _
  have Kw1 := Lib.hid (rowE nw1)
  have Cw1 := Lib.hid (evC nw1)
  have Hw1 := Lib.hid hw1
  have Hg := Lib.hid hg
  have Bw1 := Lib.hid bw1
  have Nw1 := Lib.hid nw1
  clear hw1 hg bw1 nw1
  have c0 := Cw1.out.c0
  have c1 := Cw1.out.c1
  have c3 := Cw1.out.c3
  have c4 := Cw1.out.c4
  have FA := Lib.hid hF.a
  have FB := Lib.hid hF.b
  clear hF
  obtain ⟨i, hi⟩ : ∃ i, i = x.id := ⟨_, rfl⟩
  obtain ⟨t, ht⟩ : ∃ t, t = x.time := ⟨_, rfl⟩
  obtain ⟨a, hae⟩ : ∃ a, a = x.a := ⟨_, rfl⟩
  obtain ⟨b, hbe⟩ : ∃ b, b = x.b := ⟨_, rfl⟩
  obtain ⟨ka, hka⟩ : ∃ ka, ka = eA x.kind := ⟨_, rfl⟩
  obtain ⟨kb, hkb⟩ : ∃ kb, kb = eB x.kind := ⟨_, rfl⟩
  rw [← hi] at c0 hR hid
  rw [← ht] at c1 hR htime
  rw [← hae] at c3 hR ha
  rw [← hbe] at c4 hR hb
  rw [← hka] at FA hR
  rw [← hkb] at FB hR
  have AA := Lib.hid (fun W => allowed_any a ka W)
  have AB := Lib.hid (fun W => allowed_any b kb W)
  clear hi ht hae hbe hka hkb hid htime ha hb
  go_enter Tryz.func127, Tryz.ntmps127
  go_upto_region 1 with fail
  rw [← Hw1.out, ← Hg.out]
  by_cases h1 : 1 ≤ i
  case neg =>
    have d1 := decide_eq_false h1
    obtain rfl : R = false := by rw [hR]; simp [h1]
    clear hR h1
    go_quiet (fail)
    go_wp2_with fail
    go_ret
    exact ⟨rfl, below_drewG Bw1.out _⟩
  have d1 := decide_eq_true h1
  by_cases h2 : i ≤ 1048576
  case neg =>
    have d2 := decide_eq_false h2
    obtain rfl : R = false := by rw [hR]; simp [h1, h2]
    clear hR h1 h2
    go_quiet (fail)
    go_wp2_with fail
    go_ret
    exact ⟨rfl, below_drewG Bw1.out _⟩
  have d2 := decide_eq_true h2
  by_cases h3 : 0 ≤ t
  case neg =>
    have d3 := decide_eq_false h3
    obtain rfl : R = false := by rw [hR]; simp [h1, h2, h3]
    clear hR h1 h2 h3
    go_quiet (fail)
    go_wp2_with fail
    go_ret
    exact ⟨rfl, below_drewG Bw1.out _⟩
  have d3 := decide_eq_true h3
  by_cases h4 : t ≤ 4611686018427387903
  case neg =>
    have d4 := decide_eq_false h4
    obtain rfl : R = false := by rw [hR]; simp [h1, h2, h3, h4]
    clear hR h1 h2 h3 h4
    go_quiet (fail)
    go_wp2_with fail
    go_ret
    exact ⟨rfl, below_drewG Bw1.out _⟩
  have d4 := decide_eq_true h4
  obtain ⟨oa, hoa⟩ : ∃ oa, oa = eOk a ka := ⟨_, rfl⟩
  obtain ⟨ob, hob⟩ : ∃ ob, ob = eOk b kb := ⟨_, rfl⟩
  rw [← hoa] at AA hR
  rw [← hob] at AB hR
  clear hoa hob
  have hR2 : R = (oa && ob) := by rw [hR]; simp [h1, h2, h3, h4]
  clear hR
  cases oa
  · obtain rfl : R = false := hR2
    clear h1 h2 h3 h4
    go_quiet (first | (go_at_call 97; first | (with_reducible exact quietOf FA.out _ _) | (with_reducible exact quietOf FB.out _ _)) | (go_at_call 149; first | (with_reducible exact quietOf AA.out _ _) | (with_reducible exact quietOf AB.out _ _)))
    go_wp2_with fail
    go_ret
    exact ⟨rfl, below_drewG Bw1.out _⟩
  · obtain rfl : R = ob := hR2
    clear h1 h2 h3 h4
    go_quiet (first | (go_at_call 97; first | (with_reducible exact quietOf FA.out _ _) | (with_reducible exact quietOf FB.out _ _)) | (go_at_call 149; first | (with_reducible exact quietOf AA.out _ _) | (with_reducible exact quietOf AB.out _ _)))
    go_wp2_with fail
    go_ret
    exact ⟨rfl, below_drewG Bw1.out _⟩
end Go.Proofs.YtnfobnnbeefeeaaGreatDoor.Wi
